import PyProof.Rows.All
import Wide.All
import OpenK.AllK
import Wide.FinOn
import Lean
import PyProof.EqAt
import PyProof.EqKinds
import PyProof.TupleCall
import PySem.Challenge.RW_lightshares_k08_deeds_by_name_in_turn
set_option Elab.async false
set_option linter.all false
set_option maxRecDepth 100000
namespace L2
open PySem PySem.Spec PyProof.Rows
noncomputable abbrev Key:=Sum Int Str
noncomputable def xV:Key→Value→Bool
  | .inl k,v=>Value.isInt k v
  | .inr x,v=>Value.isStrOf x v
noncomputable def aMA (w:World):Key→Int
  | .inl k=>hashInt k
  | .inr x=>hashStr w x
theorem bO:∀ {k:Key} {v:Value},xV k v=true→(∃ i t,k=Sum.inl i∧v=Value.int i t)∨(∃ x t,k=Sum.inr x∧v=Value.str x t)
  | .inl i,v,h=>by
    obtain ⟨t,e⟩:=Value.isInt_shape (k:=i) (v:=v) h
    exact .inl ⟨i,t,rfl,e⟩
  | .inr x,v,h=>by
    obtain ⟨t,e⟩:=Value.isStrOf_shape (x:=x) (v:=v) h
    exact .inr ⟨x,t,rfl,e⟩
theorem QN (i:Int) (t:Tok):xV (.inl i) (.int i t)=true:=by simp [xV,Value.isInt]
theorem TB (x:Str) (t:Tok):xV (.inr x) (.str x t)=true:=by simp [xV,Value.isStrOf]
theorem aF5 (a b:Int):decide ((Sum.inl a:Key)=Sum.inl b)=(a == b):=by
  by_cases e:a=b
  · subst e; simp
  · have h:¬(Sum.inl a:Key)=Sum.inl b:=fun q=>e (Sum.inl.inj q)
    rw [decide_eq_false h]
    exact (beq_eq_false_iff_ne.mpr e).symm
theorem aHv (a b:Str):decide ((Sum.inr a:Key)=Sum.inr b)=decide (a=b):=by
  by_cases e:a=b
  · subst e; simp
  · have h:¬(Sum.inr a:Key)=Sum.inr b:=fun q=>e (Sum.inr.inj q)
    rw [decide_eq_false h,decide_eq_false e]
theorem aHB (a:Int) (b:Str):decide ((Sum.inl a:Key)=Sum.inr b)=false:=decide_eq_false (fun q=>nomatch q)
theorem aG9 (a:Str) (b:Int):decide ((Sum.inr a:Key)=Sum.inl b)=false:=decide_eq_false (fun q=>nomatch q)
noncomputable def eO (prog:Program) (w:World):PySem.KeyKind prog w Key where
  is:=xV
  hash:=aMA w
  inj :=fun v a b ha hb=>by
    rcases bO ha with ⟨i,t,rfl,rfl⟩ | ⟨x,t,rfl,rfl⟩
    · rcases bO hb with ⟨j,u,rfl,e⟩ | ⟨y,u,rfl,e⟩
      · injection e with e1 _; rw [e1]
      · exact nomatch e
    · rcases bO hb with ⟨j,u,rfl,e⟩ | ⟨y,u,rfl,e⟩
      · exact nomatch e
      · injection e with e1 _; rw [e1]
  byValue:=fun k v h=>by
    rcases bO h with ⟨i,t,rfl,rfl⟩ | ⟨x,t,rfl,rfl⟩ <;> rfl
  pyHash:=fun hv h=>by
    rcases bO hv with ⟨i,t,rfl,rfl⟩ | ⟨x,t,rfl,rfl⟩
    · exact wpAny_pyHash_int h
    · exact wpAny_pyHash_str h
  eqBool:=fun hu hv h=>by
    rcases bO hu with ⟨i,t,rfl,rfl⟩ | ⟨x,t,rfl,rfl⟩
    · rcases bO hv with ⟨j,u,rfl,rfl⟩ | ⟨y,u,rfl,rfl⟩
      · rw [aF5] at h; exact wpAny_eqBool_int h
      · rw [aHB] at h; exact SeqAt.EqAt.int_str i t y u _ _ _ _ h
    · rcases bO hv with ⟨j,u,rfl,rfl⟩ | ⟨y,u,rfl,rfl⟩
      · rw [aG9] at h; exact SeqAt.EqAt.str_int x t j u _ _ _ _ h
      · rw [aHv] at h; exact wpAny_eqBool_str h
  «strs» :=fun k x t v h=>by
    rcases bO h with ⟨i,u,rfl,e⟩ | ⟨y,u,rfl,e⟩
    · exact nomatch e
    · injection e with e1 _
      subst e1
      cases v <;> rfl
theorem aFv (prog:Program) (w:World) (k:Key) (v:Value):(eO prog w).is k v=xV k v:=rfl
theorem FN (prog:Program) (w:World) (i:Int) (t:Tok):(eO prog w).is (.inl i) (.int i t)=true:=QN i t
theorem HP (prog:Program) (w:World) (x:Str) (t:Tok):(eO prog w).is (.inr x) (.str x t)=true:=TB x t
inductive V where
  | non | bl (b:Bool) | int (i:Int) | str (x:Str) | byt (b:Array UInt8) | flt (b:UInt64) | ref (a:Addr) | ty (n:String)
  deriving DecidableEq
noncomputable def aL:V→Value→Prop
  | .non,u=>u=Value.none
  | .bl b,u=>u=Value.bool b
  | .int i,u=>∃ t,u=Value.int i t
  | .str x,u=>∃ t,u=Value.str x t
  | .byt b,u=>∃ t,u=Value.bytes b t
  | .flt b,u=>∃ t,u=Value.float b t
  | .ref a,u=>u=Value.ref a
  | .ty n,u=>u=Value.type n
noncomputable abbrev aI:List V→List Value→Prop:=Paired aL
theorem aI.length {xs:List V} {us:List Value} (r:aI xs us):xs.length=us.length:=Paired.length r
theorem aI.get:∀ {xs:List V} {us:List Value} {i:Nat} {x:V},aI xs us→xs[i]? =some x→∃ u,us[i]? =some u∧aL x u
  | _,_,_,_,.nil,e=>by simp at e
  | _,_,0,_,.cons r _,e=>by simp at e; subst e; exact ⟨_,rfl,r⟩
  | _,_,i + 1,x,.cons _ t,e=>by
    obtain ⟨u,h1,h2⟩:=aI.get (i:=i) (x:=x) t (by simpa using e)
    exact ⟨u,by simpa using h1,h2⟩
theorem aI.set {x:V} {u:Value} (r:aL x u):∀ {xs:List V} {us:List Value} (i:Nat),aI xs us→aI (xs.set i x) (us.set i u)
  | _,_,_,.nil=>.nil
  | _,_,0,.cons _ t=>.cons r t
  | _,_,i + 1,.cons q t=>.cons q (aI.set r i t)
theorem aI.append:∀ {xs ys:List V} {us ws:List Value},aI xs us→aI ys ws→aI (xs ++ ys) (us ++ ws)
  | _,_,_,_,.nil,s=>s
  | _,_,_,_,.cons r t,s=>.cons r (aI.append t s)
theorem aI.take:∀ {xs:List V} {us:List Value} (n:Nat),aI xs us→aI (xs.take n) (us.take n)
  | _,_,0,_=>.nil
  | _,_,_ + 1,.nil=>.nil
  | _,_,n + 1,.cons r t=>.cons r (aI.take n t)
theorem aI.drop:∀ {xs:List V} {us:List Value} (n:Nat),aI xs us→aI (xs.drop n) (us.drop n)
  | _,_,0,r=>r
  | _,_,_ + 1,.nil=>.nil
  | _,_,n + 1,.cons _ t=>aI.drop n t
noncomputable def nZ:Option V→Option Value→Prop
  | some v,some u=>aL v u
  | none,none=>True
  | _,_=>False
noncomputable def KV {κ:Type}:List (κ×V)→List (κ×Value)→Prop:=Paired fun (p:κ×V) (q:κ×Value)=>p.1=q.1∧aL p.2 q.2
noncomputable def kV:Key→V
  | .inl i=>.int i
  | .inr x=>.str x
inductive HO where
  | lst (xs:List V)
  | tup (xs:List V)
  | dK (kvs:List (Key×V)) | dT (kvs:List (List Key×V))
  | set (S:Int→Bool) (n:Nat)
  | ins (C dx:Addr) (fs:List (Str×V))
  | own (x:Addr)
  | xd (fs:List (Str×V))
  | met (f x:Addr)
  | rng (lo hi:Int)
  | frz (o:Obj) (u:HO)
  | tbl (ps:Array Value)
  | ext (φ:Heap→Prop)
noncomputable abbrev Hp:=Addr→Option HO
noncomputable def upd (H:Hp) (a:Addr) (o:HO):Hp:=fun b=>if b=a then some o else H b
theorem aZ {H:Hp} {a:Addr} {o:HO}:upd H a o a=some o:=by unfold upd; rw [if_pos rfl]
theorem aH {H:Hp} {a b:Addr} {o:HO} (h:b≠a):upd H a o b=H b:=by unfold upd; rw [if_neg h]
theorem aO {H:Hp} {a b:Addr} {o:HO} (h:H a=some o) (h':H b=none):a≠b:=by
  intro e; subst e; rw [h] at h'; cases h'
noncomputable def iH (h:Heap) (a:Addr) (items:Array Value):Prop:=IsTup h a items∧∀ o,h.get? a=some o→o.dict=none
theorem iH.new (h:Heap) (items:Array Value):iH (h.push { cls:=.type "tuple",data:=.seq items }) h.objs.size items:=⟨IsTup.new h items,fun o e=>by rw [Heap.get?_push_size _ rfl] at e; cases e; rfl⟩
section
variable (P:Program) (w:World)
noncomputable def dA (H:Hp) (h:Heap) (a:Addr):HO→Prop
  | .lst xs=>xs.length≤sizeLine∧∃ (its:List Value) (n:Nat),aI xs its∧h.get? a=some { cls:=.type "list",data:=.seq its.toArray n }
  | .tup xs=>xs.length≤sizeLine∧∃ its:List Value,aI xs its∧iH h a its.toArray
  | .dK kvs=>kvs.length≤sizeLine∧(a == sysModules)=false∧∃ vs,KV kvs vs∧h.DictOf (eO P w) a vs
  | .dT kvs=>kvs.length≤sizeLine∧(a == sysModules)=false∧∃ xs:List (List Key×Addr×Value),
      Paired (fun (p:List Key×V) (q:List Key×Addr×Value)=>p.1=q.1∧H q.2.1=some (.tup (p.1.map kV))∧aL p.2 q.2.2) kvs xs∧
      ∃ o es ep,h.get? a=some o∧o.ExactDict∧o.data= .dict es ep∧es.toList=xs.map (entryOfKey (tupleKind (eO P w)))∧(xs.map (·.1)).Nodup
  | .set S n=>h.SetOf (intKind P w) a S n
  | .ins C dx fs=>H dx=some (.own a)∧fs.length≤1000∧dx≠a∧h.get? a=some (W.instObj C dx)∧
      ∃ mA,h.Ns1 dx mA∧(∀ f,nZ (fs.lookup f) (mA f))∧PySem.Within mA (fs.map (·.1))
  | .own _=>∃ o,h.get? a=some o
  | .xd fs=>∃ mA,h.Ns1 a mA∧∀ f,nZ (fs.lookup f) (mA f)
  | .rng lo hi=>∃ t u v,h.get? a=some { cls:=.type "range",data:=.fields #[.int lo t,.int hi u,.int 1 v] }
  | .frz o u=>h.get? a=some o∧dA H h a u
  | .tbl ps=>h.get? a=some { cls:=.none,data:=.fields ps }
  | .met f x=>h.get? a=some (W.methodObj (.ref f) (.ref x))
  | .ext φ=>φ h∧(∃ o,h.get? a=some o)∧∀ h1 h2:Heap,φ h1→(∀ o,h1.get? a=some o→h2.get? a=some o)→φ h2
noncomputable def HOk (H:Hp) (h:Heap):Prop:= ∀ a o,H a=some o→dA P w H h a o
end
section
variable {P:Program} {w:World} {H H':Hp} {h h':Heap} {a:Addr} {o:HO}
theorem dA.lt (x:dA P w H h a o):a < h.objs.size:=by
  cases o with
  | lst xs=>obtain ⟨_,_,_,_,e⟩:=x; exact Heap.lt_size e
  | tup xs=>obtain ⟨_,_,_,p⟩:=x; exact p.1.lt
  | dK kvs=>obtain ⟨_,_,_,_,o,_,_,e,_⟩:=x; exact Heap.lt_size e
  | dT kvs=>obtain ⟨_,_,_,_,o,_,_,e,_⟩:=x; exact Heap.lt_size e
  | set S n=>obtain ⟨o,_,_,_,e,_⟩:=x; exact Heap.lt_size e
  | ins C dx fs=>obtain ⟨_,_,_,e,_⟩:=x; exact Heap.lt_size e
  | own y=>obtain ⟨_,e⟩:=x; exact Heap.lt_size e
  | xd fs=>obtain ⟨_,⟨_,_,_,e,_⟩,_⟩:=x; exact Heap.lt_size e
  | rng lo hi=>obtain ⟨_,_,_,e⟩:=x; exact Heap.lt_size e
  | frz ob u=>obtain ⟨e,_⟩:=x; exact Heap.lt_size e
  | tbl ps=>exact Heap.lt_size (show h.get? a=some _ from x)
  | met f y=>exact Heap.lt_size (show h.get? a=some _ from x)
  | ext φ=>obtain ⟨_,⟨_,e⟩,_⟩:=x; exact Heap.lt_size e
theorem Paired.mapP {α β:Type} {F G:α→β→Prop}:∀ {l₁:List α} {l₂:List β},Paired F l₁ l₂→(∀ a b,F a b→G a b)→Paired G l₁ l₂
  | _,_,.nil,_=>.nil
  | _,_,.cons r t,f=>.cons (f _ _ r) (Paired.mapP t f)
theorem dA.stay (x:dA P w H h a o) (k:∀ b u,(b=a∨H b=some (.own a))→h.get? b=some u→h'.get? b=some u)
    (ho:∀ b,H b=some (.own a)→H' b=some (.own a)) (ht:∀ b xs,H b=some (.tup xs)→H' b=some (.tup xs)):dA P w H' h' a o:=by
  induction o with
  | lst xs=>obtain ⟨z,its,n,r,e⟩:=x; exact ⟨z,its,n,r,k _ _ (.inl rfl) e⟩
  | tup xs=>obtain ⟨z,its,r,⟨ob,e,c⟩,dn⟩:=x; exact ⟨z,its,r,⟨ob,k _ _ (.inl rfl) e,c⟩,fun o q=>by rw [k _ _ (.inl rfl) e] at q; cases q; exact dn _ e⟩
  | dK kvs=>obtain ⟨z,y,vs,r,ob,es,ep,e,c⟩:=x; exact ⟨z,y,vs,r,ob,es,ep,k _ _ (.inl rfl) e,c⟩
  | dT kvs =>
    obtain ⟨z,y,xs,r,ob,es,ep,e,c⟩:=x
    exact ⟨z,y,xs,Paired.mapP r fun p q z=>⟨z.1,ht _ _ z.2.1,z.2.2⟩,ob,es,ep,k _ _ (.inl rfl) e,c⟩
  | set S n=>obtain ⟨ob,es,ep,t,e,c⟩:=x; exact ⟨ob,es,ep,t,k _ _ (.inl rfl) e,c⟩
  | ins C dx fs =>
    obtain ⟨d,z,ne,e,mA,⟨od,es,ep,e2,c⟩,r⟩:=x
    exact ⟨ho _ d,z,ne,k _ _ (.inl rfl) e,mA,⟨od,es,ep,k _ _ (.inr d) e2,c⟩,r⟩
  | own y=>obtain ⟨ob,e⟩:=x; exact ⟨ob,k _ _ (.inl rfl) e⟩
  | xd fs=>obtain ⟨mA,⟨od,es,ep,e,c⟩,r⟩:=x; exact ⟨mA,⟨od,es,ep,k _ _ (.inl rfl) e,c⟩,r⟩
  | rng lo hi=>obtain ⟨t,u,v,e⟩:=x; exact ⟨t,u,v,k _ _ (.inl rfl) e⟩
  | frz ob u ih=>obtain ⟨e,q⟩:=x; exact ⟨k _ _ (.inl rfl) e,ih q⟩
  | tbl ps =>
    have e:h.get? a=some { cls:=.none,data:=.fields ps }:=x
    show h'.get? a=some { cls:=.none,data:=.fields ps }
    exact k a _ (.inl rfl) e
  | met f y =>
    have e:h.get? a=some (W.methodObj (.ref f) (.ref y)):=x
    show h'.get? a=some (W.methodObj (.ref f) (.ref y))
    exact k a _ (.inl rfl) e
  | ext φ=>obtain ⟨p,⟨o,e⟩,st⟩:=x; exact ⟨st _ _ p fun o q=>k _ _ (.inl rfl) q,⟨o,k _ _ (.inl rfl) e⟩,st⟩
theorem HOk.lt (x:HOk P w H h) (e:H a=some o):a < h.objs.size:=(x a o e).lt
theorem HOk.fresh (x:HOk P w H h) (e:h.objs.size≤a):H a=none:=by
  cases q:H a with
  | none=>rfl
  | some u=>exact absurd (Nat.lt_of_lt_of_le (x.lt q) e) (Nat.lt_irrefl _)
theorem HOk.kept (x:HOk P w H h) (k:∀ b u,h.get? b=some u→h'.get? b=some u):HOk P w H h':=fun a o e =>
  (x a o e).stay (fun b u _ q=>k b u q) (fun _ q=>q) fun _ _ q=>q
theorem HOk.laid (x:HOk P w H h) (k:∀ b u,h.get? b=some u→h'.get? b=some u) (hp:h.objs.size≤a) (new:dA P w (upd H a o) h' a o):HOk P w (upd H a o) h':=fun b u e=>by
  have hn:=x.fresh hp
  by_cases hb:b=a
  · subst hb; rw [aZ] at e; cases e; exact new
  · rw [aH hb] at e
    exact (x b u e).stay (fun c v _ q=>k c v q) (fun c q=>by rw [aH (aO q hn)]; exact q) fun c xs q=>by rw [aH (aO q hn)]; exact q
end
noncomputable def Rd (H:Hp) (a:Addr) (u:HO):Prop:=H a=some u∨∃ o,H a=some (.frz o u)
theorem Rd.of {H:Hp} {a:Addr} {u:HO} (h:H a=some u):Rd H a u:=.inl h
theorem Rd.ok {P:Program} {w:World} {H:Hp} {h:Heap} {a:Addr} {u:HO} (r:Rd H a u) (x:HOk P w H h):dA P w H h a u:=by
  rcases r with r | ⟨o,r⟩
  · exact x a u r
  · obtain ⟨_,q⟩:=x a _ r
    exact q
noncomputable def Mut:Option HO→Prop
  | some (.lst _)=>True
  | some (.dK _)=>True
  | some (.dT _)=>True
  | some (.set _ _)=>True
  | some (.ins _ _ _)=>True
  | some (.ext _)=>True
  | _=>False
section
variable {P:Program} {w:World} {H:Hp} {h h':Heap} {x e:Addr} {o':HO}
theorem HOk.write (ok:HOk P w H h) (mu:Mut (H x)) (he:e=x∨H e=some (.own x)) (k:∀ b u,b≠e→h.get? b=some u→h'.get? b=some u) (heo:∃ u,h'.get? e=some u)
    (new:dA P w (upd H x o') h' x o'):HOk P w (upd H x o') h':=fun b u q=>by
  have nown:∀ c y,H c=some (.own y)→c≠x:=fun c y r z=>by subst z; rw [r] at mu; exact mu
  have ntup:∀ c xs,H c=some (.tup xs)→c≠x:=fun c xs r z=>by subst z; rw [r] at mu; exact mu
  by_cases hb:b=x
  · subst hb; rw [aZ] at q; cases q; exact new
  · rw [aH hb] at q
    by_cases hbe:b=e
    · have q':H b=some (.own x):=by
        rcases he with z | z
        · exact absurd (hbe.trans z) hb
        · rw [hbe]; exact z
      rw [q] at q'; cases q'
      obtain ⟨v,hv⟩:=heo
      exact ⟨v,by rw [hbe]; exact hv⟩
    · refine (ok b u q).stay (fun c v hc r=>k c v ?_ r) (fun c r=>by rw [aH (nown c b r)]; exact r) fun c xs r=>by rw [aH (ntup c xs r)]; exact r
      rcases hc with rfl | hc
      · exact hbe
      · rintro rfl
        rcases he with z | z
        · exact nown c b hc z
        · rw [hc] at z; cases z; exact hb rfl
end
structure Un (fs ex:List Addr) (H H':Hp) (h h':Heap):Prop where
  keep:∀ b o,h.get? b=some o→H b=none→b∉ fs→b∉ ex→h'.get? b=some o
  slot:∀ b o,h.get? b=some o→H b=none→b∈fs→b∉ ex→∃ sl,h'.get? b=some { o with slots:=sl }
  free:∀ b o,h.get? b=some o→H b=none→b∉ ex→H' b=none
  there:∀ b o,h.get? b=some o→b∉ ex→∃ o',h'.get? b=some o'
  tups:∀ b xs,H b=some (.tup xs)→H' b=some (.tup xs)
  frzs:∀ b o u,H b=some (.frz o u)→H' b=some (.frz o u)
  tbls:∀ b ps,H b=some (.tbl ps)→∃ more,H' b=some (.tbl (ps ++ more))
section
variable {fs fs' ex ex':List Addr} {H H1 H2:Hp} {h h1 h2 h':Heap} {a x e:Addr} {o:HO}
theorem Un.any (u:Un fs ex H H1 h h1) {b:Addr} {ob:Obj} (q:h.get? b=some ob) (n:H b=none) (hx:b∉ ex):∃ sl,h1.get? b=some { ob with slots:=sl }:=by
  by_cases hb:b∈fs
  · exact u.slot b ob q n hb hx
  · exact ⟨ob.slots,u.keep b ob q n hb hx⟩
theorem Un.trans (a:Un fs ex H H1 h h1) (b:Un fs ex H1 H2 h1 h2):Un fs ex H H2 h h2 where
  keep:=fun c ob q n hc hx=>b.keep c ob (a.keep c ob q n hc hx) (a.free c ob q n hx) hc hx
  slot:=fun c ob q n hc hx=>by
    obtain ⟨sl,e1⟩:=a.slot c ob q n hc hx
    obtain ⟨sl',e2⟩:=b.slot c _ e1 (a.free c ob q n hx) hc hx
    exact ⟨sl',e2⟩
  free:=fun c ob q n hx=>by
    obtain ⟨o',e1⟩:=a.there c ob q hx
    exact b.free c o' e1 (a.free c ob q n hx) hx
  there:=fun c ob q hx=>by
    obtain ⟨o',e1⟩:=a.there c ob q hx
    exact b.there c o' e1 hx
  tups:=fun c xs q=>b.tups c xs (a.tups c xs q)
  frzs:=fun c ob xs q=>b.frzs c ob xs (a.frzs c ob xs q)
  tbls:=fun c ps q=>by
    obtain ⟨m1,e1⟩:=a.tbls c ps q
    obtain ⟨m2,e2⟩:=b.tbls c _ e1
    exact ⟨m1 ++ m2,by rw [e2,Array.append_assoc]⟩
theorem Un.kept (k:∀ b u,h.get? b=some u→h'.get? b=some u):Un fs ex H H h h' :=
  ⟨fun b ob q _ _ _=>k b ob q,fun b ob q _ _ _=>⟨ob.slots,k b ob q⟩,fun _ _ _ n _=>n,fun b ob q _=>⟨ob,k b ob q⟩,fun _ _ q=>q,fun _ _ _ q=>q,fun _ ps q=>⟨#[],by rw [q]; simp⟩⟩
theorem Un.refl:Un fs ex H H h h:=Un.kept fun _ _ q=>q
theorem Un.laid (k:∀ b u,h.get? b=some u→h'.get? b=some u) (hp:h.objs.size≤a) (hn:H a=none):Un fs ex H (upd H a o) h h' where
  keep:=fun b u q _ _ _=>k b u q
  slot:=fun b u q _ _ _=>⟨u.slots,k b u q⟩
  free:=fun b u q n _=>by rw [aH (Nat.ne_of_lt (Nat.lt_of_lt_of_le (Heap.lt_size q) hp))]; exact n
  there:=fun b u q _=>⟨u,k b u q⟩
  tups:=fun b xs q=>by rw [aH (aO q hn)]; exact q
  frzs:=fun b u xs q=>by rw [aH (aO q hn)]; exact q
  tbls:=fun b ps q=>⟨#[],by rw [aH (aO q hn),q]; simp⟩
theorem Un.write (mu:Mut (H x)) (he:e=x∨H e=some (.own x)) (k:∀ b u,b≠e→h.get? b=some u→h'.get? b=some u) (heo:∃ u,h'.get? e=some u):Un fs ex H (upd H x o) h h':=by
  have hx:∀ b,H b=none→b≠x:=fun b n z=>by subst z; rw [n] at mu; exact mu
  have hb:∀ b,H b=none→b≠e:=fun b n z=>by
    subst z
    rcases he with r | r
    · exact hx b n r
    · rw [n] at r; cases r
  have hm:∀ b u,H b=some u→¬Mut (some u)→b≠x:=fun b u q nm z=>by subst z; rw [q] at mu; exact nm mu
  refine ⟨fun b u q n _ _=>k b u (hb b n) q,fun b u q n _ _=>⟨u.slots,k b u (hb b n) q⟩,fun b u q n _=>by rw [aH (hx b n)]; exact n,fun b u q _=>?_,
    fun b xs q=>by rw [aH (hm b _ q fun z=>z)]; exact q,fun b u xs q=>by rw [aH (hm b _ q fun z=>z)]; exact q,fun b ps q=>⟨#[],by rw [aH (hm b _ q fun z=>z),q]; simp⟩⟩
  by_cases hbe:b=e
  · subst hbe; exact heo
  · exact ⟨u,k b u hbe q⟩
theorem Un.mono (u:Un fs ex H H1 h h1) (hs:∀ b∈fs,b∈fs') (hx:∀ b∈ex,b∈ex'):Un fs' ex' H H1 h h1 :=
  ⟨fun b ob q n hb he=>u.keep b ob q n (fun z=>hb (hs b z)) fun z=>he (hx b z),fun _ _ q n _ he=>u.any q n fun z=>he (hx _ z),fun b ob q n he=>u.free b ob q n fun z=>he (hx b z),fun b ob q he=>u.there b ob q fun z=>he (hx b z),u.tups,u.frzs,u.tbls⟩
end
noncomputable def trk (h:Heap) (H:Hp):List Addr:=(List.range h.objs.size).filter fun a=>(H a).isSome
noncomputable def DK (h:Heap) (H:Hp):Heap:=W.hideAll h (trk h H)
theorem QU (h:Heap) (H:Hp):(DK h H).objs.size=h.objs.size:=W.hideAll_size _ _
theorem WG {h:Heap} {H:Hp} {b:Addr} {o:Obj} (e:h.get? b=some o) (n:H b=none):(DK h H).get? b=some o :=
  W.hideAll_get _ e fun hm=>by
    have q:(H b).isSome=true:=(List.mem_filter.mp hm).2
    rw [n] at q; simp at q
theorem aDb {h:Heap} {H:Hp} {b:Addr} {o:Obj} (e:(DK h H).get? b=some o):h.get? b=some o∧H b=none:=by
  have e':h.get? b=some o:=W.of_hideAll (trk h H) e
  refine ⟨e', ?_⟩
  cases q:H b with
  | none=>rfl
  | some x =>
    have hm:b∈trk h H:=List.mem_filter.mpr ⟨List.mem_range.mpr (Heap.lt_size e'),by simp [q]⟩
    have z:(DK h H).get? b=none:=W.hideAll_none (trk h H) hm
    rw [z] at e; cases e
noncomputable def aCO (g h:Heap) (L:Addr):List (Addr×Obj):=(List.range h.objs.size).filterMap fun a=>if a=L∨(g.get? a).isSome=true then none else (h.get? a).map fun o=>(a,o)
noncomputable def dC (g h:Heap) (L d:Addr):List (Addr×Obj):=(aCO g h L).filter fun p=>decide (p.1≠d)
structure Mod (K:W.Frag) (mg:Str→Option Value) (base:Heap):Prop where
  kin:K.In base
  glob:base.Ns mainGlobals mg
  blt:∃ mb,base.Ns builtinsNs mb∧∀ x:Str,x≠"__name__"→mb x=bootBuiltins x
  nolimit:base.NoLimit
structure Cx where
  prog:Program
  w:World
  K:W.Frag
  mg:Str→Option Value
  base:Heap
  A:Around
  N:List Str
  s₀:Shared
  H₀:Hp
  env:Env
  outer:List Env
  stack:List Env
  ex:List Addr
  fn:Str→Bool
  calm:Bool
  pn:List (Addr×Obj)
  xe:Value→Shared→Prop
noncomputable def frs (l:List Env):List Addr:=l.filterMap (·.frame)
noncomputable abbrev Cx.fs (X:Cx):List Addr:=frs X.outer
noncomputable def Vis (sc:Scope) (x:Str):Prop:=sc.names.lookup x=some .local∨sc.names.lookup x=some .cell∨sc.names.lookup x=some .free
noncomputable def Loc (sc:Scope) (x:Str):Prop:=sc.names.lookup x=some .local∨sc.names.lookup x=some .cell
noncomputable def aL0 (env:Env) (h:Heap) (m:Str→Option Value) (x:Str) (u:Value):Prop :=
  (env.kindOf x=some .local∧m x=some u)∨((env.kindOf x=some .cell∨env.kindOf x=some .free)∧∃ c,env.cells.lookup x=some c∧h.IsCell c (some u))
structure Cx.Ok (X:Cx):Prop where
  mod:Mod X.K X.mg X.base
  kind:X.env.scope.kind= .function
  glob:X.env.globals=mainGlobals
  blt:X.env.builtins=builtinsNs
  above:X.s₀.heap.objs.size≤X.env.locals
  inj:∀ x y c,X.env.cells.lookup x=some c→X.env.cells.lookup y=some c→x=y
  has:∀ x,(X.env.kindOf x=some .cell∨X.env.kindOf x=some .free)→∃ c,X.env.cells.lookup x=some c
  cab:∀ x c,X.fn x=true→X.env.cells.lookup x=some c→X.s₀.heap.objs.size≤c
  hd:X.calm=true→X.A.handled=none
  frames:X.A.frames=some X.stack
  stk:X.stack=X.outer∨(X.stack=X.env :: X.outer∧X.env.frame=some X.env.locals)
  exf:∀ b∈X.ex,b≠X.env.locals∧∀ x c,X.env.cells.lookup x=some c→c≠b
  bs:∀ b o,X.base.get? b=some o→X.s₀.heap.get? b=some o∧X.H₀ b=none
  bsz:X.base.objs.size≤X.s₀.heap.objs.size
  noex:∀ b o,X.base.get? b=some o→b∉ X.ex
  exfs:∀ b∈X.ex,b∉ X.fs
  funs:X.s₀.heap.FunFrames X.base X.outer
  frf:∀ b∈X.fs,X.H₀ b=none
structure Inv (X:Cx) (pins:List (Addr×Obj)) (σ:List (Option V)) (H:Hp) (s:Shared):Prop where
  ok:X.Ok
  os:s.os=X.s₀.os
  bare:AllBare s.gens
  base:Un X.fs X.ex X.H₀ H X.s₀.heap s.heap
  loc:∃ m,s.heap.Ns X.env.locals m∧∀ (i:Nat) (x:Str) (v:V),X.N[i]? =some x→σ[i]? =some (some v)→Vis X.env.scope x→∃ u,aL v u∧aL0 X.env s.heap m x u
  cell:∀ x c,X.env.cells.lookup x=some c→∃ v,s.heap.IsCell c v
  free:H X.env.locals=none
  freeC:∀ x c,X.env.cells.lookup x=some c→H c=none
  pin:∀ p∈X.pn ++ pins,s.heap.get? p.1=some p.2∧H p.1=none∧p.1≠X.env.locals∧p.1∉ X.fs∧∀ v,p.2.data≠.cell v
  hok:HOk X.prog X.w H s.heap
  len:σ.length=X.N.length
section
variable {X:Cx} {pins:List (Addr×Obj)} {σ:List (Option V)} {H H':Hp} {s:Shared} {h':Heap}
theorem Cx.Ok.nofr (ok:X.Ok) {b:Addr} {o:Obj} (e:X.base.get? b=some o):b∉ X.fs:=fun hb=>by
  have:=(ok.funs.mem hb).1
  rw [e] at this; cases this
theorem Inv.bs (I:Inv X pins σ H s):∀ b o,X.base.get? b=some o→s.heap.get? b=some o∧H b=none:=fun b o e =>
  ⟨I.base.keep b o (I.ok.bs b o e).1 (I.ok.bs b o e).2 (I.ok.nofr e) (I.ok.noex b o e),I.base.free b o (I.ok.bs b o e).1 (I.ok.bs b o e).2 (I.ok.noex b o e)⟩
theorem Inv.bk (I:Inv X pins σ H s):∀ b o,X.base.get? b=some o→s.heap.get? b=some o:=fun b o e=>(I.bs b o e).1
theorem Inv.mod (I:Inv X pins σ H s):Mod X.K X.mg X.base:=I.ok.mod
theorem Inv.kIn (I:Inv X pins σ H s):X.K.In s.heap:=I.ok.mod.kin.keeps I.bk
theorem Inv.nolimit (I:Inv X pins σ H s):s.heap.NoLimit:=I.ok.mod.nolimit.keeps I.bk
theorem Inv.fr (I:Inv X pins σ H s):∃ m,Fr X.base X.env.locals s.heap m :=
  let ⟨m,hn,_⟩:=I.loc
  ⟨m,hn,I.bk,Nat.le_trans I.ok.bsz I.ok.above⟩
theorem Inv.lt (I:Inv X pins σ H s):X.env.locals < s.heap.objs.size:=let ⟨_,hn,_⟩:=I.loc; hn.lt
theorem Inv.sz (I:Inv X pins σ H s):X.s₀.heap.objs.size≤s.heap.objs.size:=Nat.le_trans I.ok.above (Nat.le_of_lt I.lt)
theorem Inv.nofs (I:Inv X pins σ H s) {a:Addr} (h:s.heap.objs.size≤a):a∉ X.fs:=fun hb=>by
  obtain ⟨_,o,ho,_⟩:=I.ok.funs.mem hb
  exact absurd (Nat.lt_of_lt_of_le (Heap.lt_size ho) (Nat.le_trans I.sz h)) (Nat.lt_irrefl _)
theorem Inv.cne (I:Inv X pins σ H s):∀ x c,X.env.cells.lookup x=some c→c≠X.env.locals:=fun x c e z=>by
  obtain ⟨v,o,ho,hd⟩:=I.cell x c e
  obtain ⟨m,⟨o',es,ep,ho',hd',_⟩,_⟩:=I.loc
  rw [z,ho'] at ho; cases ho; rw [hd'] at hd; cases hd
theorem Inv.funs (I:Inv X pins σ H s):s.heap.FunFrames X.base X.outer:=by
  have all:∀ (l:List Env),(∀ b∈frs l,b∈X.fs)→X.s₀.heap.FunFrames X.base l→s.heap.FunFrames X.base l:=by
    intro l
    induction l with
    | nil=>intro _ _; trivial
    | cons env r ih =>
      intro hs hl
      obtain ⟨hk,⟨L,o,hf,hn,ho,hd⟩,hr⟩:=hl
      have hL:L∈X.fs:=hs L (by unfold frs; rw [List.filterMap_cons,hf]; exact List.mem_cons_self)
      obtain ⟨sl,e⟩:=I.base.slot L o ho (I.ok.frf L hL) hL fun z=>I.ok.exfs L z hL
      exact ⟨hk,⟨L,_,hf,hn,e,hd⟩,ih (fun b hb=>hs b (by unfold frs; rw [List.filterMap_cons,hf]; exact List.mem_cons_of_mem _ hb)) hr⟩
  exact all X.outer (fun _ hb=>hb) I.ok.funs
theorem Inv.stack (I:Inv X pins σ H s):s.heap.FunFrames X.base X.stack:=by
  rcases I.ok.stk with e | ⟨e,hf⟩
  · rw [e]; exact I.funs
  · rw [e]
    obtain ⟨m,hn,_⟩:=I.loc
    refine .cons (by rw [I.ok.kind]; decide) hf hn ?_ I.funs
    exact Heap.get?_none_of_le (Nat.le_trans I.ok.bsz I.ok.above)
theorem Inv.stkSub (I:Inv X pins σ H s):∀ b∈frs X.stack,b∈X.env.locals :: X.fs:=fun b hb=>by
  rcases I.ok.stk with e | ⟨e,hf⟩
  · rw [e] at hb; exact List.mem_cons_of_mem _ hb
  · rw [e] at hb
    unfold frs at hb
    rw [List.filterMap_cons,hf] at hb
    exact hb
theorem Inv.stkFree (I:Inv X pins σ H s):∀ b∈frs X.stack,H b=none:=fun b hb=>by
  rcases List.mem_cons.mp (I.stkSub b hb) with e | hb
  · rw [e]; exact I.free
  · obtain ⟨_,o,ho,_⟩:=I.ok.funs.mem hb
    exact I.base.free b o ho (I.ok.frf b hb) fun z=>I.ok.exfs b z hb
theorem Inv.step {g':Array GenState} {t':Nat} {d':Drawn} {ch:List Addr} (I:Inv X pins σ H s)
    (hch:∀ b∈ch,(b∈X.ex∨X.s₀.heap.objs.size≤b)∧b≠X.env.locals∧(∀ x c,X.env.cells.lookup x=some c→c≠b)∧∀ p∈X.pn ++ pins,p.1≠b)
    (keep:∀ b o,b≠X.env.locals→b∉ X.fs→b∉ ch→s.heap.get? b=some o→H b=none→h'.get? b=some o)
    (slot:∀ b o,b≠X.env.locals→b∈X.fs→b∉ ch→s.heap.get? b=some o→H b=none→∃ sl,h'.get? b=some { o with slots:=sl }) (free:∀ b o,b∉ ch→s.heap.get? b=some o→H b=none→H' b=none)
    (there:∀ b o,b∉ ch→s.heap.get? b=some o→∃ o',h'.get? b=some o')
    (tups:∀ b xs,H b=some (.tup xs)→H' b=some (.tup xs)) (frzs:∀ b o u,H b=some (.frz o u)→H' b=some (.frz o u)) (tbls:∀ b ps,H b=some (.tbl ps)→∃ more,H' b=some (.tbl (ps ++ more)))
    (ns:∀ m,s.heap.Ns X.env.locals m→h'.Ns X.env.locals m) (hok:HOk X.prog X.w H' h') (hg:AllBare g') :
    Inv X pins σ H' { s with heap:=h',gens:=g',drawn:=d',toks:=t' }:=by
  have neL:∀ b o,X.s₀.heap.get? b=some o→b≠X.env.locals:=fun b o e=>Nat.ne_of_lt (Nat.lt_of_lt_of_le (Heap.lt_size e) I.ok.above)
  have neC:∀ b o,X.s₀.heap.get? b=some o→b∉ X.ex→b∉ ch:=fun b o e hx hb=>by
    rcases (hch b hb).1 with z | z
    · exact hx z
    · exact absurd (Nat.lt_of_lt_of_le (Heap.lt_size e) z) (Nat.lt_irrefl _)
  have cellK:∀ x c,X.env.cells.lookup x=some c→∀ v,s.heap.IsCell c v→h'.IsCell c v:=fun x c e v ⟨o,ho,hd⟩=>by
    have nch:c∉ ch:=fun z=>(hch c z).2.2.1 x c e rfl
    by_cases hc:c∈X.fs
    · obtain ⟨sl,q⟩:=slot c o (I.cne x c e) hc nch ho (I.freeC x c e)
      exact ⟨_,q,hd⟩
    · exact ⟨o,keep c o (I.cne x c e) hc nch ho (I.freeC x c e),hd⟩
  refine ⟨I.ok,I.os,hg,⟨fun b o e n hb hx=>?_,fun b o e n hb hx=>?_,fun b o e n hx=>?_,fun b o e hx=>?_,fun b xs e=>tups b xs (I.base.tups b xs e),fun b o xs e=>frzs b o xs (I.base.frzs b o xs e),fun b ps e=>?_⟩, ?_,fun x c e=>?_, ?_,fun x c e=>?_,fun p hp=>?_,hok,I.len⟩
  · exact keep b o (neL b o e) hb (neC b o e hx) (I.base.keep b o e n hb hx) (I.base.free b o e n hx)
  · obtain ⟨sl,e1⟩:=I.base.slot b o e n hb hx
    obtain ⟨sl',e2⟩:=slot b _ (neL b o e) hb (neC b o e hx) e1 (I.base.free b o e n hx)
    exact ⟨sl',e2⟩
  · obtain ⟨o',e1⟩:=I.base.there b o e hx
    exact free b o' (neC b o e hx) e1 (I.base.free b o e n hx)
  · obtain ⟨o',e1⟩:=I.base.there b o e hx
    exact there b o' (neC b o e hx) e1
  · obtain ⟨m1,e1⟩:=I.base.tbls b ps e
    obtain ⟨m2,e2⟩:=tbls b _ e1
    exact ⟨m1 ++ m2,by rw [e2,Array.append_assoc]⟩
  · obtain ⟨m,hn,hl⟩:=I.loc
    refine ⟨m,ns m hn,fun i x v e1 e2 e3=>?_⟩
    obtain ⟨u,r,l⟩:=hl i x v e1 e2 e3
    refine ⟨u,r, ?_⟩
    rcases l with l | ⟨k,c,e,z⟩
    · exact .inl l
    · exact .inr ⟨k,c,e,cellK x c e _ z⟩
  · obtain ⟨v,z⟩:=I.cell x c e
    exact ⟨v,cellK x c e v z⟩
  · obtain ⟨m,⟨o,_,_,ho,_⟩,_⟩:=I.loc
    exact free _ o (fun z=>(hch _ z).2.1 rfl) ho I.free
  · obtain ⟨v,o,ho,hd⟩:=I.cell x c e
    exact free c o (fun z=>(hch c z).2.2.1 x c e rfl) ho (I.freeC x c e)
  · obtain ⟨e,n,ne,nf,d⟩:=I.pin p hp
    have nch:p.1∉ ch:=fun z=>(hch p.1 z).2.2.2 p hp rfl
    exact ⟨keep p.1 p.2 ne nf nch e n,free p.1 p.2 nch e n,ne,nf,d⟩
theorem Inv.un {t':Nat} (I:Inv X pins σ H s) (u:Un X.fs [] H H' s.heap h') (hok:HOk X.prog X.w H' h'):Inv X pins σ H' { s with heap:=h',toks:=t' }:=by
  obtain ⟨m,⟨o,es,ep,ho,r⟩,_⟩:=id I.loc
  obtain ⟨sl,hL⟩:=u.any ho I.free (by simp)
  exact I.step (g':=s.gens) (d':=s.drawn) (ch:=[]) (fun _ z=>nomatch z) (fun b o _ hb _ e n=>u.keep b o e n hb (by simp)) (fun b o _ hb _ e n=>u.slot b o e n hb (by simp)) (fun b o _ e n=>u.free b o e n (by simp)) (fun b o _ e=>u.there b o e (by simp)) u.tups u.frzs u.tbls (fun m' hm=>by
    obtain ⟨o',es',ep',ho',r'⟩:=hm
    rw [ho] at ho'; cases ho'
    exact ⟨_,es',ep',hL,r'⟩) hok I.bare
theorem Inv.call {g':Array GenState} {t':Nat} {d':Drawn} {ch:List Addr} (I:Inv X pins σ H s) (u:Un (frs X.stack) ch H H' s.heap h') (hok:HOk X.prog X.w H' h') (hg:AllBare g')
    (hch:∀ b∈ch,(b∈X.ex∨X.s₀.heap.objs.size≤b)∧b≠X.env.locals∧(∀ x c,X.env.cells.lookup x=some c→c≠b)∧∀ p∈X.pn ++ pins,p.1≠b) :
    Inv X pins σ H' { s with heap:=h',gens:=g',drawn:=d',toks:=t' }:=by
  obtain ⟨m,⟨o,es,ep,ho,r⟩,_⟩:=id I.loc
  obtain ⟨sl,hL⟩:=u.any ho I.free fun z=>(hch _ z).2.1 rfl
  exact I.step (ch:=ch) hch (fun b o hL hb hc e n=>u.keep b o e n (fun z=>(List.mem_cons.mp (I.stkSub b z)).elim hL hb) hc) (fun b o _ _ hc e n=>u.any e n hc) (fun b o hc e n=>u.free b o e n hc) (fun b o hc e=>u.there b o e hc) u.tups u.frzs u.tbls (fun m' hm=>by
    obtain ⟨o',es',ep',ho',r'⟩:=hm
    rw [ho] at ho'; cases ho'
    exact ⟨_,es',ep',hL,r'⟩) hok hg
theorem Inv.turned {t':Nat} {it:Addr} (I:Inv X pins σ H s) (k:∀ b o,b≠it→s.heap.get? b=some o→h'.get? b=some o) (hn:H it=none) (hL:it≠X.env.locals)
    (h1:it∈X.ex∨X.s₀.heap.objs.size≤it) (h2:∀ x c,X.env.cells.lookup x=some c→c≠it) (h3:∀ p∈X.pn ++ pins,p.1≠it):Inv X pins σ H { s with heap:=h',toks:=t' }:=by
  have nit:∀ b u,H b=some u→b≠it:=fun b u e z=>by rw [z,hn] at e; cases e
  refine I.step (g':=s.gens) (d':=s.drawn) (ch:=[it]) (fun b hb=>?_) (fun b o _ _ hc e _=>k b o (fun z=>hc (by simp [z])) e) (fun b o _ _ hc e _=>⟨o.slots,k b o (fun z=>hc (by simp [z])) e⟩) (fun _ _ _ _ n=>n)
    (fun b o hc e=>⟨o,k b o (fun z=>hc (by simp [z])) e⟩) (fun _ _ e=>e) (fun _ _ _ e=>e) (fun b ps e=>⟨#[],by rw [e]; simp⟩) (fun m hm=>?_) (fun b u e=>?_) I.bare
  · have e:b=it:=by simpa using hb
    subst e
    exact ⟨h1,hL,h2,h3⟩
  · obtain ⟨o,es,ep,ho,r⟩:=hm
    exact ⟨o,es,ep,k _ o (Ne.symm hL) ho,r⟩
  · refine (I.hok b u e).stay (fun c v hc q=>k c v ?_ q) (fun _ q=>q) fun _ _ q=>q
    rcases hc with z | z
    · rw [z]; exact nit b u e
    · exact nit c _ z
theorem Inv.tok (I:Inv X pins σ H s) (t:Nat):Inv X pins σ H { s with toks:=t }:=I.un (h':=s.heap) (t':=t) Un.refl I.hok
theorem Inv.kept {t':Nat} (I:Inv X pins σ H s) (k:∀ b u,s.heap.get? b=some u→h'.get? b=some u):Inv X pins σ H { s with heap:=h',toks:=t' }:=I.un (Un.kept k) (I.hok.kept k)
theorem Inv.laid {a:Addr} {o:HO} {t':Nat} (I:Inv X pins σ H s) (k:∀ b u,s.heap.get? b=some u→h'.get? b=some u) (hp:s.heap.objs.size≤a) (new:dA X.prog X.w (upd H a o) h' a o) :
    Inv X pins σ (upd H a o) { s with heap:=h',toks:=t' }:=I.un (Un.laid k hp (I.hok.fresh hp)) (I.hok.laid k hp new)
theorem Inv.write {x e:Addr} {o:HO} {t':Nat} (I:Inv X pins σ H s) (mu:Mut (H x)) (he:e=x∨H e=some (.own x)) (k:∀ b u,b≠e→s.heap.get? b=some u→h'.get? b=some u) (heo:∃ u,h'.get? e=some u)
    (new:dA X.prog X.w (upd H x o) h' x o):Inv X pins σ (upd H x o) { s with heap:=h',toks:=t' }:=I.un (Un.write mu he k heo) (I.hok.write mu he k heo new)
theorem Inv.weak {σ':List (Option V)} (I:Inv X pins σ H s) (hl:σ'.length=σ.length) (w:∀ (i:Nat) v,σ'[i]? =some (some v)→σ[i]? =some (some v)):Inv X pins σ' H s :=
  ⟨I.ok,I.os,I.bare,I.base,let ⟨m,hn,hl'⟩:=I.loc; ⟨m,hn,fun i x v e1 e2 e3=>hl' i x v e1 (w i v e2) e3⟩,I.cell,I.free,I.freeC,I.pin,I.hok,hl.trans I.len⟩
theorem Inv.pins_of {pins':List (Addr×Obj)} (I:Inv X pins σ H s) (h:∀ p∈pins',s.heap.get? p.1=some p.2∧H p.1=none∧p.1≠X.env.locals∧p.1∉ X.fs∧∀ v,p.2.data≠.cell v):Inv X pins' σ H s :=
  ⟨I.ok,I.os,I.bare,I.base,I.loc,I.cell,I.free,I.freeC,fun p hp=>(List.mem_append.mp hp).elim (fun z=>I.pin p (List.mem_append_left _ z)) (h p),I.hok,I.len⟩
theorem EB {N:List Str} (hN:N.Nodup) {i j:Nat} {x:Str} (a:N[i]? =some x) (b:N[j]? =some x):i=j:=by
  obtain ⟨h1,e1⟩:=List.getElem?_eq_some_iff.mp a
  obtain ⟨h2,e2⟩:=List.getElem?_eq_some_iff.mp b
  exact (List.getElem_inj hN).mp (e1.trans e2.symm)
theorem TH {M:Model} {A:Around} {E:Value→Shared→Prop} {i:Nat} {x:Str} {v:V} {u:Value} {Q:Unit→Shared→Prop} (I:Inv X pins σ H s) (hN:X.N.Nodup) (hi:X.N[i]? =some x) (hx:Loc X.env.scope x) (r:aL v u)
    (h:∀ s',Inv X pins (σ.set i (some v)) H s'→(∃ a,Heap.SameBut a s.heap s'.heap∧(a=X.env.locals∨X.env.cells.lookup x=some a))→Q () s') (hf:X.fn x=true∨X.env.scope.names.lookup x=some .local:=by first | exact .inl rfl | exact .inr rfl | assumption):wpAny M A (storeName X.env x u) Q E s:=by
  obtain ⟨m,hn,hl⟩:=id I.loc
  have hcls:(X.env.scope.kind == .class || (X.env.scope.kind == .module && X.env.locals != X.env.globals))=false:=by rw [I.ok.kind]; rfl
  have hiσ:i < σ.length:=by rw [I.len]; exact (List.getElem?_eq_some_iff.mp hi).1
  have cne:=I.cne
  have tracked:∀ {a:Addr} {h':Heap},(∃ o,s.heap.get? a=some o∧H a=none)→Heap.SameBut a s.heap h'→HOk X.prog X.w H h':=fun {a h'} ha hs b ob e=>by
    obtain ⟨_,_,hfree⟩:=ha
    refine (I.hok b ob e).stay (fun c w' hc q=>(hs.2 c ?_).trans q) (fun _ q=>q) fun _ _ q=>q
    rintro rfl
    rcases hc with rfl | hc
    · rw [hfree] at e; cases e
    · rw [hfree] at hc; cases hc
  rcases hx with hk | hk
  · refine wpAny_storeName_local hk hn (fun h' hn' hs=>?_) hcls
    obtain ⟨oL,_,_,hoL,_⟩:=id hn
    refine h _ ⟨I.ok,I.os,I.bare,⟨fun b o e n hb hx=>?_,fun b o e n hb hx=>?_,I.base.free,fun b o e hx=>?_,I.base.tups,I.base.frzs,I.base.tbls⟩,⟨_,hn',fun j y v' e1 e2 e3=>?_⟩,fun y c e=>?_,I.free,I.freeC,fun p hp=>?_,tracked ⟨oL,hoL,I.free⟩ hs,by simpa using I.len⟩ ⟨_,hs,.inl rfl⟩
    · exact (hs.2 b (Nat.ne_of_lt (Nat.lt_of_lt_of_le (Heap.lt_size e) I.ok.above))).trans (I.base.keep b o e n hb hx)
    · obtain ⟨sl,e1⟩:=I.base.slot b o e n hb hx
      exact ⟨sl,(hs.2 b (Nat.ne_of_lt (Nat.lt_of_lt_of_le (Heap.lt_size e) I.ok.above))).trans e1⟩
    · obtain ⟨o',e1⟩:=I.base.there b o e hx
      exact ⟨o',(hs.2 b (Nat.ne_of_lt (Nat.lt_of_lt_of_le (Heap.lt_size e) I.ok.above))).trans e1⟩
    · by_cases hj:j=i
      · subst hj
        rw [hi] at e1; cases e1
        rw [List.getElem?_set_self hiσ] at e2
        cases e2
        exact ⟨u,r,.inl ⟨hk,by simp⟩⟩
      · rw [List.getElem?_set_ne (Ne.symm hj)] at e2
        obtain ⟨u',r',q⟩:=hl j y v' e1 e2 e3
        refine ⟨u',r', ?_⟩
        rcases q with ⟨k,e⟩ | ⟨k,c,e,z⟩
        · refine .inl ⟨k, ?_⟩
          have:y≠x:=fun e=>hj (EB hN e1 (e▸hi))
          simp [this,e]
        · exact .inr ⟨k,c,e,z.sameBut hs (cne y c e)⟩
    · obtain ⟨w',z⟩:=I.cell y c e
      exact ⟨w',z.sameBut hs (cne y c e)⟩
    · obtain ⟨e,n,ne,nf,d⟩:=I.pin p hp
      exact ⟨(hs.2 p.1 ne).trans e,n,ne,nf,d⟩
  · have hfn:X.fn x=true:=by
      rcases hf with z | z
      · exact z
      · rw [z] at hk; cases hk
    obtain ⟨c,hc⟩:=I.ok.has x (.inl hk)
    obtain ⟨w',z⟩:=I.cell x c hc
    refine wpAny_storeName_cell I.ok.kind hk hc z (fun h' hc' hs=>?_)
    obtain ⟨oc,hoc,hocd⟩:=id z
    refine h { s with heap:=h' } ⟨I.ok,I.os,I.bare,⟨fun b o e n hb hx=>?_,fun b o e n hb hx=>?_,I.base.free,fun b o e hx=>?_,I.base.tups,I.base.frzs,I.base.tbls⟩,⟨m,hn.sameBut hs (Ne.symm (cne x c hc)),fun j y v' e1 e2 e3=>?_⟩,fun y c' e=>?_,I.free,I.freeC,fun p hp=>?_,tracked ⟨oc,hoc,I.freeC x c hc⟩ hs,by simpa using I.len⟩ ⟨c,hs,.inr hc⟩
    · exact (hs.2 b (Nat.ne_of_lt (Nat.lt_of_lt_of_le (Heap.lt_size e) (I.ok.cab x c hfn hc)))).trans (I.base.keep b o e n hb hx)
    · obtain ⟨sl,e1⟩:=I.base.slot b o e n hb hx
      exact ⟨sl,(hs.2 b (Nat.ne_of_lt (Nat.lt_of_lt_of_le (Heap.lt_size e) (I.ok.cab x c hfn hc)))).trans e1⟩
    · obtain ⟨o',e1⟩:=I.base.there b o e hx
      exact ⟨o',(hs.2 b (Nat.ne_of_lt (Nat.lt_of_lt_of_le (Heap.lt_size e) (I.ok.cab x c hfn hc)))).trans e1⟩
    · by_cases hj:j=i
      · subst hj
        rw [hi] at e1; cases e1
        rw [List.getElem?_set_self hiσ] at e2
        cases e2
        exact ⟨u,r,.inr ⟨.inl hk,c,hc,hc'⟩⟩
      · rw [List.getElem?_set_ne (Ne.symm hj)] at e2
        obtain ⟨u',r',q⟩:=hl j y v' e1 e2 e3
        refine ⟨u',r', ?_⟩
        rcases q with q | ⟨k,c',e,z'⟩
        · exact .inl q
        · refine .inr ⟨k,c',e,z'.sameBut hs ?_⟩
          rintro rfl
          exact hj (EB hN e1 (I.ok.inj _ _ _ e hc▸hi))
    · by_cases hcc:c'=c
      · subst hcc; exact ⟨_,hc'⟩
      · obtain ⟨w2,z2⟩:=I.cell y c' e
        exact ⟨w2,z2.sameBut hs hcc⟩
    · obtain ⟨e,n,ne,nf,d⟩:=I.pin p hp
      refine ⟨(hs.2 p.1 ?_).trans e,n,ne,nf,d⟩
      intro q
      rw [q,hoc] at e
      have q':oc=p.2:=Option.some.inj e
      exact d w' (by rw [←q']; exact hocd)
theorem jL {M:Model} {A:Around} {E:Value→Shared→Prop} {i:Nat} {x:Str} {v:V} {u:Value} {Q:Unit→Shared→Prop} (I:Inv X pins σ H s) (hN:X.N.Nodup) (hi:X.N[i]? =some x) (hx:Loc X.env.scope x) (r:aL v u)
    (h:∀ s',Inv X pins (σ.set i (some v)) H s'→Q () s') (hf:X.fn x=true∨X.env.scope.names.lookup x=some .local:=by first | exact .inl rfl | exact .inr rfl | assumption):wpAny M A (storeName X.env x u) Q E s :=
  TH I hN hi hx r (fun s' I' _=>h s' I') hf
theorem Inv.call' {s':Shared} {ch:List Addr} (I:Inv X pins σ H s) (ho:s'.os=s.os) (u:Un (frs X.stack) ch H H' s.heap s'.heap) (hok:HOk X.prog X.w H' s'.heap) (hg:AllBare s'.gens)
    (hch:∀ b∈ch,(b∈X.ex∨X.s₀.heap.objs.size≤b)∧b≠X.env.locals∧(∀ x c,X.env.cells.lookup x=some c→c≠b)∧∀ p∈X.pn ++ pins,p.1≠b):Inv X pins σ H' s':=by
  obtain ⟨h',g',d',t',o'⟩:=s'
  have e:o'=s.os:=ho
  subst e
  exact I.call (g':=g') (t':=t') (d':=d') u hok hg hch
end
noncomputable abbrev XK:=Value→Option Addr→Hp→Prop
noncomputable abbrev St:=List (Option V)
noncomputable abbrev VK:=V→Hp→Prop
noncomputable abbrev TE:=St→Hp→VK→Prop
noncomputable abbrev TT:=St→Hp→(Bool→Hp→Prop)→Prop
noncomputable abbrev TA:=St→Hp→(List V→Hp→Prop)→Prop
structure HH where
  nx:St→Hp→Prop
  rt:VK
  bk:St→Hp→Prop:=fun _ _=>False
  ct:St→Hp→Prop:=fun _ _=>False
noncomputable abbrev TS:=HH→St→Hp→Prop
noncomputable def EP (X:Cx) (pins:List (Addr×Obj)) (σ:St) (Q:VK) (u:Value) (s':Shared):Prop:= ∃ v H',Inv X pins σ H' s'∧aL v u∧Q v H'
noncomputable def TP (X:Cx) (pins:List (Addr×Obj)) (σ:St) (Q:Bool→Hp→Prop) (b:Bool) (s':Shared):Prop:= ∃ H',Inv X pins σ H' s'∧Q b H'
noncomputable def AP (X:Cx) (pins:List (Addr×Obj)) (σ:St) (Q:List V→Hp→Prop) (us:List Value) (s':Shared):Prop:= ∃ vs H',Inv X pins σ H' s'∧aI vs us∧Q vs H'
noncomputable def SP (X:Cx) (pins:List (Addr×Obj)) (D:HH) (f:Flow) (s':Shared):Prop :=
  match f with
  | .next=>∃ σ' H',Inv X pins σ' H' s'∧D.nx σ' H'
  | .brk=>∃ σ' H',Inv X pins σ' H' s'∧D.bk σ' H'
  | .cont=>∃ σ' H',Inv X pins σ' H' s'∧D.ct σ' H'
  | .ret u=>∃ v σ' H',Inv X pins σ' H' s'∧aL v u∧D.rt v H'
noncomputable def PE (X:Cx) (e:Expr) (t:TE):Prop :=
  ∀ (pins:List (Addr×Obj)) (s:Shared) (σ:St) (H:Hp) (Q:VK),Inv X pins σ H s→t σ H Q→wpAny (model X.prog X.w) X.A (eval e X.env) (EP X pins σ Q) X.xe s
noncomputable def PT (X:Cx) (e:Expr) (t:TT):Prop :=
  ∀ (pins:List (Addr×Obj)) (s:Shared) (σ:St) (H:Hp) (Q:Bool→Hp→Prop),Inv X pins σ H s→t σ H Q→wpAny (model X.prog X.w) X.A (isTrue e X.env (eval e X.env)) (TP X pins σ Q) X.xe s
noncomputable def PW (X:Cx) (e:Expr) (t:TT):Prop :=
  ∀ (whole:Sem Value) (pins:List (Addr×Obj)) (s:Shared) (σ:St) (H:Hp) (Q:Bool→Hp→Prop),Inv X pins σ H s→t σ H Q→wpAny (model X.prog X.w) X.A (isTrue e X.env whole) (TP X pins σ Q) X.xe s
theorem PW.pt {X:Cx} {e:Expr} {t:TT} (h:PW X e t):PT X e t:=h _
noncomputable def PA (X:Cx) (es:List Expr) (t:TA):Prop :=
  ∀ (pos:Pos) (pins:List (Addr×Obj)) (s:Shared) (σ:St) (H:Hp) (Q:List V→Hp→Prop),Inv X pins σ H s→t σ H Q→wpAny (model X.prog X.w) X.A (spliced (backTo pos (starEach es X.env))) (AP X pins σ Q) X.xe s
noncomputable def PS (X:Cx) (st:Stmt) (t:TS):Prop :=
  ∀ (pins:List (Addr×Obj)) (s:Shared) (σ:St) (H:Hp) (D:HH),Inv X pins σ H s→t D σ H→wpAny (model X.prog X.w) X.A (exec st X.env) (SP X pins D) X.xe s
noncomputable def PSs (X:Cx) (st:List Stmt) (t:TS):Prop :=
  ∀ (pins:List (Addr×Obj)) (s:Shared) (σ:St) (H:Hp) (D:HH),Inv X pins σ H s→t D σ H→wpAny (model X.prog X.w) X.A (execs st X.env) (SP X pins D) X.xe s
theorem thn {α:Type} {t:Sem α} {Q Q':α→Shared→Prop} {M:Model} {A:Around} {E:Value→Shared→Prop} {s:Shared} (h:wpAny M A t Q E s) (hQ:∀ a s,Q a s→Q' a s):wpAny M A t Q' E s:=wpAny_mono h hQ fun _ _ x=>x
section
variable {X:Cx}
theorem bin {a b:Expr} {ta tb:TE} (ha:PE X a ta) (hb:PE X b tb) {pins:List (Addr×Obj)} {s:Shared} {σ:St} {H:Hp} {R:V→V→Hp→Prop} (I:Inv X pins σ H s) (h:ta σ H fun x H1=>tb σ H1 fun y H2=>R x y H2)
    {α:Type} {Q:α→Shared→Prop} {f:Value→Value→Sem α}
    (hf:∀ v u s2 x y H2,Inv X pins σ H2 s2→aL x v→aL y u→R x y H2→wpAny (model X.prog X.w) X.A (f v u) Q X.xe s2) :
    wpAny (model X.prog X.w) X.A (eval a X.env) (fun v s₁=>wpAny (model X.prog X.w) X.A (eval b X.env) (fun u s₂=>wpAny (model X.prog X.w) X.A (f v u) Q X.xe s₂) X.xe s₁) X.xe s:=by
  refine thn (ha pins s σ H _ I h) fun v s1 ⟨x,H1,I1,r1,q1⟩=>?_
  refine thn (hb pins s1 σ H1 _ I1 q1) fun u s2 ⟨y,H2,I2,r2,q2⟩=>?_
  exact hf v u s2 x y H2 I2 r1 r2 q2
noncomputable def aKX (i:Nat):TE:=fun σ H Q=>∃ v,σ[i]? =some (some v)∧Q v H
noncomputable def tC (v:V):TE:=fun _ H Q=>Q v H
theorem KW {i:Nat} {x:Str} {pos:Pos} (hN:X.N[i]? =some x) (hv:Vis X.env.scope x) (hd:(x == ("__debug__":Str))=false:=by decide) (hcd:(x == ("__classdict__":Str))=false:=by decide):PE X (.Name x pos) (aKX i):=by
  intro pins s σ H Q I h
  obtain ⟨v,e,h⟩:=h
  obtain ⟨m,hn,hl⟩:=I.loc
  obtain ⟨u,r,l⟩:=hl i x v hN e hv
  have fin:EP X pins σ Q u s:=⟨v,H,I,r,h⟩
  rcases l with ⟨hk,hm⟩ | ⟨hk,c,hc,hcell⟩
  · exact wpAny_Name (wpAny_loadName_local I.ok.kind hk hn hm fin) hd
  · rcases hk with hk | hk
    · exact wpAny_Name (wpAny_loadName_cell I.ok.kind hk hc hcell fin) hd
    · exact wpAny_Name (wpAny_loadName_free I.ok.kind hk hc hcell fin hcd) hd
theorem aA1 {i j pos}:PE X (.Constant (.int i) j pos) (tC (.int i)):=fun _ _ _ H _ I h=>wpAny_Constant_int ⟨.int i,H,I.tok _,⟨_,rfl⟩,h⟩
theorem aKf {b j pos}:PE X (.Constant (.bool b) j pos) (tC (.bl b)):=fun _ _ _ H _ I h=>Constant_bool ⟨.bl b,H,I,rfl,h⟩
theorem aFZ {j pos}:PE X (.Constant .none j pos) (tC .non):=fun _ _ _ H _ I h=>Constant_none ⟨.non,H,I,rfl,h⟩
theorem aFK {x j pos}:PE X (.Constant (.str x) j pos) (tC (.str x)):=fun _ _ _ H _ I h=>Calls.Constant_str ⟨.str x,H,I.tok _,⟨_,rfl⟩,h⟩
noncomputable def Gl (X:Cx) (x:Str):Prop:=X.env.kindOf x=some .globalImplicit
theorem mV {E:Value→Shared→Prop} {pins:List (Addr×Obj)} {s:Shared} {σ:St} {H:Hp} {x:Str} {u:Value} {pos:Pos} {Q:Value→Shared→Prop} (I:Inv X pins σ H s) (hg:Gl X x) (hm:X.mg x=some u) (h:Q u s)
    (hd:(x == ("__debug__":Str))=false:=by decide):wpAny (model X.prog X.w) X.A (eval (.Name x pos) X.env) Q E s :=
  Calls.Name_function_global I.ok.kind hg (Calls.loadGlobal_global (by rw [I.ok.glob]; exact I.mod.glob.keeps I.bk) hm h) hd
theorem sC {E:Value→Shared→Prop} {pins:List (Addr×Obj)} {s:Shared} {σ:St} {H:Hp} {x:Str} {u:Value} {pos:Pos} {Q:Value→Shared→Prop} (I:Inv X pins σ H s) (hg:Gl X x) (hm:X.mg x=none) (hv:bootBuiltins x=some u) (h:Q u s)
    (hn:x≠"__name__":=by decide) (hd:(x == ("__debug__":Str))=false:=by decide):wpAny (model X.prog X.w) X.A (eval (.Name x pos) X.env) Q E s:=by
  obtain ⟨mb,h1,h2⟩:=I.mod.blt
  exact Calls.Name_function_global I.ok.kind hg (Calls.loadGlobal_builtin (by rw [I.ok.glob]; exact I.mod.glob.keeps I.bk) hm (by rw [I.ok.blt]; exact h1.keeps I.bk) ((h2 x hn).trans hv) h) hd
theorem BD {x:Str} {v:V} {u:Value} {pos:Pos} (hg:Gl X x) (hm:X.mg x=some u) (r:aL v u) (hd:(x == ("__debug__":Str))=false:=by decide):PE X (.Name x pos) (tC v) :=
  fun _ _ _ H _ I h=>mV I hg hm ⟨v,H,I,r,h⟩ hd
theorem aCE {x:Str} {v:V} {u:Value} {pos:Pos} (hg:Gl X x) (hm:X.mg x=none) (hv:bootBuiltins x=some u) (r:aL v u) (hn:x≠"__name__":=by decide) (hd:(x == ("__debug__":Str))=false:=by decide):PE X (.Name x pos) (tC v) :=
  fun _ _ _ H _ I h=>sC I hg hm hv ⟨v,H,I,r,h⟩ hn hd
variable {a b:Expr} {ta tb:TE} {pos:Pos}
variable {tA tB':TT} {dC:List Expr}
noncomputable def aJh (t u:TT):TT:=fun σ H Q=>t σ H fun c H1=>if c=true then u σ H1 Q else Q false H1
noncomputable def tOr (t u:TT):TT:=fun σ H Q=>t σ H fun c H1=>if c=true then Q true H1 else u σ H1 Q
noncomputable def aMf (t:TT):TT:=fun σ H Q=>t σ H fun c H1=>Q (!c) H1
theorem aCH (ha:PT X a tA):PW X (.BoolOp .And [a] pos) tA:=by
  intro wh pins s σ H Q I h
  refine isTrue_and (thn (ha pins s σ H Q I h) fun c s1 e=>?_)
  cases c with
  | true=>exact isTrue_and_nil e
  | false=>exact e
theorem aFi (ha:PT X a tA):PW X (.BoolOp .Or [a] pos) tA:=by
  intro wh pins s σ H Q I h
  refine isTrue_or (thn (ha pins s σ H Q I h) fun c s1 e=>?_)
  cases c with
  | false=>exact isTrue_or_nil e
  | true=>exact e
theorem aGF (ha:PT X a tA) (hb:PW X (.BoolOp .And (b :: dC) pos) tB'):PW X (.BoolOp .And (a :: b :: dC) pos) (aJh tA tB'):=by
  intro wh pins s σ H Q I h
  refine isTrue_and (thn (ha pins s σ H _ I h) fun c s1 ⟨H1,I1,q1⟩=>?_)
  cases c with
  | true=>exact hb wh pins s1 σ H1 Q I1 q1
  | false=>exact ⟨H1,I1,q1⟩
theorem aKJ (ha:PT X a tA) (hb:PW X (.BoolOp .Or (b :: dC) pos) tB'):PW X (.BoolOp .Or (a :: b :: dC) pos) (tOr tA tB'):=by
  intro wh pins s σ H Q I h
  refine isTrue_or (thn (ha pins s σ H _ I h) fun c s1 ⟨H1,I1,q1⟩=>?_)
  cases c with
  | true=>exact ⟨H1,I1,q1⟩
  | false=>exact hb wh pins s1 σ H1 Q I1 q1
theorem aFm (ha:PT X a tA):PT X (.UnaryOp .Not a pos) (aMf tA):=by
  intro pins s σ H Q I h
  exact isTrue_not (ha pins s σ H (fun c H1=>Q (!c) H1) I h)
theorem aGY {op} {t:TE} (h:PE X a t):PE X (.BoolOp op [a] pos) t:=fun pins s σ H Q I hw=>BoolOp_one (h pins s σ H Q I hw)
end
noncomputable def SqL (K:W.Frag) (H:Hp) (a:Addr) (xs:List V):Prop :=
  Rd H a (.lst xs)∨
    ∃ (o:Obj) (its:Array Value) (n:Nat),K.lookup a=some o∧o.cls= .type "list"∧o.dict=none∧o.data= .seq its n∧its.size≤sizeLine∧aI xs its.toList
noncomputable def SqT (K:W.Frag) (H:Hp) (a:Addr) (xs:List V):Prop :=
  Rd H a (.tup xs)∨
    ∃ (o:Obj) (its:Array Value) (n:Nat),K.lookup a=some o∧o.cls= .type "tuple"∧o.data= .seq its n∧its.size≤sizeLine∧aI xs its.toList∧o.dict=none
noncomputable def aMP:Value→Option V
  | .none=>some .non
  | .bool b=>some (.bl b)
  | .int i _=>some (.int i)
  | .str x _=>some (.str x)
  | .bytes b _=>some (.byt b)
  | .float b _=>some (.flt b)
  | .ref a=>some (.ref a)
  | .type n=>some (.ty n)
  | _=>none
theorem aL.abs {x:V} {u:Value} (r:aL x u):aMP u=some x:=by
  cases x with
  | non=>cases r; rfl
  | bl _=>cases r; rfl
  | int _=>obtain ⟨t,rfl⟩:=r; rfl
  | str _=>obtain ⟨t,rfl⟩:=r; rfl
  | byt _=>obtain ⟨t,rfl⟩:=r; rfl
  | flt _=>obtain ⟨t,rfl⟩:=r; rfl
  | ref _=>cases r; rfl
  | ty _=>cases r; rfl
theorem aL.inj {x y:V} {u:Value} (r:aL x u) (q:aL y u):x=y:=Option.some.inj (r.abs.symm.trans q.abs)
theorem aI.inj:∀ {xs ys:List V} {us:List Value},aI xs us→aI ys us→xs=ys
  | _,_,_,.nil,.nil=>rfl
  | _,_,_,.cons r t,.cons r' t'=>by rw [r.inj r',aI.inj t t']
section
variable {X:Cx} {pins:List (Addr×Obj)} {σ:St} {H:Hp} {s:Shared} {a:Addr} {xs ys:List V}
theorem SqL.of {K:W.Frag} (h:H a=some (.lst xs)):SqL K H a xs:=.inl (.inl h)
theorem SqT.of {K:W.Frag} (h:H a=some (.tup xs)):SqT K H a xs:=.inl (.inl h)
theorem Inv.list (I:Inv X pins σ H s) (h:SqL X.K H a xs):∃ its:List Value,aI xs its∧PlainL s.heap a its.toArray∧xs.length≤sizeLine:=by
  rcases h with h | ⟨o,its,n,hk,hc,hd,hs,hz,r⟩
  · obtain ⟨z,its,n,r,e⟩:=h.ok I.hok
    exact ⟨its,r,⟨_,n,e,rfl,rfl,rfl⟩,z⟩
  · refine ⟨its.toList,r,⟨o,n,I.kIn a o hk,hc,hd,by simpa using hs⟩, ?_⟩
    have e:=r.length
    simp only [Array.length_toList] at e
    omega
theorem Inv.tuple (I:Inv X pins σ H s) (h:SqT X.K H a xs):∃ its:List Value,aI xs its∧IsTup s.heap a its.toArray∧xs.length≤sizeLine:=by
  rcases h with h | ⟨o,its,n,hk,hc,hs,hz,r,_⟩
  · obtain ⟨z,its,r,p⟩:=h.ok I.hok
    exact ⟨its,r,p.1,z⟩
  · refine ⟨its.toList,r,⟨o,I.kIn a o hk,hc,n,by simpa using hs⟩, ?_⟩
    have e:=r.length
    simp only [Array.length_toList] at e
    omega
theorem Inv.list_inj (I:Inv X pins σ H s) (h:SqL X.K H a xs) (h':SqL X.K H a ys):xs=ys:=by
  obtain ⟨its,r,⟨o,n,e,_,_,d⟩,_⟩:=I.list h
  obtain ⟨its',r',⟨o',n',e',_,_,d'⟩,_⟩:=I.list h'
  rw [e] at e'; cases e'
  rw [d] at d'
  injection d' with d1 _
  have:its=its':=by simpa using congrArg Array.toList d1
  subst this
  exact r.inj r'
theorem Inv.tuple_inj (I:Inv X pins σ H s) (h:SqT X.K H a xs) (h':SqT X.K H a ys):xs=ys:=by
  obtain ⟨its,r,⟨o,e,_,n,d⟩,_⟩:=I.tuple h
  obtain ⟨its',r',⟨o',e',_,n',d'⟩,_⟩:=I.tuple h'
  rw [e] at e'; cases e'
  rw [d] at d'
  injection d' with d1 _
  have:its=its':=by simpa using congrArg Array.toList d1
  subst this
  exact r.inj r'
end
noncomputable abbrev Cx.wish (X:Cx) (E:Value→Shared→Prop):Cx:={ X with xe:=E }
noncomputable abbrev Cx.nox (X:Cx):Cx:=X.wish fun _ _=>False
theorem Cx.Ok.wish {X:Cx} (ok:X.Ok) (E:Value→Shared→Prop):(X.wish E).Ok :=
  ⟨ok.mod,ok.kind,ok.glob,ok.blt,ok.above,ok.inj,ok.has,ok.cab,ok.hd,ok.frames,ok.stk,ok.exf,ok.bs,ok.bsz,ok.noex,ok.exfs,ok.funs,ok.frf⟩
theorem Cx.Ok.unwish {X:Cx} {E:Value→Shared→Prop} (ok:(X.wish E).Ok):X.Ok :=
  ⟨ok.mod,ok.kind,ok.glob,ok.blt,ok.above,ok.inj,ok.has,ok.cab,ok.hd,ok.frames,ok.stk,ok.exf,ok.bs,ok.bsz,ok.noex,ok.exfs,ok.funs,ok.frf⟩
section
variable {X:Cx} {pins:List (Addr×Obj)} {σ:St} {H:Hp} {s:Shared} {E:Value→Shared→Prop}
theorem Inv.wish (I:Inv X pins σ H s) (E:Value→Shared→Prop):Inv (X.wish E) pins σ H s:=⟨I.ok.wish E,I.os,I.bare,I.base,I.loc,I.cell,I.free,I.freeC,I.pin,I.hok,I.len⟩
theorem Inv.unwish (I:Inv (X.wish E) pins σ H s):Inv X pins σ H s:=⟨I.ok.unwish,I.os,I.bare,I.base,I.loc,I.cell,I.free,I.freeC,I.pin,I.hok,I.len⟩
theorem SP.unwish {D:HH} {f:Flow} {s':Shared} (h:SP (X.wish E) pins D f s'):SP X pins D f s':=by
  cases f with
  | next=>obtain ⟨σ',H',I,q⟩:=h; exact ⟨σ',H',I.unwish,q⟩
  | brk=>obtain ⟨σ',H',I,q⟩:=h; exact ⟨σ',H',I.unwish,q⟩
  | cont=>obtain ⟨σ',H',I,q⟩:=h; exact ⟨σ',H',I.unwish,q⟩
  | ret u=>obtain ⟨v,σ',H',I,r,q⟩:=h; exact ⟨v,σ',H',I.unwish,r,q⟩
theorem PE.nox {e:Expr} {t:TE} (h:PE X.nox e t):PE X e t:=fun pins s σ H Q I hw =>
  wpAny_mono (h pins s σ H Q (I.wish _) hw) (fun _ _ ⟨v,H',I',r,q⟩=>⟨v,H',I'.unwish,r,q⟩) fun _ _ z=>False.elim z
theorem PT.nox {e:Expr} {t:TT} (h:PT X.nox e t):PT X e t:=fun pins s σ H Q I hw =>
  wpAny_mono (h pins s σ H Q (I.wish _) hw) (fun _ _ ⟨H',I',q⟩=>⟨H',I'.unwish,q⟩) fun _ _ z=>False.elim z
theorem PSs.nox {st:List Stmt} {t:TS} (h:PSs X.nox st t):PSs X st t:=fun pins s σ H D I hw =>
  wpAny_mono (h pins s σ H D (I.wish _) hw) (fun _ _ q=>q.unwish) fun _ _ z=>False.elim z
end
section
variable {X:Cx} {st:Stmt} {dC:List Stmt} {t u:TS} {e:Expr} {te:TE} {pos:Pos}
noncomputable def YZ:TS:=fun D σ H=>D.nx σ H
noncomputable def aK5 (t u:TS):TS:=fun D σ H=>t { D with nx:=u D } σ H
theorem aB3:PSs X [] YZ:=fun _ _ σ H _ I h=>wpAny_execs_nil ⟨σ,H,I,h⟩
theorem aAQ (h1:PS X st t) (h2:PSs X dC u):PSs X (st :: dC) (aK5 t u):=by
  intro pins s σ H D I h
  refine wpAny_execs_cons (thn (h1 pins s σ H { D with nx:=u D } I h) fun f s1 q=>?_)
  cases f with
  | next =>
    obtain ⟨σ',H',I',q⟩:=q
    exact h2 pins s1 σ' H' D I' q
  | ret v=>exact q
  | brk=>exact q
  | cont=>exact q
theorem aC6 (h1:PS X st t):PSs X [st] t:=by
  intro pins s σ H D I h
  refine wpAny_execs_cons (thn (h1 pins s σ H D I h) fun f s1 q=>?_)
  cases f with
  | next=>exact wpAny_execs_nil q
  | ret v=>exact q
  | brk=>exact q
  | cont=>exact q
theorem aDl:PS X (.Pass pos) YZ:=fun _ _ σ H _ I h=>wpAny_Pass ⟨σ,H,I,h⟩
theorem Inv.quiet {pins:List (Addr×Obj)} {σ:St} {H:Hp} {s:Shared} (I:Inv X pins σ H s):interactive X.env=false:=by simp [interactive,I.ok.kind]
theorem aHM {x j pos pos'}:PS X (.Expr (.Constant (.str x) j pos) pos') YZ:=fun _ s σ H _ I h=>wpAny_Expr (Calls.Constant_str (show SP X _ _ .next { s with toks:=s.toks + 1 } from ⟨σ,H,I.tok _,h⟩)) I.quiet
noncomputable def aIY (te:TE):TS:=fun D σ H=>te σ H fun _ H1=>D.nx σ H1
theorem aDk (he:PE X e te) (hs:swapsWith e none pos.line X.env=pure false:=by rfl):PS X (.Expr e pos) (aIY te):=by
  intro pins s σ H D I h
  exact wpAny_Expr_any (thn (he pins s σ H _ I h) fun v s1 ⟨x,H1,I1,r1,q1⟩=>⟨σ,H1,I1,q1⟩) I.quiet hs
noncomputable def aMa (te:TE):TS:=fun D σ H=>te σ H D.rt
theorem aHA (he:PE X e te):PS X (.Return (some e) pos) (aMa te):=by
  intro pins s σ H D I h
  exact wpAny_Return_some (thn (he pins s σ H _ I h) fun v s1 ⟨x,H1,I1,r1,q1⟩=>⟨x,σ,H1,I1,r1,q1⟩)
noncomputable def aJL:TS:=fun D _ H=>D.rt .non H
theorem aBA:PS X (.Return none pos) aJL:=fun _ _ σ H _ I h=>wpAny_Return_none ⟨.non,σ,H,I,rfl,h⟩
noncomputable def aLi (c:TT) (t u:TS):TS:=fun D σ H=>c σ H fun b H1=>if b=true then t D σ H1 else u D σ H1
theorem aIO {c:Expr} {a b:List Stmt} {tc:TT} (hc:PT X c tc) (ha:PSs X a t) (hb:PSs X b u):PS X (.If c a b pos) (aLi tc t u):=by
  intro pins s σ H D I h
  refine wpAny_If (thn (hc pins s σ H _ I h) fun d s1 ⟨H1,I1,q1⟩=>?_)
  cases d with
  | true=>exact ha pins s1 σ H1 D I1 q1
  | false=>exact hb pins s1 σ H1 D I1 q1
noncomputable def XL:TS:=fun _ _ _=>False
theorem aA7:PS X st XL:=fun _ _ _ _ _ _ h=>h.elim
theorem SG {sts:List Stmt}:PSs X sts XL:=fun _ _ _ _ _ _ h=>h.elim
end
noncomputable abbrev TG:=V→St→Hp→(St→Hp→Prop)→Prop
noncomputable abbrev TGs:=List V→St→Hp→(St→Hp→Prop)→Prop
noncomputable def PG (X:Cx) (target:Expr) (t:TG):Prop :=
  ∀ (pins:List (Addr×Obj)) (s:Shared) (σ:St) (H:Hp) (v:V) (u:Value) (Q:St→Hp→Prop),Inv X pins σ H s→aL v u→t v σ H Q→
    wpAny (model X.prog X.w) X.A (assign target X.env u) (fun _ s'=>∃ σ' H',Inv X pins σ' H' s'∧Q σ' H') X.xe s
noncomputable def PGs (X:Cx) (ts:List Expr) (t:TGs):Prop :=
  ∀ (pins:List (Addr×Obj)) (s:Shared) (σ:St) (H:Hp) (vs:List V) (us:List Value) (Q:St→Hp→Prop),Inv X pins σ H s→aI vs us→t vs σ H Q→
    wpAny (model X.prog X.w) X.A (assignInOrder ((assignEach ts X.env).map (·.2)) us) (fun _ s'=>∃ σ' H',Inv X pins σ' H' s'∧Q σ' H') X.xe s
noncomputable abbrev aBG:=V→V→V→Hp→(Hp→Prop)→Prop
noncomputable def aFS (X:Cx) (t:aBG):Prop :=
  ∀ (pins:List (Addr×Obj)) (s:Shared) (σ:St) (H:Hp) (o i v:V) (ov iv u:Value) (Q:Hp→Prop),Inv X pins σ H s→aL o ov→aL i iv→aL v u→t o i v H Q→
    wpAny (model X.prog X.w) X.A (setItem ov iv u) (fun _ s'=>∃ H',Inv X pins σ H' s'∧Q H') X.xe s
section
variable {X:Cx} {pos:Pos}
noncomputable def XY (i:Nat):TG:=fun v σ H Q=>Q (σ.set i (some v)) H
theorem OC {i:Nat} {x:Str} (hN:X.N.Nodup) (hi:X.N[i]? =some x) (hx:Loc X.env.scope x) (hf:X.fn x=true∨X.env.scope.names.lookup x=some .local:=by first | exact .inl rfl | exact .inr rfl | assumption):PG X (.Name x pos) (XY i):=by
  intro pins s σ H v u Q I r h
  exact wpAny_assign_Name (jL I hN hi hx r (fun s' I'=>⟨_,H,I',h⟩) hf)
noncomputable def aMB:TGs:=fun vs σ H Q=>vs=[]∧Q σ H
noncomputable def aJc (t:TG) (u:TGs):TGs:=fun vs σ H Q=>∃ v r,vs=v :: r∧t v σ H fun σ' H'=>u r σ' H' Q
theorem aDj:PGs X [] aMB:=by
  intro pins s σ H vs us Q I r h
  obtain ⟨e,h⟩:=h
  subst e
  cases r
  exact assignInOrder_nil ⟨σ,H,I,h⟩
theorem XH {e:Expr} {es:List Expr} {t:TG} {u:TGs} (h1:PG X e t) (h2:PGs X es u)
    (hs:(assignEach (e :: es) X.env).map (·.2)=assign e X.env :: (assignEach es X.env).map (·.2):=by rfl):PGs X (e :: es) (aJc t u):=by
  intro pins s σ H vs us Q I r h
  obtain ⟨v,vr,e1,h⟩:=h
  subst e1
  cases r with
  | cons r rr =>
    rw [hs]
    refine assignInOrder_cons (thn (h1 pins s σ H _ _ _ I r h) fun _ s1 ⟨σ1,H1,I1,q1⟩=>?_)
    exact h2 pins s1 σ1 H1 _ _ Q I1 rr q1
noncomputable def aL1 (K:W.Frag) (n:Nat) (t:TGs):TG:=fun v σ H Q=>∃ a xs,v= .ref a∧SqT K H a xs∧xs.length=n∧t xs σ H Q
theorem aHz {es:List Expr} {k:Nat} {t:TGs} {n:Nat} (hc:X.calm=true) (h:PGs X es t)
    (hn:(assignEach es X.env).length=n:=by rfl) (hst:(assignEach es X.env).findIdx? (·.1)=none:=by rfl):PG X (.Tuple es k pos) (aL1 X.K n t):=by
  intro pins s σ H v u Q I r hw
  obtain ⟨a,xs,e1,hq,hl,hw⟩:=hw
  subst e1
  cases r
  obtain ⟨its,rv,ht,hz⟩:=I.tuple hq
  refine assign_Tuple_tuple (I.ok.hd hc) ht (by simp [hn,←hl,rv.length]) hst fun h' hx=>?_
  have I1:Inv X pins σ H { s with heap:=h' }:=I.kept (t':=s.toks) fun b o e=>hx b o (Nat.ne_of_lt (Heap.lt_size e)) e
  exact h pins _ σ H xs _ Q I1 (by simpa using rv) hw
noncomputable def aK3 (to ti:TE) (t:aBG):TG:=fun v σ H Q=>to σ H fun o H1=>ti σ H1 fun i H2=>t o i v H2 fun H3=>Q σ H3
theorem aFC {o i:Expr} {to ti:TE} {t:aBG} (ho:PE X o to) (hi:PE X i ti) (hs:aFS X t)
    (ha:∀ v,assign (.Subscript o i pos) X.env v=(do
      let ov ←holding [v] (eval o X.env)
      let iv ←holding [v,ov] (eval i X.env)
      standAt pos
      holding [v,ov,iv] (setItem ov iv v)
      release [v,ov,iv] []):=by intro _; rfl):PG X (.Subscript o i pos) (aK3 to ti t):=by
  intro pins s σ H v u Q I r h
  rw [ha]
  refine wpAny_bind (wpAny_holding (thn (ho pins s σ H _ I h) fun ov s1 ⟨x,H1,I1,r1,q1⟩=>?_))
  refine wpAny_bind (wpAny_holding (thn (hi pins s1 σ H1 _ I1 q1) fun iv s2 ⟨y,H2,I2,r2,q2⟩=>?_))
  refine wpAny_bind (wpAny_standAt (wpAny_bind (wpAny_holding (thn (hs pins s2 σ H2 x y v ov iv u _ I2 r1 r2 r q2) fun _ s3 ⟨H3,I3,q3⟩=>?_))))
  exact wpAny_release ⟨σ,H3,I3,q3⟩
noncomputable def aFO (te:TE) (g:TG):TS:=fun D σ H=>te σ H fun x H1=>g x σ H1 D.nx
theorem VJ {tg e:Expr} {te:TE} {g:TG} (he:PE X e te) (hg:PG X tg g) (hs:swapsWithSole [tg] e pos.line X.env=pure false:=by rfl) (hw:swappedStores [tg] e X.env=pure none:=by rfl)
    (h1:(assignEach [tg] X.env).map (·.2)=[assign tg X.env]:=by rfl):PS X (.Assign [tg] e pos) (aFO te g):=by
  intro pins s σ H D I h
  refine wpAny_Assign_stores (thn (he pins s σ H _ I h) fun v s1 ⟨x,H1,I1,r1,q1⟩=>?_) hs hw
  rw [h1]
  exact thn (hg pins s1 σ H1 x v _ I1 r1 q1) fun _ s2 q=>q
noncomputable def aMN (i j:Nat) (ta:TA):TS:=fun D σ H=>ta σ H fun vs H1=>∃ v w,vs=[v,w]∧D.nx ((σ.set i (some v)).set j (some w)) H1
theorem aH8 {i j:Nat} {x y:Str} {a b:Expr} {ta:TA} {px py pt:Pos} {kt k2 pt2} (hc:X.calm=true) (hN:X.N.Nodup) (hi:X.N[i]? =some x) (hj:X.N[j]? =some y) (hij:i≠j)
    (hx:X.env.scope.names.lookup x=some .local) (hy:X.env.scope.names.lookup y=some .local) (ha:PA X [a,b] ta)
    (hw:swappedStores [.Tuple [.Name x px,.Name y py] kt pt] (.Tuple [a,b] k2 pt2) X.env=pure (some [x,y]))
    (hs:swapsWithSole [.Tuple [.Name x px,.Name y py] kt pt] (.Tuple [a,b] k2 pt2) pos.line X.env=pure false:=by rfl) :
    PS X (.Assign [.Tuple [.Name x px,.Name y py] kt pt] (.Tuple [a,b] k2 pt2) pos) (aMN i j ta):=by
  intro pins s σ H D I h
  rw [exec_Assign_arm]
  refine wpAny_bind (wpAny_standAt ?_)
  rw [hs]
  refine wpAny_bind (wpAny_pure ?_)
  rw [if_neg (by decide)]
  refine wpAny_bind (Tuple_ (thn (ha _ pins s σ H _ I h) fun us s1 ⟨vs,H1,I1,r1,q1⟩=>?_))
  obtain ⟨v,w,e1,q1⟩:=q1
  subst e1
  obtain ⟨u1,u2,rfl,rv,rw'⟩:∃ u1 u2,us=[u1,u2]∧aL v u1∧aL w u2:=by
    cases r1 with
    | cons p q =>
      cases q with
      | cons p' q' =>
        cases q'
        exact ⟨_,_,rfl,p,p'⟩
  refine wpAny_newObj_type ?_ (by show 2≤sizeLine; decide)
  have I2:Inv X pins σ H1 { s1 with heap:=s1.heap.push { cls:=.type "tuple",data:=.seq [u1,u2].toArray } }:=I1.kept (t':=s1.toks) fun b o e=>Heap.get?_push_of_some _ e
  rw [hw]
  refine wpAny_bind (wpAny_pure ?_)
  show wpAny (model X.prog X.w) X.A (do rule "assign.swapped-stores"; let items ←unpackItems (.ref s1.heap.objs.size) 2 none; assignInOrder [fun v=>bindName X.env y v,fun v=>bindName X.env x v] items.reverse; pure Flow.next) _ _ _
  refine wpAny_bind (wpAny_rule (wpAny_bind (unpackItems_tuple (items:= #[u1,u2]) (I.ok.hd hc) (IsTup.new s1.heap _) fun h' hx'=>?_)))
  have I3:=I2.kept (h':=h') (t':=s1.toks) fun b o e=>hx' b o (Nat.ne_of_lt (Heap.lt_size e)) e
  show wpAny _ _ (assignInOrder [fun v=>bindName X.env y v,fun v=>bindName X.env x v] [u2,u1] >>= fun _=>pure Flow.next) _ _ _
  refine wpAny_bind (assignInOrder_cons (wpAny_bindName (jL I3 hN hj (.inl hy) rw' (fun s2 I4=>?_) (.inr hy))))
  refine assignInOrder_cons (wpAny_bindName (jL I4 hN hi (.inl hx) rv (fun s3 I5=>assignInOrder_nil (wpAny_pure ?_)) (.inr hx)))
  rw [List.set_comm _ _ (Ne.symm hij)] at I5
  exact ⟨_,H1,I5,q1⟩
end
section
variable {X:Cx} {pos:Pos}
noncomputable def aGR (c:TT) (tb:TS):TS:=fun D σ H=>∃ W:Nat→St→Hp→Prop,(∃ m,W m σ H)∧∀ m σ H,W m σ H→
  c σ H fun b H1=>if b=true then ∃ N:St→Hp→Prop,(∀ σ' H',N σ' H'→∃ m',m' < m∧W m' σ' H')∧tb { D with nx:=N,ct:=N,bk:=D.nx } σ H1 else D.nx σ H1
theorem ZC {c:Expr} {body:List Stmt} {tc:TT} {tb:TS} (hp:PassesOwn (model X.prog X.w) X.A X.env X.xe) (hc:PT X c tc) (hb:PSs X body tb):PS X (.While c body [] pos) (aGR tc tb):=by
  intro pins s σ H D I h
  obtain ⟨W,⟨m0,w0⟩,turn⟩:=h
  refine wpAny_While (codeAny_whileLoop (fun n s'=>∃ σ' H',Inv X pins σ' H' s'∧W n σ' H') ?_ m0 ⟨σ,H,I,w0⟩)
  rintro n s1 ⟨σ1,H1,I1,w1⟩
  refine wpAny_passesOwn hp (thn (hc pins s1 σ1 H1 _ I1 (turn n σ1 H1 w1)) fun b s2 ⟨H2,I2,q2⟩=>?_)
  cases b with
  | true =>
    obtain ⟨N,hN,q2⟩:=q2
    rw [if_pos rfl]
    refine wpAny_passesOwn hp (thn (hb pins s2 σ1 H2 _ I2 q2) fun f s3 q3=>?_)
    cases f with
    | next =>
      obtain ⟨σ3,H3,I3,n3⟩:=q3
      obtain ⟨m',hm,w3⟩:=hN σ3 H3 n3
      exact ⟨m',hm,σ3,H3,I3,w3⟩
    | cont =>
      obtain ⟨σ3,H3,I3,n3⟩:=q3
      obtain ⟨m',hm,w3⟩:=hN σ3 H3 n3
      exact ⟨m',hm,σ3,H3,I3,w3⟩
    | brk=>exact q3
    | ret v=>exact q3
  | false =>
    rw [if_neg Bool.false_ne_true]
    exact wpAny_execs_nil ⟨σ1,H2,I2,q2⟩
end
structure It where
  go:Nat→Hp→Prop
  yld:Nat→Hp→V→Hp→Prop
  stop:Nat→Hp→Prop
noncomputable def zH (X:Cx) (pins:List (Addr×Obj)) (H:Hp) (b:Addr):Prop :=
  H b=none∧b≠X.env.locals∧b∉ X.fs∧(b∈X.ex∨X.s₀.heap.objs.size≤b)∧(∀ x c,X.env.cells.lookup x=some c→c≠b)∧∀ p∈X.pn ++ pins,p.1≠b
theorem Inv.fpOk {X:Cx} {pins:List (Addr×Obj)} {σ:St} {H H':Hp} {s:Shared} {b:Addr} (I:Inv X pins σ H s) (hb:s.heap.objs.size≤b) (hn:H' b=none):zH X pins H' b:=by
  refine ⟨hn,Nat.ne_of_gt (Nat.lt_of_lt_of_le I.lt hb),I.nofs hb,.inr (Nat.le_trans I.sz hb),fun x c e z=>?_,fun p hp z=>?_⟩
  · obtain ⟨v,q⟩:=I.cell x c e
    exact absurd (Nat.lt_of_lt_of_le q.lt (by rw [z]; exact hb)) (Nat.lt_irrefl _)
  · exact absurd (Nat.lt_of_lt_of_le (Heap.lt_size (I.pin p hp).1) (by rw [z]; exact hb)) (Nat.lt_irrefl _)
structure OS (P:Program) (w:World) (K:W.Frag) (tg:Expr) (J:It) (fp:List Addr) (it:Addr) (tn:Nat→Heap→Prop):Prop where
  mem:it∈fp
  obj:∀ i h,tn i h→∀ b∈fp,∃ o,h.get? b=some o∧∀ v,o.data≠.cell v
  keep:∀ i h h',tn i h→(∀ b∈fp,∀ o,h.get? b=some o→h'.get? b=some o)→tn i h'
  item :∀ (X:Cx),X.prog=P→X.w=w→X.K=K→X.calm=true→∀ (i:Nat) (pins:List (Addr×Obj)) (s:Shared) (σ:St) (H:Hp) (E:Value→Shared→Prop),Inv X pins σ H s→(∀ b∈fp,zH X pins H b)→tn i s.heap→J.go i H→
    wpAny (model P w) X.A (pyNext (.ref it)) (fun r s1=>∃ u,r=some u∧
      wpAny (model P w) X.A (letOwnedTupleGo tg (.ref it) u) (fun _ s2=>∃ x H',Inv X pins σ H' s2∧aL x u∧J.yld i H x H'∧tn (i + 1) s2.heap∧∀ b∈fp,H' b=none) E s1) E s
  done:∀ (X:Cx),X.prog=P→X.w=w→X.K=K→X.calm=true→∀ (i:Nat) (pins:List (Addr×Obj)) (s:Shared) (σ:St) (H:Hp) (E:Value→Shared→Prop),Inv X pins σ H s→(∀ b∈fp,zH X pins H b)→tn i s.heap→J.stop i H→
    wpAny (model P w) X.A (pyNext (.ref it)) (fun r s1=>r=none∧Inv X pins σ H s1) E s
  self:∀ (A:Around) (i:Nat) (s:Shared) (Q:Value→Shared→Prop) (E:Value→Shared→Prop),tn i s.heap→Q (.ref it) s→wpAny (model P w) A (pyIter (.ref it)) Q E s
noncomputable abbrev TI:=St→Hp→(It→Hp→Prop)→Prop
noncomputable def PIE (X:Cx) (pins:List (Addr×Obj)) (σ:St) (tg:Expr) (R:It→Hp→Prop) (itv:Value) (s2:Shared):Prop :=
  ∃ (it:Addr) (fp:List Addr) (tn:Nat→Heap→Prop) (J:It) (H':Hp),itv= .ref it∧Inv X pins σ H' s2∧OS X.prog X.w X.K tg J fp it tn∧tn 0 s2.heap∧(∀ b∈fp,zH X pins H' b)∧R J H'
noncomputable def PI (X:Cx) (tg iter:Expr) (wi:TI):Prop :=
  ∀ (pins:List (Addr×Obj)) (s:Shared) (σ:St) (H:Hp) (R:It→Hp→Prop),Inv X pins σ H s→wi σ H R→
    wpAny (model X.prog X.w) X.A (eval iter X.env) (fun v s1=>wpAny (model X.prog X.w) X.A (pyIter v) (PIE X pins σ tg R) X.xe s1) X.xe s
theorem aA8 {M:Model} {A:Around} {E:Value→Shared→Prop} {s:Shared} {tg:Expr} {it:Addr} {u:Value} {o:Obj} {n:String} {vs:Array Value} {Q:Unit→Shared→Prop} (ho:s.heap.get? it=some o) (hc:o.cls= .type n) (hd:o.data= .fields vs)
    (hn: ["enumerate","zip","dict_itemiterator","dict_reverseitemiterator","odict_iterator","itertools.zip_longest","itertools.pairwise"].contains n=false) (hQ:Q () s):wpAny M A (letOwnedTupleGo tg (.ref it) u) Q E s:=by
  unfold letOwnedTupleGo
  cases tg <;> first
    | exact wpAny_pure hQ
    | (cases u <;> first
        | exact wpAny_pure hQ
        | (refine wpAny_bind (wpAny_load ho ?_)
           rw [hc,hd]
           show wpAny M A (if (["enumerate","zip","dict_itemiterator","dict_reverseitemiterator","odict_iterator","itertools.zip_longest","itertools.pairwise"].contains n && vs[0]? == some (rawInt _))=true then _ else _) Q E s
           rw [if_neg (by intro h; rw [hn,Bool.false_and] at h; cases h)]
           exact wpAny_pure hQ))
noncomputable def Itl (K:W.Frag) (a:Addr):It :=
  ⟨fun i H=>∃ xs x,SqL K H a xs∧xs[i]? =some x,fun i H x H'=>H'=H∧∀ xs,SqL K H a xs→xs[i]? =some x,fun i H=>∃ xs,SqL K H a xs∧xs.length≤i⟩
noncomputable def Itt (K:W.Frag) (a:Addr):It :=
  ⟨fun i H=>∃ xs x,SqT K H a xs∧xs[i]? =some x,fun i H x H'=>H'=H∧∀ xs,SqT K H a xs→xs[i]? =some x,fun i H=>∃ xs,SqT K H a xs∧xs.length≤i⟩
noncomputable def Itr (lo:Int) (n:Nat):It:=⟨fun i _=>i < n,fun i H x H'=>H'=H∧x= .int (lo + i),fun i _=>n≤i⟩
theorem QJ {P:Program} {w:World} {K:W.Frag} {tg:Expr} (a it:Addr):OS P w K tg (Itl K a) [it] it (fun i h=>h.IsListIter it a i) where
  mem:=by simp
  obj:=fun i h st b hb=>by
    have e:b=it:=by simpa using hb
    subst e
    obtain ⟨o,e,c,d⟩:=st
    exact ⟨o,e,fun v z=>by rw [d] at z; cases z⟩
  keep:=fun i h h' st k=>st.at fun o e=>k it (by simp) o e
  item:=by
    intro X hP hw hK hc i pins s σ H E I hf st hg
    subst hP hw hK
    obtain ⟨xs,x,hq,hx⟩:=hg
    obtain ⟨its,rv,p,hz⟩:=I.list hq
    obtain ⟨u,hu,ru⟩:=rv.get hx
    obtain ⟨f0,f1,f2,f3,f4,f5⟩:=hf it (by simp)
    refine wpAny_pyNext_list_item st p.isList (x:=u) (by simpa using hu) fun h' st' sb=>?_
    have I1:Inv X pins σ H { s with heap:=h' }:=I.turned (t':=s.toks) (fun b o hb e=>(sb.2 b hb).trans e) f0 f1 f3 f4 f5
    obtain ⟨o,e,c,d⟩:=id st'
    exact ⟨u,rfl,aA8 (s:={ s with heap:=h' }) e c d (by decide) ⟨x,H,I1,ru,⟨rfl,fun ys hy=>by rw [I.list_inj hy hq]; exact hx⟩,st',fun b hb=>(hf b hb).1⟩⟩
  done:=by
    intro X hP hw hK hc i pins s σ H E I hf st hg
    subst hP hw hK
    obtain ⟨xs,hq,hx⟩:=hg
    obtain ⟨its,rv,p,hz⟩:=I.list hq
    obtain ⟨f0,f1,f2,f3,f4,f5⟩:=hf it (by simp)
    have hl:=rv.length
    exact wpAny_pyNext_list_end (I.ok.hd hc) st p.isList (by simp; omega) fun h' eb=>⟨rfl,I.turned (t':=s.toks) (fun b o hb e=>eb b o hb e) f0 f1 f3 f4 f5⟩
  self:=fun _ _ _ _ _ st h=>wpAny_pyIter_listiter st h
theorem IU {P:Program} {w:World} {K:W.Frag} {tg:Expr} (a it:Addr):OS P w K tg (Itt K a) [it] it (fun i h=>h.IsTupleIter it a i) where
  mem:=by simp
  obj:=fun i h st b hb=>by
    have e:b=it:=by simpa using hb
    subst e
    obtain ⟨o,e,c,d⟩:=st
    exact ⟨o,e,fun v z=>by rw [d] at z; cases z⟩
  keep:=fun i h h' st k=>st.at fun o e=>k it (by simp) o e
  item:=by
    intro X hP hw hK hc i pins s σ H E I hf st hg
    subst hP hw hK
    obtain ⟨xs,x,hq,hx⟩:=hg
    obtain ⟨its,rv,p,hz⟩:=I.tuple hq
    obtain ⟨u,hu,ru⟩:=rv.get hx
    obtain ⟨f0,f1,f2,f3,f4,f5⟩:=hf it (by simp)
    refine wpAny_pyNext_tuple_item st (show s.heap.IsTuple a its.toArray from p) (x:=u) (by simpa using hu) fun h' st' sb=>?_
    have I1:Inv X pins σ H { s with heap:=h' }:=I.turned (t':=s.toks) (fun b o hb e=>(sb.2 b hb).trans e) f0 f1 f3 f4 f5
    obtain ⟨o,e,c,d⟩:=id st'
    exact ⟨u,rfl,aA8 (s:={ s with heap:=h' }) e c d (by decide) ⟨x,H,I1,ru,⟨rfl,fun ys hy=>by rw [I.tuple_inj hy hq]; exact hx⟩,st',fun b hb=>(hf b hb).1⟩⟩
  done:=by
    intro X hP hw hK hc i pins s σ H E I hf st hg
    subst hP hw hK
    obtain ⟨xs,hq,hx⟩:=hg
    obtain ⟨its,rv,p,hz⟩:=I.tuple hq
    obtain ⟨f0,f1,f2,f3,f4,f5⟩:=hf it (by simp)
    have hl:=rv.length
    exact wpAny_pyNext_tuple_end (I.ok.hd hc) st (show s.heap.IsTuple a its.toArray from p) (by simp; omega) fun h' eb=>⟨rfl,I.turned (t':=s.toks) (fun b o hb e=>eb b o hb e) f0 f1 f3 f4 f5⟩
  self:=fun _ _ _ _ _ st h=>wpAny_pyIter_tupleiter st h
theorem MH {P:Program} {w:World} {K:W.Frag} {tg:Expr} (it:Addr) (lo:Int) (n:Nat):OS P w K tg (Itr lo n) [it] it (fun i h=>IsRangeIter h it (lo + (i:Nat) * 1) ((n:Int) - (i:Nat)) 1) where
  mem:=by simp
  obj :=fun i h st b hb=>by
    have e:b=it:=by simpa using hb
    subst e
    exact ⟨_,st,fun v z=>by
      have z':Data.fields _=Data.cell v:=z
      cases z'⟩
  keep:=fun i h h' st k=>k it (by simp) _ st
  item:=by
    intro X hP hw hK hc i pins s σ H E I hf st hg
    subst hP hw hK
    obtain ⟨f0,f1,f2,f3,f4,f5⟩:=hf it (by simp)
    have W:=Walks.range (prog:=X.prog) (w:=X.w) (I.ok.hd hc) it lo 1 n
    refine W.item i s _ _ hg st fun v h' tk hv st' kk=>?_
    obtain ⟨t,rfl⟩:=hv
    have I1:Inv X pins σ H { s with heap:=h',toks:=tk }:=I.turned (fun b o hb e=>kk b o (by simpa using hb) e) f0 f1 f3 f4 f5
    refine ⟨_,rfl,aA8 (s:={ s with heap:=h',toks:=tk }) (n:="range_iterator") st' rfl rfl (by decide) ⟨.int (lo + i),H,I1,⟨t, ?_⟩,⟨rfl,rfl⟩,st',fun b hb=>(hf b hb).1⟩⟩
    rw [Int.mul_one]
  done:=by
    intro X hP hw hK hc i pins s σ H E I hf st hg
    subst hP hw hK
    obtain ⟨f0,f1,f2,f3,f4,f5⟩:=hf it (by simp)
    exact wpAny_pyNext_range_end (I.ok.hd hc) st (by have:n≤i:=hg; omega) fun h' eb=>⟨rfl,I.turned (t':=s.toks) (fun b o hb e=>eb b o hb e) f0 f1 f3 f4 f5⟩
  self:=fun _ _ _ _ _ st h=>wpAny_pyIter_rangeiter st h
section
variable {X:Cx} {tg:Expr}
theorem GS {pins:List (Addr×Obj)} {σ:St} {H:Hp} {s:Shared} {R:It→Hp→Prop} {E:Value→Shared→Prop} {lo hi:Int} {t u v:Tok} {tk:Nat} (I:Inv X pins σ H s) (h1: -(2 ^ 62)≤lo) (h2:lo < 2 ^ 62) (h3: -(2 ^ 62)≤hi) (h4:hi < 2 ^ 62)
    (q:R (Itr lo (hi - lo).toNat) H):wpAny (model X.prog X.w) X.A (pyIter (.ref s.heap.objs.size)) (PIE X pins σ tg R) E { s with heap:=s.heap.push { cls:=.type "range",data:=.fields #[.int lo t,.int hi u,.int 1 v] },toks:=tk }:=by
  refine wpAny_pyIter_range (IsRange.new ..) (small_one h1 h2 h3 h4) ?_
  have I1:Inv X pins σ H { s with heap:=s.heap.push { cls:=.type "range",data:=.fields #[.int lo t,.int hi u,.int 1 v] },toks:=tk }:=I.kept fun b o e=>Heap.get?_push_of_some _ e
  refine ⟨(s.heap.push { cls:=.type "range",data:=.fields #[.int lo t,.int hi u,.int 1 v] }).objs.size,[(s.heap.push { cls:=.type "range",data:=.fields #[.int lo t,.int hi u,.int 1 v] }).objs.size],_,_,H,rfl,
    I1.kept (t':=tk) fun b o e=>Heap.get?_push_of_some _ e,MH _ lo (hi - lo).toNat, ?_,fun b hb=>?_,q⟩
  · have e1:lo + ((0:Nat):Int) * 1=lo:=by simp
    have e2:(((hi - lo).toNat:Nat):Int) - ((0:Nat):Int)=Builtin.Range.rangeSize lo hi 1:=by rw [rangeSize_one]; split <;> omega
    show IsRangeIter _ _ (lo + ((0:Nat):Int) * 1) ((((hi - lo).toNat:Nat):Int) - ((0:Nat):Int)) 1
    rw [e1,e2]
    exact Heap.get?_push_size _ rfl
  · have e:b=(s.heap.push { cls:=.type "range",data:=.fields #[.int lo t,.int hi u,.int 1 v] }).objs.size:=by simpa using hb
    subst e
    exact I1.fpOk (Nat.le_refl _) (I1.hok.fresh (Nat.le_refl _))
noncomputable def aIP (ta:TA):TI:=fun σ H R=>ta σ H fun vs H1=>∃ j:Int,vs=[.int j]∧ -(2 ^ 62)≤j∧j < 2 ^ 62∧R (Itr 0 j.toNat) H1
noncomputable def aJK (ta:TA):TI:=fun σ H R=>ta σ H fun vs H1=>∃ i j:Int,vs=[.int i,.int j]∧(-(2 ^ 62)≤i∧i < 2 ^ 62∧ -(2 ^ 62)≤j∧j < 2 ^ 62)∧R (Itr i (j - i).toNat) H1
theorem RJ {a:Expr} {ta:TA} {p pos:Pos} (hg:Gl X "range") (hm:X.mg "range"=none) (ha:PA X [a] ta) (hs:starEach [a] X.env=[(false,eval a X.env)]:=by rfl):PI X tg (.Call (.Name "range" p) [a] [] pos) (aIP ta):=by
  intro pins s σ H R I h
  refine Call_ (sC I hg hm boot_range (PyProof.Rows.callWith_type1 (thn (ha pos pins s σ H _ I h) fun us s1 ⟨vs,H1,I1,r1,q1⟩=>?_) hs rfl))
  obtain ⟨j,e,q1,q2,q⟩:=q1
  subst e
  cases r1 with
  | cons r rr =>
    cases rr
    obtain ⟨t,rfl⟩:=r
    exact call_range_1 (GS I1 (by omega) (by omega) q1 q2 (by simpa using q))
theorem UD {a b:Expr} {ta:TA} {p pos:Pos} (hg:Gl X "range") (hm:X.mg "range"=none) (ha:PA X [a,b] ta) (hs:starEach [a,b] X.env=[(false,eval a X.env),(false,eval b X.env)]:=by rfl) (hs2:starEach [b] X.env=[(false,eval b X.env)]:=by rfl) :
    PI X tg (.Call (.Name "range" p) [a,b] [] pos) (aJK ta):=by
  intro pins s σ H R I h
  refine Call_ (sC I hg hm boot_range (PyProof.Rows.callWith_type1 (thn (ha pos pins s σ H _ I h) fun us s1 ⟨vs,H1,I1,r1,q1⟩=>?_) (by rw [hs,hs2]) (by rw [hs2]; rfl)))
  obtain ⟨i,j,e,⟨q1,q2,q3,q4⟩,q⟩:=q1
  subst e
  cases r1 with
  | cons r rr =>
    cases rr with
    | cons r' rr =>
      cases rr
      obtain ⟨t,rfl⟩:=r
      obtain ⟨t',rfl⟩:=r'
      exact call_range_2 (GS I1 q1 q2 q3 q4 q)
noncomputable def aMx (wi:TI) (g:TG) (tb:TS):TS:=fun D σ H=>wi σ H fun J H1=>∃ W:Nat→Nat→St→Hp→Prop,(∃ m,W 0 m σ H1)∧∀ i m σ H,W i m σ H→
  (J.stop i H∧D.nx σ H)∨(J.go i H∧∃ N:St→Hp→Prop,(∀ σ' H',N σ' H'→∃ m',m' < m∧W (i + 1) m' σ' H')∧∀ x H',J.yld i H x H'→g x σ H' fun σ2 H2=>tb { D with nx:=N,ct:=N,bk:=D.nx } σ2 H2)
noncomputable def yA (fp:List Addr) (h:Heap):List (Addr×Obj):=fp.filterMap fun b=>(h.get? b).map fun o=>(b,o)
theorem kH {fp:List Addr} {h:Heap} {b:Addr} {o:Obj} (hb:b∈fp) (e:h.get? b=some o):(b,o)∈yA fp h:=List.mem_filterMap.mpr ⟨b,hb,by rw [e]; rfl⟩
theorem QA {fp:List Addr} {h:Heap} {p:Addr×Obj} (hp:p∈yA fp h):p.1∈fp∧h.get? p.1=some p.2:=by
  obtain ⟨b,hb,e⟩:=List.mem_filterMap.mp hp
  cases q:h.get? b with
  | none=>rw [q] at e; cases e
  | some o =>
    rw [q] at e
    have e':(b,o)=p:=Option.some.inj e
    subst e'
    exact ⟨hb,q⟩
theorem Inv.pinned {pins:List (Addr×Obj)} {σ:St} {H:Hp} {s:Shared} {fp:List Addr} (I:Inv X pins σ H s) (hf:∀ b∈fp,zH X pins H b) (ho:∀ b∈fp,∃ o,s.heap.get? b=some o∧∀ v,o.data≠.cell v):Inv X (pins ++ yA fp s.heap) σ H s :=
  I.pins_of fun p hp=>(List.mem_append.mp hp).elim (fun z=>I.pin p (List.mem_append_right _ z)) fun z=>by
    obtain ⟨hb,e⟩:=QA z
    obtain ⟨f0,f1,f2,_⟩:=hf p.1 hb
    obtain ⟨o,e',d⟩:=ho p.1 hb
    rw [e] at e'; cases e'
    exact ⟨e,f0,f1,f2,d⟩
theorem Inv.unpinned {pins pl:List (Addr×Obj)} {σ:St} {H:Hp} {s:Shared} (I:Inv X (pins ++ pl) σ H s):Inv X pins σ H s:=I.pins_of fun p hp=>I.pin p (List.mem_append_right _ (List.mem_append_left _ hp))
theorem aFT {iter:Expr} {body:List Stmt} {wi:TI} {g:TG} {tb:TS} {pos:Pos} (hp:PassesOwn (model X.prog X.w) X.A X.env X.xe) (hc:X.calm=true) (hi:PI X tg iter wi) (hg:PG X tg g) (hb:PSs X body tb)
    (hs:∀ x,foldedSetIterable iter X.env x=pure x:=by intro _; rfl):PS X (.For tg iter body [] pos) (aMx wi g tb):=by
  intro pins s σ H D I h
  refine wpAny_For (thn (hi pins s σ H _ I h) fun v s1 h1=>thn h1 fun itv s2 h2=>?_) hs
  obtain ⟨it,fp,tn,J,H2,e,I2,T,st2,f2,W,⟨m0,w0⟩,turn⟩:=h2
  subst e
  have stat:∀ {H':Hp},(∀ b∈fp,H' b=none)→∀ b∈fp,zH X pins H' b:=fun hn b hb=>⟨hn b hb,(f2 b hb).2⟩
  refine codeAny_forLoop_any (fun n s'=>∃ i σ' H',Inv X pins σ' H' s'∧tn i s'.heap∧(∀ b∈fp,H' b=none)∧W i n σ' H') ?_ m0 ⟨0,σ,H2,I2,st2,fun b hb=>(f2 b hb).1,w0⟩
  rintro n s3 ⟨i,σ3,H3,I3,st3,fr3,w3⟩
  rcases turn i n σ3 H3 w3 with ⟨stop,qn⟩ | ⟨go,N,hN,step⟩
  · refine wpAny_passesOwn hp (thn (T.done X rfl rfl rfl hc i pins s3 σ3 H3 X.xe I3 (stat fr3) st3 stop) fun r s4 ⟨hr,I4⟩=>?_)
    subst hr
    exact wpAny_execs_nil ⟨σ3,H3,I4,qn⟩
  · refine wpAny_passesOwn hp (thn (T.item X rfl rfl rfl hc i pins s3 σ3 H3 X.xe I3 (stat fr3) st3 go) fun r s4 ⟨u,hr,h4⟩=>?_)
    subst hr
    refine wpAny_passesOwn hp (thn h4 fun _ s5 ⟨x,H5,I5,r5,y5,st5,fr5⟩=>?_)
    have I5':=I5.pinned (stat fr5) (T.obj _ _ st5)
    refine wpAny_passesOwn hp (thn (hg _ s5 σ3 H5 x u _ I5' r5 (step x H5 y5)) fun _ s6 ⟨σ6,H6,I6,q6⟩=>?_)
    refine wpAny_passesOwn hp (thn (hb _ s6 σ6 H6 _ I6 q6) fun f s7 q7=>?_)
    have again:∀ {σ7:St} {H7:Hp},Inv X (pins ++ yA fp s5.heap) σ7 H7 s7→N σ7 H7→∃ m,m < n∧∃ i σ' H',Inv X pins σ' H' s7∧tn i s7.heap∧(∀ b∈fp,H' b=none)∧W i m σ' H':=fun {σ7 H7} I7 n7=>by
      obtain ⟨m',hm,w7⟩:=hN σ7 H7 n7
      refine ⟨m',hm,i + 1,σ7,H7,I7.unpinned,T.keep _ _ _ st5 fun b hb o e=>(I7.pin (b,o) (List.mem_append_right _ (List.mem_append_right _ (kH hb e)))).1,fun b hb=>?_,w7⟩
      obtain ⟨o,e,d⟩:=T.obj _ _ st5 b hb
      exact (I7.pin (b,o) (List.mem_append_right _ (List.mem_append_right _ (kH hb e)))).2.1
    cases f with
    | next=>obtain ⟨σ7,H7,I7,n7⟩:=q7; exact again I7 n7
    | cont=>obtain ⟨σ7,H7,I7,n7⟩:=q7; exact again I7 n7
    | brk=>obtain ⟨σ7,H7,I7,q7⟩:=q7; exact ⟨σ7,H7,I7.unpinned,q7⟩
    | ret v=>obtain ⟨x7,σ7,H7,I7,r7,q7⟩:=q7; exact ⟨x7,σ7,H7,I7.unpinned,r7,q7⟩
end
noncomputable abbrev R2:=V→V→Hp→VK→Prop
noncomputable def OpR (X:Cx) (f:Value→Value→Sem Value) (r:R2):Prop :=
  ∀ (pins:List (Addr×Obj)) (s:Shared) (σ:St) (H:Hp) (x y:V) (v u:Value) (Q:VK),Inv X pins σ H s→aL x v→aL y u→r x y H Q→
    wpAny (model X.prog X.w) X.A (f v u) (EP X pins σ Q) X.xe s
noncomputable def UnR (X:Cx) (f:Value→Sem Value) (r:V→Hp→VK→Prop):Prop :=
  ∀ (pins:List (Addr×Obj)) (s:Shared) (σ:St) (H:Hp) (x:V) (v:Value) (Q:VK),Inv X pins σ H s→aL x v→r x H Q→
    wpAny (model X.prog X.w) X.A (f v) (EP X pins σ Q) X.xe s
noncomputable def bF (X:Cx) (f:Value) (r:List V→Hp→VK→Prop):Prop :=
  ∀ (pins:List (Addr×Obj)) (s:Shared) (σ:St) (H:Hp) (xs:List V) (us:List Value) (Q:VK),Inv X pins σ H s→aI xs us→r xs H Q→
    wpAny (model X.prog X.w) X.A (call f us) (EP X pins σ Q) X.xe s
noncomputable def aMC (X:Cx) (r:V→Hp→(Bool→Hp→Prop)→Prop):Prop :=
  ∀ (pins:List (Addr×Obj)) (s:Shared) (σ:St) (H:Hp) (x:V) (v:Value) (Q:Bool→Hp→Prop),Inv X pins σ H s→aL x v→r x H Q→
    wpAny (model X.prog X.w) X.A (truthy v) (TP X pins σ Q) X.xe s
noncomputable def tOp (r:R2) (ta tb:TE):TE:=fun σ H Q=>ta σ H fun x H1=>tb σ H1 fun y H2=>r x y H2 Q
noncomputable def tUn (r:V→Hp→VK→Prop) (ta:TE):TE:=fun σ H Q=>ta σ H fun x H1=>r x H1 Q
noncomputable def rI (C:Int→Int→Prop) (g:Int→Int→V):R2:=fun x y H Q=>∃ i j,x= .int i∧y= .int j∧C i j∧Q (g i j) H
noncomputable def rI0 (g:Int→Int→V):R2:=fun x y H Q=>∃ i j,x= .int i∧y= .int j∧Q (g i j) H
noncomputable def rU (g:Int→V):V→Hp→VK→Prop:=fun x H Q=>∃ i,x= .int i∧Q (g i) H
section
variable {X:Cx} {a b c:Expr} {ta tb tc:TE} {pos:Pos}
theorem aFq (ha:PE X a ta) (hb:PE X b tb) {pins:List (Addr×Obj)} {s:Shared} {σ:St} {H:Hp} {R:V→V→Hp→Prop} (I:Inv X pins σ H s)
    (h:ta σ H fun x H1=>tb σ H1 fun y H2=>R x y H2) {Q:Value→Shared→Prop} {f:Value→Value→Sem Value}
    (hf:∀ v u s2 x y H2,Inv X pins σ H2 s2→aL x v→aL y u→R x y H2→wpAny (model X.prog X.w) X.A (f v u) Q X.xe s2) :
    wpAny (model X.prog X.w) X.A (eval a X.env) (fun v s₁=>wpAny (model X.prog X.w) X.A (eval b X.env) (fun u s₂=>wpAny (model X.prog X.w) X.A (f v u) Q X.xe s₂) X.xe s₁) X.xe s:=by
  refine thn (ha pins s σ H _ I h) fun v s1 ⟨x,H1,I1,r1,q1⟩=>?_
  refine thn (hb pins s1 σ H1 _ I1 q1) fun u s2 ⟨y,H2,I2,r2,q2⟩=>?_
  exact hf v u s2 x y H2 I2 r1 r2 q2
theorem aKV {op:Operator} {r:R2} (ho:OpR X (binaryOp op) r) (ha:PE X a ta) (hb:PE X b tb):PE X (.BinOp a op b pos) (tOp r ta tb):=by
  intro pins s σ H Q I h
  exact wpAny_BinOp (aFq ha hb I h fun v u s2 x y H2 I2 rx ry q=>ho pins s2 σ H2 x y v u Q I2 rx ry q)
theorem aEr {op:UnaryOp} {r:V→Hp→VK→Prop} (ho:UnR X (unaryOp op) r) (ha:PE X a ta):PE X (.UnaryOp op a pos) (tUn r ta):=by
  intro pins s σ H Q I h
  exact UnaryOp_ (thn (ha pins s σ H _ I h) fun v s1 ⟨x,H1,I1,r1,q1⟩=>ho pins s1 σ H1 x v Q I1 r1 q1)
theorem opI {f:Value→Value→Sem Value} {C:Int→Int→Prop} {g:Int→Int→Int}
    (rule:∀ (i j:Int) (t u:Tok) (s:Shared) (Q:Value→Shared→Prop) (E:Value→Shared→Prop),C i j→Q (.int (g i j) s.toks) { s with toks:=s.toks + 1 }→wpAny (model X.prog X.w) X.A (f (.int i t) (.int j u)) Q E s) :
    OpR X f (rI C fun i j=>.int (g i j)):=by
  intro pins s σ H x y v u Q I rx ry h
  obtain ⟨i,j,rfl,rfl,hc,q⟩:=h
  obtain ⟨t,rfl⟩:=rx
  obtain ⟨t',rfl⟩:=ry
  exact rule i j t t' s _ _ hc ⟨.int (g i j),H,I.tok _,⟨_,rfl⟩,q⟩
theorem aIZ {f:Value→Value→Sem Value} {g:Int→Int→Int}
    (rule:∀ (i j:Int) (t u:Tok) (s:Shared) (Q:Value→Shared→Prop) (E:Value→Shared→Prop),Q (.int (g i j) s.toks) { s with toks:=s.toks + 1 }→wpAny (model X.prog X.w) X.A (f (.int i t) (.int j u)) Q E s) :
    OpR X f (rI0 fun i j=>.int (g i j)):=by
  intro pins s σ H x y v u Q I rx ry h
  obtain ⟨i,j,rfl,rfl,q⟩:=h
  obtain ⟨t,rfl⟩:=rx
  obtain ⟨t',rfl⟩:=ry
  exact rule i j t t' s _ _ ⟨.int (g i j),H,I.tok _,⟨_,rfl⟩,q⟩
theorem aCp {f:Value→Value→Sem Value} {g:Int→Int→Bool}
    (rule:∀ (i j:Int) (t u:Tok) (s:Shared) (Q:Value→Shared→Prop) (E:Value→Shared→Prop),Q (.bool (g i j)) s→wpAny (model X.prog X.w) X.A (f (.int i t) (.int j u)) Q E s) :
    OpR X f (rI0 fun i j=>.bl (g i j)):=by
  intro pins s σ H x y v u Q I rx ry h
  obtain ⟨i,j,rfl,rfl,q⟩:=h
  obtain ⟨t,rfl⟩:=rx
  obtain ⟨t',rfl⟩:=ry
  exact rule i j t t' s _ _ ⟨.bl (g i j),H,I,rfl,q⟩
noncomputable def CM (i j:Int):Prop:=0≤j∧j≤1000000∧i.natAbs < 2 ^ 64
noncomputable def aKK (i j:Int):Prop:=(-(2 ^ 64) < i∧i < 2 ^ 64)∨(-(2 ^ 64) < j∧j < 2 ^ 64)
theorem aKK.ok {i j:Int} (h:aKK i j):IntMulOk i j:=by
  rcases h with ⟨h1,h2⟩ | ⟨h1,h2⟩
  · exact .of_left (intBits_le_64 h1 h2)
  · exact .of_right (intBits_le_64 h1 h2)
theorem aFn:OpR X (binaryOp .Add) (rI0 fun i j=>.int (i + j)):=aIZ fun _ _ _ _ _ _ _ q=>add_int q
theorem aHW:OpR X (binaryOp .Sub) (rI0 fun i j=>.int (i - j)):=aIZ fun _ _ _ _ _ _ _ q=>sub_int q
theorem aGf:OpR X (binaryOp .Mod) (rI (fun _ j=>0 < j) fun i j=>.int (i % j)):=opI fun i j _ _ _ _ _ hc q=>by
  have h1:(0:Int) < j:=hc
  exact mod_int' (by omega) (by rw [Int.fmod_eq_emod_of_nonneg i (by omega)]; exact q)
theorem aGp:OpR X (binaryOp .Pow) (rI CM fun i j=>.int (i ^ j.toNat)):=opI fun _ _ _ _ _ _ _ hc q=>pow_int_small hc.1 hc.2.1 hc.2.2 q
theorem aGK:OpR X (binaryOp .LShift) (rI CM fun i j=>.int (i * 2 ^ j.toNat)):=opI fun _ _ _ _ _ _ _ hc q=>lshift_int_small hc.1 hc.2.1 hc.2.2 q
theorem unI {f:Value→Sem Value} {g:Int→Int}
    (rule:∀ (i:Int) (t:Tok) (s:Shared) (Q:Value→Shared→Prop) (E:Value→Shared→Prop),Q (.int (g i) s.toks) { s with toks:=s.toks + 1 }→wpAny (model X.prog X.w) X.A (f (.int i t)) Q E s) :
    UnR X f (rU fun i=>.int (g i)):=by
  intro pins s σ H x v Q I rx h
  obtain ⟨i,rfl,q⟩:=h
  obtain ⟨t,rfl⟩:=rx
  exact rule i t s _ _ ⟨.int (g i),H,I.tok _,⟨_,rfl⟩,q⟩
theorem XM:UnR X (unaryOp .USub) (rU fun i=>.int (-i)):=unI fun _ _ _ _ _ q=>neg_int q
end
section
variable {X:Cx} {a b c:Expr} {ta tb tc:TE} {pos:Pos}
theorem UZ {pins:List (Addr×Obj)} {σ:St} {H:Hp} {s:Shared} {Q:VK} {k k':Bool} (I:Inv X pins σ H s) (q:Q (.bl k) H) (e:k=k'):EP X pins σ Q (.bool k') s:=by
  subst e
  exact ⟨.bl k,H,I,rfl,q⟩
theorem aIh:OpR X (compareOp .Lt) (rI0 fun i j=>.bl (decide (i < j))):=aCp fun _ _ _ _ _ _ _ q=>lt_int q
theorem aKe:OpR X (compareOp .LtE) (rI0 fun i j=>.bl (decide (i≤j))):=aCp fun _ _ _ _ _ _ _ q=>le_int q
theorem aJt:OpR X (compareOp .Gt) (rI0 fun i j=>.bl (decide (j < i))):=aCp fun _ _ _ _ _ _ _ q=>gt_int q
theorem aKO:OpR X (compareOp .GtE) (rI0 fun i j=>.bl (decide (j≤i))):=aCp fun _ _ _ _ _ _ _ q=>ge_int q
theorem aG0:OpR X (compareOp .Is) (fun x y H Q=>y= .non∧Q (.bl (decide (x= .non))) H):=by
  intro pins s σ H x y v u Q I rx ry h
  obtain ⟨rfl,q⟩:=h
  cases ry
  refine is_none_gen (UZ I q ?_)
  cases x <;> first
    | (cases rx; rfl)
    | (obtain ⟨t,rfl⟩:=rx; rfl)
theorem aDg:OpR X (compareOp .IsNot) (fun x y H Q=>y= .non∧Q (.bl (!decide (x= .non))) H):=by
  intro pins s σ H x y v u Q I rx ry h
  obtain ⟨rfl,q⟩:=h
  cases ry
  refine isnot_none_gen (UZ I q ?_)
  cases x <;> first
    | (cases rx; rfl)
    | (obtain ⟨t,rfl⟩:=rx; rfl)
theorem OpR.or {f:Value→Value→Sem Value} {r r':R2} (h:OpR X f r) (h':OpR X f r'):OpR X f (fun x y H Q=>r x y H Q∨r' x y H Q):=by
  intro pins s σ H x y v u Q I rx ry q
  rcases q with q | q
  · exact h pins s σ H x y v u Q I rx ry q
  · exact h' pins s σ H x y v u Q I rx ry q
theorem BH {op:CmpOp} {r:R2} (ho:OpR X (compareOp op) r) (ha:PE X a ta) (hb:PE X b tb) (hm:behindInMarks op b=false):PE X (.Compare a [op] [b] pos) (tOp r ta tb):=by
  intro pins s σ H Q I h
  exact wpAny_Compare1 (aFq ha hb I h fun v u s2 x y H2 I2 rx ry q=>ho pins s2 σ H2 x y v u Q I2 rx ry q) hm
noncomputable def aE3 (t:TE):TT:=fun σ H Q=>t σ H fun x H'=>∃ k,x= .bl k∧Q k H'
theorem NG {op:CmpOp} {r:R2} (ho:OpR X (compareOp op) r) (ha:PE X a ta) (hb:PE X b tb) (hm:behindInMarks op b=false):PT X (.Compare a [op] [b] pos) (aE3 (tOp r ta tb)):=by
  intro pins s σ H Q I h
  refine wpAny_isTrue_Compare1 (thn (ha pins s σ H _ I h) fun v s1 ⟨x,H1,I1,r1,q1⟩=>thn (hb pins s1 σ H1 _ I1 q1) fun u s2 ⟨y,H2,I2,r2,q2⟩ =>
    thn (ho pins s2 σ H2 x y v u _ I2 r1 r2 q2) fun c s3 ⟨z,H3,I3,r3,k,e,q3⟩=>?_) hm
  subst e
  cases r3
  exact wpAny_truthy_bool ⟨H3,I3,q3⟩
noncomputable def IR (r r':R2) (ta tb tc:TE):TE:=fun σ H Q=>ta σ H fun x H1=>tb σ H1 fun y H2=>r x y H2 fun z H3=>∃ k,z= .bl k∧
  (if k=true then tc σ H3 fun w' H4=>r' y w' H4 Q else Q (.bl false) H3)
theorem WE {op op':CmpOp} {r r':R2} (ho:OpR X (compareOp op) r) (ho':OpR X (compareOp op') r') (ha:PE X a ta) (hb:PE X b tb) (hc:PE X c tc)
    (hm:lastMarks [op,op'] [b,c]=false:=by with_unfolding_all rfl):PE X (.Compare a [op,op'] [b,c] pos) (IR r r' ta tb tc):=by
  intro pins s σ H Q I h
  refine Compare_chain (thn (ha pins s σ H _ I h) fun v s1 ⟨x,H1,I1,r1,q1⟩=>chain_link (thn (hb pins s1 σ H1 _ I1 q1) fun u s2 ⟨y,H2,I2,r2,q2⟩ =>
    thn (ho pins s2 σ H2 x y v u _ I2 r1 r2 q2) fun d s3 ⟨z,H3,I3,r3,k,e,q3⟩=>?_)) hm
  subst e
  cases r3
  refine wpAny_truthy_bool ?_
  cases k with
  | false=>exact ite_ff ⟨.bl false,H3,I3,rfl,q3⟩
  | true=>exact ite_tt (chain_last (thn (hc pins s3 σ H3 _ I3 q3) fun w' s4 ⟨z',H4,I4,r4,q4⟩=>ho' pins s4 σ H4 y z' u w' Q I4 r2 r4 q4))
theorem WL {op op':CmpOp} {r r':R2} (ho:OpR X (compareOp op) r) (ho':OpR X (compareOp op') r') (ha:PE X a ta) (hb:PE X b tb) (hc:PE X c tc)
    (hm:lastMarks [op,op'] [b,c]=false:=by with_unfolding_all rfl):PT X (.Compare a [op,op'] [b,c] pos) (aE3 (IR r r' ta tb tc)):=by
  intro pins s σ H Q I h
  refine isTrue_chain (thn (ha pins s σ H _ I h) fun v s1 ⟨x,H1,I1,r1,q1⟩=>test_link (thn (hb pins s1 σ H1 _ I1 q1) fun u s2 ⟨y,H2,I2,r2,q2⟩ =>
    thn (ho pins s2 σ H2 x y v u _ I2 r1 r2 q2) fun d s3 ⟨z,H3,I3,r3,k,e,q3⟩=>?_)) hm
  subst e
  cases r3
  refine wpAny_truthy_bool ?_
  cases k with
  | false =>
    obtain ⟨k',e',q'⟩:=q3
    cases e'
    exact ite_ff ⟨H3,I3,q'⟩
  | true =>
    refine ite_tt (test_last (thn (hc pins s3 σ H3 _ I3 q3) fun w' s4 ⟨z',H4,I4,r4,q4⟩=>thn (ho' pins s4 σ H4 y z' u w' _ I4 r2 r4 q4) fun d' s5 ⟨z2,H5,I5,r5,k2,e2,q5⟩=>?_))
    subst e2
    cases r5
    exact wpAny_truthy_bool ⟨H5,I5,q5⟩
noncomputable def PX (K:W.Frag) (x:V) (H:Hp) (k:Bool):Prop :=
  match x with
  | .non=>k=false
  | .bl b=>k=b
  | .int i=>k=(i != 0)
  | .str y=>y.length≤sizeLine∧k=((y.length:Int) != 0)
  | .byt y=>y.size≤sizeLine∧k=((y.size:Int) != 0)
  | .ref p=>(∃ xs,SqL K H p xs∧k= !xs.isEmpty)∨(∃ xs,SqT K H p xs∧k= !xs.isEmpty)∨∃ kvs,H p=some (.dK kvs)∧k= !kvs.isEmpty
  | _=>False
theorem IS {κ:Type} {kvs:List (κ×V)} {vs:List (κ×Value)} (r:KV kvs vs):(!vs.isEmpty)= !kvs.isEmpty:=by
  cases r <;> rfl
theorem vW {xs:List V} {its:List Value} (r:aI xs its):(!its.toArray.isEmpty)= !xs.isEmpty:=by
  cases r <;> simp
theorem nN:(sizeLine:Nat) < 2 ^ 63:=by rw [sizeLine_eq]; decide
theorem DI:aMC X (fun x H Q=>∃ k,PX X.K x H k∧Q k H):=by
  intro pins s σ H x v Q I rx h
  obtain ⟨k,e,q⟩:=h
  have hl:=nN
  have hs:sizeLine=16777216:=sizeLine_eq
  cases x with
  | non =>
    cases rx
    have e':k=false:=e
    subst e'
    exact truthy_none ⟨H,I,q⟩
  | bl b =>
    cases rx
    have e':k=b:=e
    subst e'
    exact wpAny_truthy_bool ⟨H,I,q⟩
  | int i =>
    obtain ⟨t,rfl⟩:=rx
    have e':k=(i != 0):=e
    subst e'
    exact PySem.P.truthy_int ⟨H,I,q⟩
  | str y =>
    obtain ⟨t,rfl⟩:=rx
    obtain ⟨hy,e'⟩:y.length≤sizeLine∧k=((y.length:Int) != 0):=e
    subst e'
    exact PySem.P.truthy_str (by omega) ⟨H,I.tok _,q⟩
  | byt y =>
    obtain ⟨t,rfl⟩:=rx
    obtain ⟨hy,e'⟩:y.size≤sizeLine∧k=((y.size:Int) != 0):=e
    subst e'
    exact W.truthy_bytes (by omega) ⟨H,I.tok _,q⟩
  | ref p =>
    cases rx
    have e':(∃ xs,SqL X.K H p xs∧k= !xs.isEmpty)∨(∃ xs,SqT X.K H p xs∧k= !xs.isEmpty)∨∃ kvs,H p=some (.dK kvs)∧k= !kvs.isEmpty:=e
    rcases e' with ⟨xs,hx,e'⟩ | ⟨xs,hx,e'⟩ | ⟨kvs,hx,e'⟩
    · subst e'
      obtain ⟨its,r,pl,hz⟩:=I.list hx
      have hlen:=r.length
      exact wpAny_truthy_list pl.isList (by simp only [List.size_toArray]; omega) ⟨H,I.tok _,by rw [vW r]; exact q⟩
    · subst e'
      obtain ⟨its,r,pl,hz⟩:=I.tuple hx
      have hlen:=r.length
      exact truthy_tuple pl (by simp only [List.size_toArray]; omega) ⟨H,I.tok _,by rw [vW r]; exact q⟩
    · subst e'
      obtain ⟨hz,hS,vs,r,m⟩:kvs.length≤sizeLine∧(p == sysModules)=false∧∃ vs,KV kvs vs∧s.heap.DictOf (eO X.prog X.w) p vs:=I.hok p _ hx
      have hlen:kvs.length=vs.length:=Paired.length r
      exact wpAny_truthy_dict hS m (by omega) ⟨H,I.tok _,by rw [IS r]; exact q⟩
  | _=>exact (show False from e).elim
theorem WU (ha:PE X a ta) (he:∀ whole,isTrue a X.env whole=(do let v ←whole; standAt a.pos; holding [v] (truthy v))) :
    PT X a (fun σ H Q=>ta σ H fun x H'=>∃ k,PX X.K x H' k∧Q k H'):=by
  intro pins s σ H Q I h
  exact isTrue_plain (thn (ha pins s σ H _ I h) fun v s1 ⟨x,H1,I1,r1,q1⟩=>DI pins s1 σ H1 x v Q I1 r1 q1) (he _)
theorem KO:OpR X (binaryOp .Add) (fun x y H Q=>∃ i j,x= .str i∧y= .str j∧i.length + j.length≤sizeLine∧Q (.str (i ++ j)) H):=by
  intro pins s σ H x y v u Q I rx ry h
  obtain ⟨i,j,rfl,rfl,hz,q⟩:=h
  obtain ⟨t,rfl⟩:=rx
  obtain ⟨t',rfl⟩:=ry
  exact add_str (fun t' tk=>⟨.str (i ++ j),H,I.tok _,⟨_,rfl⟩,q⟩) hz
theorem iC {x:V} {us:List Value} (r:aI [x] us):∃ u,us=[u]∧aL x u:=by
  cases r with
  | cons r1 r2=>cases r2; exact ⟨_,rfl,r1⟩
theorem ND {x y:V} {us:List Value} (r:aI [x,y] us):∃ u w',us=[u,w']∧aL x u∧aL y w':=by
  cases r with
  | cons r1 r2 =>
    cases r2 with
    | cons r3 r4=>cases r4; exact ⟨_,_,rfl,r1,r3⟩
theorem XJ:bF X (.builtin "abs") (fun xs H Q=>∃ i,xs=[.int i]∧Q (.int (if i < 0 then -i else i)) H):=by
  intro pins s σ H xs us Q I r h
  obtain ⟨i,rfl,q⟩:=h
  obtain ⟨u,rfl,t,rfl⟩:=iC r
  exact call_abs_int fun u tk=>⟨.int (if i < 0 then -i else i),H,I.tok _,⟨_,rfl⟩,q⟩
theorem TZ (hc:X.calm=true):bF X (.builtin "max") (fun xs H Q=>∃ i j,xs=[.int i,.int j]∧Q (.int (if j > i then j else i)) H):=by
  intro pins s σ H xs us Q I r h
  obtain ⟨i,j,rfl,q⟩:=h
  obtain ⟨u,w',rfl,⟨t,rfl⟩,⟨t',rfl⟩⟩:=ND r
  refine max_two_ints (I.ok.hd hc) fun h' tk k=>⟨_,H,I.kept k, ?_,q⟩
  by_cases hj:j > i
  · rw [if_pos hj,if_pos hj]; exact ⟨_,rfl⟩
  · rw [if_neg hj,if_neg hj]; exact ⟨_,rfl⟩
theorem SJ (hc:X.calm=true):bF X (.builtin "min") (fun xs H Q=>∃ i j,xs=[.int i,.int j]∧Q (.int (if j < i then j else i)) H):=by
  intro pins s σ H xs us Q I r h
  obtain ⟨i,j,rfl,q⟩:=h
  obtain ⟨u,w',rfl,⟨t,rfl⟩,⟨t',rfl⟩⟩:=ND r
  refine min_two_ints (I.ok.hd hc) fun h' tk k=>⟨_,H,I.kept k, ?_,q⟩
  by_cases hj:j < i
  · rw [if_pos hj,if_pos hj]; exact ⟨_,rfl⟩
  · rw [if_neg hj,if_neg hj]; exact ⟨_,rfl⟩
theorem ST:bF X (.type "int") (fun xs H Q=>(∃ i,xs=[.int i]∧Q (.int i) H)∨∃ k,xs=[.bl k]∧Q (.int (if k then 1 else 0)) H):=by
  intro pins s σ H xs us Q I r h
  rcases h with ⟨i,rfl,q⟩ | ⟨k,rfl,q⟩
  · obtain ⟨u,rfl,t,rfl⟩:=iC r
    exact call_int_int ⟨.int i,H,I,⟨_,rfl⟩,q⟩
  · obtain ⟨u,rfl,r1⟩:=iC r
    cases r1
    exact call_int_bool ⟨.int (if k then 1 else 0),H,I.tok _,⟨_,rfl⟩,q⟩
theorem CA:bF X (.type "str") (fun xs H Q=>∃ i,xs=[.int i]∧i.natAbs.log2 < 1920∧Q (.str (toString i)) H):=by
  intro pins s σ H xs us Q I r h
  obtain ⟨i,rfl,hz,q⟩:=h
  obtain ⟨u,rfl,t,rfl⟩:=iC r
  exact PySem.P.str_of_int hz ⟨.str _,H,I.tok _,⟨_,rfl⟩,q⟩
end
structure RK (h:Heap) (x dx C:Addr) (mA:Str→Option Value):Prop where
  obj:h.get? x=some (W.instObj C dx)
  ns:h.Ns1 dx mA
  ne:dx≠x
theorem SA {h:Heap} {dx:Addr} {mA:Str→Option Value} (n:h.Ns1 dx mA):∃ od,h.get? dx=some od∧∀ name,W.lookIn name od=some (mA name):=by
  obtain ⟨o,es,ep,ho,hd,hk,_,hm⟩:=n
  refine ⟨o,ho,fun name=>?_⟩
  have e:=hm name
  unfold nsFind findBy at e
  rw [←Array.find?_toList] at e
  unfold W.lookIn
  rw [hd]
  dsimp only
  split
  · rename_i y q
    rw [q] at e
    exact congrArg some e
  · rename_i q
    rw [q] at e
    have a:es.toList.any (·.refKey)=false:=by
      rw [List.any_eq_false]
      intro y hy
      obtain ⟨z,t,hkey⟩:=hk y (Array.mem_toList_iff.mp hy)
      simp [DictEntry.refKey,hkey]
    have a':¬es.toList.any (·.refKey)=true:=by rw [a]; exact Bool.false_ne_true
    rw [if_neg a']
    exact congrArg some e
theorem RK.look {h:Heap} {x dx C:Addr} {mA:Str→Option Value} (I:RK h x dx C mA):∃ od,W.InstAt h x (W.instObj C dx) C (some od)∧∀ name,W.lookIn name od=some (mA name) :=
  let ⟨od,ho,hl⟩:=SA I.ns
  ⟨od,⟨I.obj,rfl,rfl,ho⟩,hl⟩
section
variable {prog:Program} {w:World} {A:Around} {E:Value→Shared→Prop} {s:Shared} {K:W.Frag} {x dx C f:Addr} {mA:Str→Option Value} {name:Str} {v:Value}
theorem aBw {expr:Bool} {Q:Value→Shared→Prop} (X:K.In s.heap) (I:RK s.heap x dx C mA) (hg:W.plainGet K C name=true) (hh:W.hasDictIn K C=true)
    (ha:W.findIn K (.ref C) name=some none) (hv:mA name=some v) (hv':W.handedIn v=true) (h:Q v { s with toks:=s.toks + 1 }) :
    wpAny (model prog w) A (getAttr (.ref x) name expr) Q E s:=by
  obtain ⟨od,J,hl⟩:=I.look
  exact W.get_value X J (W.plainGet_of hg).1 (W.findObj_own hh ha rfl (by rw [hl,hv])) hv' h
theorem aBq {ns:List Str} {Q:Unit→Shared→Prop} (X:K.In s.heap) (I:RK s.heap x dx C mA)
    (hs:W.findIn K (.ref C) "__setattr__"=some (some (.builtin "object.__setattr__"))) (hp:W.plainOver K C=true) (ht:W.takerIn K C name=some none) (hh:W.hasDictIn K C=true)
    (hw:PySem.Within mA ns) (hsz:ns.length≤sizeLine)
    (h:∀ h',RK h' x dx C (fun y=>if y=name then some v else mA y)→Heap.SameBut dx s.heap h'→Q () { s with heap:=h',toks:=s.toks + 2 }) :
    wpAny (model prog w) A (setAttr (.ref x) name v) Q E s:=by
  obtain ⟨od,J,hl⟩:=I.look
  refine W.set_plain X J hs (W.osa_open (s:={ s with toks:=s.toks + 1 }) (r:=none) X J hp ht fun b=>?_)
  obtain ⟨cd,hc,hd'⟩:=W.any_some hh
  have hx:s.heap.get? x=some ⟨.ref C,some dx,.plain, #[]⟩:=I.obj
  refine wpAny_bind (wpAny_pure (wpAny_bind (wpAny_bind (wpAny_loadPart hx (wpAny_bind (W.Looks.here (s:={ s with toks:=s.toks + 1 }) (W.looks_clsIn X hc) ?_))))))
  rw [hd']
  refine wpAny_pure (a:=some dx) (wpAny_bind (wpAny_pure (wpAny_bind ?_)))
  refine wpAny_nsSet1 (s:={ s with toks:=s.toks + 1 }) I.ns fun h' hn2 hs2=>?_
  obtain ⟨oD,esD,epD,hoD,hdD,hcD⟩:=hn2.count (PySem.Within.cons name v hw)
  refine wpAny_bind (wpAny_lookBehind hoD (by rw [hdD]; exact pastItsLine_dict (Nat.le_trans hcD (by rw [List.length_cons]; omega))) ?_)
  exact wpAny_pure (h _ ⟨(hs2.2 _ (Ne.symm I.ne)).trans I.obj,hn2,I.ne⟩ hs2)
theorem GR {R:Result→Shared→Prop} {vs:List Value} {kw:List (Str×Value)} (X:K.In s.heap) (hm:W.makesIn K C=true)
    (hi:W.findIn K (.ref C) "__init__"=some (some (.ref f))) (hf:W.typeIn K (.ref f)=some (.type "function"))
    (h :codeAny (model prog w) (A.under (.builtin "type.__call__" ⟨.ref C :: vs,kw⟩)) (.call (.ref f) ⟨.ref (s.heap.objs.size + 1) :: vs,kw⟩) (W.InitBack (s.heap.objs.size + 1) R)
      { s with heap:=(s.heap.push W.emptyDict).push (W.instObj C s.heap.objs.size) }) :
    codeAny (model prog w) A (.call (.ref C) ⟨vs,kw⟩) R s:=by
  obtain ⟨hh,g,d,t,os⟩:=s
  exact W.make_core (W.makes_of X hm) (W.looks_findIn X hi) (fun self=>W.bind_fn X self hf) (.inl rfl) h
end
noncomputable def lJ (f:Str) (v:V):List (Str×V)→List (Str×V)
  | []=>[(f,v)]
  | (g,x) :: r=>if g=f then (g,v) :: r else (g,x) :: lJ f v r
theorem uP (f g:Str) (v:V):∀ fs:List (Str×V),(lJ f v fs).lookup g=if g=f then some v else fs.lookup g
  | [] =>by
    show List.lookup g [(f,v)]=_
    by_cases h:g=f
    · have hb:(g == f)=true:=beq_iff_eq.mpr h
      simp only [List.lookup,hb,if_pos h]
    · have hb:(g == f)=false:=beq_eq_false_iff_ne.mpr h
      simp only [List.lookup,hb,if_neg h]
  | (k, x) :: r=>by
    have ih:=uP f g v r
    rw [show lJ f v ((k,x) :: r)=(if k=f then (k,v) :: r else (k,x) :: lJ f v r) from rfl]
    by_cases hk:k=f
    · rw [if_pos hk]
      by_cases h:g=k
      · have hb:(g == k)=true:=beq_iff_eq.mpr h
        simp only [List.lookup,hb,if_pos (h.trans hk)]
      · have hb:(g == k)=false:=beq_eq_false_iff_ne.mpr h
        simp only [List.lookup,hb,if_neg (fun e:g=f=>h (e.trans hk.symm))]
    · rw [if_neg hk]
      by_cases h:g=k
      · have hb:(g == k)=true:=beq_iff_eq.mpr h
        simp only [List.lookup,hb,if_neg (fun e:g=f=>hk (h.symm.trans e))]
      · have hb:(g == k)=false:=beq_eq_false_iff_ne.mpr h
        simp only [List.lookup,hb]
        exact ih
theorem sP (f:Str) (v:V):∀ fs:List (Str×V),f∈(lJ f v fs).map (·.1)∧∀ g,g∈fs.map (·.1)→g∈(lJ f v fs).map (·.1)
  | []=>⟨by simp [lJ],fun g h=>by simp at h⟩
  | (k, x) :: r=>by
    obtain ⟨i1,i2⟩:=sP f v r
    rw [show lJ f v ((k,x) :: r)=(if k=f then (k,v) :: r else (k,x) :: lJ f v r) from rfl]
    by_cases hk:k=f
    · rw [if_pos hk]
      subst hk
      exact ⟨by simp,fun g h=>by simpa using h⟩
    · rw [if_neg hk]
      refine ⟨?_,fun g h=>?_⟩
      · rw [List.map_cons]
        exact List.mem_cons_of_mem _ i1
      · rw [List.map_cons] at h ⊢
        rcases List.mem_cons.mp h with e | e
        · exact List.mem_cons.mpr (.inl e)
        · exact List.mem_cons_of_mem _ (i2 g e)
theorem uT (f:Str) (v:V):∀ fs:List (Str×V),(lJ f v fs).length≤fs.length + 1
  | []=>by simp [lJ]
  | (k,x) :: r=>by
    have ih:=uT f v r
    rw [show lJ f v ((k,x) :: r)=(if k=f then (k,v) :: r else (k,x) :: lJ f v r) from rfl]
    by_cases hk:k=f
    · rw [if_pos hk,List.length_cons,List.length_cons]; omega
    · rw [if_neg hk,List.length_cons,List.length_cons]; omega
theorem nZ.some_of {v:V} {o:Option Value} (r:nZ (some v) o):∃ u,o=some u∧aL v u:=by
  cases o with
  | none=>exact (show False from r).elim
  | some u=>exact ⟨u,rfl,r⟩
theorem TV {v:V} {u:Value} (r:aL v u):W.handedIn u=true:=by
  cases v with
  | non=>cases (show u=Value.none from r); rfl
  | bl b=>cases (show u=Value.bool b from r); rfl
  | int i=>obtain ⟨t,e⟩:=(show ∃ t,u=Value.int i t from r); cases e; rfl
  | str x=>obtain ⟨t,e⟩:=(show ∃ t,u=Value.str x t from r); cases e; rfl
  | byt b=>obtain ⟨t,e⟩:=(show ∃ t,u=Value.bytes b t from r); cases e; rfl
  | flt b=>obtain ⟨t,e⟩:=(show ∃ t,u=Value.float b t from r); cases e; rfl
  | ref a=>cases (show u=Value.ref a from r); rfl
  | ty n=>cases (show u=Value.type n from r); rfl
section
variable {P:Program} {w:World} {H H':Hp} {h h':Heap} {a C dx:Addr} {fs fs':List (Str×V)}
theorem vQ (hok:HOk P w H h) (e:H a=some (.ins C dx fs)):∃ mA,RK h a dx C mA∧(∀ f,nZ (fs.lookup f) (mA f))∧PySem.Within mA (fs.map (·.1))∧fs.length≤1000∧H dx=some (.own a):=by
  obtain ⟨d,z,ne,ob,mA,n,r,q⟩:=(show dA P w H h a (.ins C dx fs) from hok a _ e)
  exact ⟨mA,⟨ob,n,ne⟩,r,q,z,d⟩
end
structure Cls (K:W.Frag) (C:Addr):Prop where
  pg:W.plainGet K C Str.empty=true
  hd:W.hasDictIn K C=true
  po:W.plainOver K C=true
  sa:W.findIn K (.ref C) "__setattr__"=some (some (.builtin "object.__setattr__"))
theorem Cls.get {K:W.Frag} {C:Addr} (c:Cls K C) (f:Str):W.plainGet K C f=true:=c.pg
noncomputable def gR (K:W.Frag) (C:Addr) (f:Str):Prop:=W.findIn K (.ref C) f=some none
theorem gR.taker {K:W.Frag} {C:Addr} {f:Str} (n:gR K C f):W.takerIn K C f=some none:=by
  unfold W.takerIn
  rw [show W.findIn K (.ref C) f=some none from n]
  rfl
structure Con (K:W.Frag) (C:Addr) (f:Str) (v:V) (u:Value):Prop where
  at_:W.findIn K (.ref C) f=some (some u)
  rel:aL v u
  get:W.specialIn K u "__get__"=some none
  cp:W.copiedNames.contains f=false
structure lL (K:W.Frag) (C:Addr) (m:Str) (f:Addr):Prop where
  at_:W.findIn K (.ref C) m=some (some (.ref f))
  fn:W.isFn K (.ref f)=true
  kp:W.keepIn K (.ref f)=true
section
variable {X:Cx} {pins:List (Addr×Obj)} {σ:St} {H:Hp} {s:Shared} {a C dx:Addr} {fs:List (Str×V)} {f:Str} {v:V} {A:Around} {E:Value→Shared→Prop}
theorem JV {b:Bool} {Q:Value→Shared→Prop} (I:Inv X pins σ H s) (e:H a=some (.ins C dx fs)) (c:Cls X.K C) (n:gR X.K C f) (l:fs.lookup f=some v)
    (h:∀ u s',Inv X pins σ H s'→aL v u→Q u s'):wpAny (model X.prog X.w) A (getAttr (.ref a) f b) Q E s:=by
  obtain ⟨mA,O,r,_,_,_⟩:=vQ I.hok e
  obtain ⟨u,hu,ru⟩:=nZ.some_of (v:=v) (o:=mA f) (by rw [←l]; exact r f)
  exact aBw I.kIn O (c.get f) c.hd n hu (TV ru) (h u _ (I.tok _) ru)
theorem LA {y:V} {u:Value} {Q:Unit→Shared→Prop} (I:Inv X pins σ H s) (e:H a=some (.ins C dx fs)) (c:Cls X.K C) (n:gR X.K C f) (hl:fs.length < 1000) (ry:aL y u)
    (h:∀ s',Inv X pins σ (upd H a (.ins C dx (lJ f y fs))) s'→Q () s'):wpAny (model X.prog X.w) A (setAttr (.ref a) f u) Q E s:=by
  obtain ⟨mA,O,r,wi,_,ho⟩:=vQ I.hok e
  have hz:(fs.map (·.1)).length≤sizeLine:=by rw [List.length_map,sizeLine_eq]; omega
  refine aBq I.kIn O c.sa c.po n.taker c.hd wi hz fun h' O' sb=>h _ ?_
  have hd:∃ o,h'.get? dx=some o:=let ⟨o,_,_,e',_⟩:=O'.ns; ⟨o,e'⟩
  refine I.write (x:=a) (e:=dx) (by rw [e]; exact True.intro) (.inr ho) (fun b q hb z=>(sb.2 b hb).trans z) hd ?_
  refine ⟨by rw [aH O.ne]; exact ho, ?_,O.ne,O'.obj,_,O'.ns,fun g=>?_,fun g hg=>?_⟩
  · have:=uT f y fs; omega
  · show nZ ((lJ f y fs).lookup g) (if g=f then some u else mA g)
    rw [uP]
    by_cases q:g=f
    · rw [if_pos q,if_pos q]; exact ry
    · rw [if_neg q,if_neg q]; exact r g
  · by_cases q:g=f
    · rw [q]; exact (sP f y fs).1
    · refine (sP f y fs).2 g (wi g fun z=>hg ?_)
      show (if g=f then some u else mA g)=none
      rw [if_neg q]; exact z
theorem Inv.made (I:Inv X pins σ H s):Inv X pins σ (upd (upd H s.heap.objs.size (.own (s.heap.objs.size + 1))) (s.heap.objs.size + 1) (.ins C s.heap.objs.size []))
    { s with heap:=(s.heap.push W.emptyDict).push (W.instObj C s.heap.objs.size) }:=by
  have e1:(s.heap.push W.emptyDict).get? s.heap.objs.size=some W.emptyDict:=Heap.get?_push_size s.heap rfl
  have e2:((s.heap.push W.emptyDict).push (W.instObj C s.heap.objs.size)).get? (s.heap.objs.size + 1)=some (W.instObj C s.heap.objs.size):=by
    have:=Heap.get?_push_size (s.heap.push W.emptyDict) (o:=W.instObj C s.heap.objs.size) rfl
    rwa [Heap.size_push] at this
  have e3:(s.heap.push W.emptyDict).Ns s.heap.objs.size (fun _=>none):=⟨W.emptyDict, #[],_,e1,rfl,(fun e he=>absurd he (by simp)),fun _=>rfl⟩
  have I1:=I.laid (a:=s.heap.objs.size) (o:=.own (s.heap.objs.size + 1)) (h':=s.heap.push W.emptyDict) (t':=s.toks) (fun b u q=>Heap.get?_push_of_some _ q) (Nat.le_refl _) ⟨_,e1⟩
  refine I1.laid (a:=s.heap.objs.size + 1) (o:=.ins C s.heap.objs.size []) (t':=s.toks) (fun b u q=>Heap.get?_push_of_some _ q) (Nat.le_of_eq (Heap.size_push _ _)) ?_
  have ne:s.heap.objs.size≠s.heap.objs.size + 1:=Nat.ne_of_lt (Nat.lt_succ_self _)
  refine ⟨by rw [aH ne,aZ],Nat.zero_le _,ne,e2,fun _=>none,(Heap.Ns1.of_empty e3).at fun o q=>Heap.get?_push_of_some _ q,fun _=>True.intro,fun y hy=>absurd rfl hy⟩
theorem aBN {prog:Program} {w:World} {env:Env} {e:Expr} {f:Str} {pos:Pos} {s:Shared} {Q:Value→Shared→Prop} (hb:attributeBase e f env (eval e env)=eval e env)
    (h:wpAny (model prog w) A (eval e env) (fun o s₁=>wpAny (model prog w) A (getAttr o f true) Q E s₁) E s):wpAny (model prog w) A (eval (.Attribute e f pos) env) Q E s :=
  Attribute_any_ h (by rw [arm_eval_Attribute,hb])
end
noncomputable def aMR (K:W.Frag) (ta:TE) (f:Str):TE:=fun σ H Q=>ta σ H fun x H1=>∃ a C dx fs v,x= .ref a∧H1 a=some (.ins C dx fs)∧Cls K C∧gR K C f∧fs.lookup f=some v∧Q v H1
noncomputable def aLp (K:W.Frag) (ta tv:TE) (f:Str):TS:=fun D σ H=>tv σ H fun y H1=>ta σ H1 fun x H2=>∃ a C dx fs,x= .ref a∧H2 a=some (.ins C dx fs)∧Cls K C∧gR K C f∧fs.length < 1000∧
  D.nx σ (upd H2 a (.ins C dx (lJ f y fs)))
section
variable {X:Cx} {o e value:Expr} {f:Str} {pos pos' tpos:Pos} {ta tv:TE}
theorem aH0 (he:PE X e ta) (hb:attributeBase e f X.env (eval e X.env)=eval e X.env):PE X (.Attribute e f pos) (aMR X.K ta f):=by
  intro pins s σ H Q I h
  refine aBN hb (thn (he pins s σ H _ I h) fun u s1 ⟨x,H1,I1,rx,a,C,dx,fs,v,ex,ea,c,n,l,q⟩=>?_)
  subst ex
  obtain rfl:u=Value.ref a:=rx
  exact JV I1 ea c n l fun u' s2 I2 ru=>⟨v,H1,I2,ru,q⟩
theorem aH4 (ha:PE X o ta) (hv:PE X value tv) (hs:swapsWith value (some (.Attribute o f pos')) pos.line X.env=pure false):PS X (.Assign [.Attribute o f pos'] value pos) (aLp X.K ta tv f):=by
  intro pins s σ H D I h
  refine plainObj_wpAny_Assign_Attribute (thn (hv pins s σ H _ I h) fun u s1 ⟨y,H1,I1,ry,q⟩=>thn (ha pins s1 σ H1 _ I1 q) fun ov s2 ⟨x,H2,I2,rx,a,C,dx,fs,ex,ea,c,n,l,q2⟩=>?_) hs
  subst ex
  obtain rfl:ov=Value.ref a:=rx
  exact LA I2 ea c n l ry fun s3 I3=>⟨σ,_,I3,q2⟩
end
section
variable {X:Cx} {pins:List (Addr×Obj)} {σ:St} {H:Hp} {s:Shared} {A:Around} {E:Value→Shared→Prop} {Q:Value→Shared→Prop} {c:Value} {b:Bool}
inductive uC (K:W.Frag) (H:Hp):V→Value→Prop where
  | non:uC K H .non (.type "NoneType")
  | bl (x:Bool):uC K H (.bl x) (.type "bool")
  | int (i:Int):uC K H (.int i) (.type "int")
  | str (x:Str):uC K H (.str x) (.type "str")
  | flt (x:UInt64):uC K H (.flt x) (.type "float")
  | lst {a:Addr} {xs:List V} (e:H a=some (.lst xs)):uC K H (.ref a) (.type "list")
  | frz {a:Addr} {o:Obj} {xs:List V} (e:H a=some (.frz o (.lst xs))):uC K H (.ref a) (.type "list")
  | tup {a:Addr} {xs:List V} (e:H a=some (.tup xs)):uC K H (.ref a) (.type "tuple")
  | dK {a:Addr} {kvs:List (Key×V)} (e:H a=some (.dK kvs)):uC K H (.ref a) (.type "dict")
  | dT {a:Addr} {kvs:List (List Key×V)} (e:H a=some (.dT kvs)):uC K H (.ref a) (.type "dict")
  | ins {a C dx:Addr} {fs:List (Str×V)} (e:H a=some (.ins C dx fs)) (cl:Cls K C) (ha:W.findIn K (.ref C) "__class__"=some (some (.builtin "object.__class__")))
      (hn:W.specialIn K (.builtin "object.__class__") "__get__"=some (some (.builtin "getset_descriptor.__get__"))) (htk:W.takesIn K (.builtin "object.__class__")=some true)
      (hm:W.mroIn K C (.type "object")=some true):uC K H (.ref a) (.ref C)
theorem zW {x:V} {u t:Value} (I:Inv X pins σ H s) (rx:aL x u) (ty:uC X.K H x t) (e:W.kitOne X.K t c=some b) (h:∀ tk,Q (.bool b) { s with toks:=tk }) :
    wpAny (model X.prog X.w) A (call (.builtin "isinstance") [u,c]) Q E s:=by
  cases ty with
  | non=>cases (show u=Value.none from rx); exact W.kia_one W.kitx_none I.kIn True.intro e (fun z=>nomatch z) h
  | bl y=>cases (show u=Value.bool y from rx); exact W.kia_one W.kitx_bool I.kIn True.intro e (fun z=>nomatch z) h
  | int i=>obtain ⟨t,q⟩:=(show ∃ t,u=Value.int i t from rx); cases q; exact W.kia_one W.kitx_int I.kIn True.intro e (fun z=>nomatch z) h
  | str y=>obtain ⟨t,q⟩:=(show ∃ t,u=Value.str y t from rx); cases q; exact W.kia_one W.kitx_str I.kIn True.intro e (fun z=>nomatch z) h
  | flt y=>obtain ⟨t,q⟩:=(show ∃ t,u=Value.float y t from rx); cases q; exact W.kia_one W.kitx_float I.kIn True.intro e (fun z=>nomatch z) h
  | @lst a xs ea =>
    cases (show u=Value.ref a from rx)
    obtain ⟨_,_,n,_,h1⟩:=(show dA X.prog X.w H s.heap a (.lst xs) from I.hok a _ ea)
    exact W.kia_one W.kitx_list I.kIn ⟨_,h1,rfl⟩ e (fun z=>nomatch z) h
  | @frz a ob xs ea =>
    cases (show u=Value.ref a from rx)
    obtain ⟨_,_,_,n,_,h1⟩:=(show dA X.prog X.w H s.heap a (.frz ob (.lst xs)) from I.hok a _ ea)
    exact W.kia_one W.kitx_list I.kIn ⟨_,h1,rfl⟩ e (fun z=>nomatch z) h
  | @tup a xs ea =>
    cases (show u=Value.ref a from rx)
    obtain ⟨_,_,_,p⟩:=(show dA X.prog X.w H s.heap a (.tup xs) from I.hok a _ ea)
    obtain ⟨o,h1,h2,_⟩:=p.1
    exact W.kia_one W.kitx_tuple I.kIn ⟨o,h1,h2⟩ e (fun z=>nomatch z) h
  | @dK a kvs ea =>
    cases (show u=Value.ref a from rx)
    obtain ⟨_,_,vs,_,p⟩:=(show dA X.prog X.w H s.heap a (.dK kvs) from I.hok a _ ea)
    obtain ⟨o,es,ep,h1,h2,_⟩:=p
    exact W.kia_one W.kitx_dict I.kIn ⟨o,h1,h2.1⟩ e (fun z=>nomatch z) h
  | @dT a kvs ea =>
    cases (show u=Value.ref a from rx)
    obtain ⟨_,_,xs,_,o,es,ep,h1,h2,_⟩:=(show dA X.prog X.w H s.heap a (.dT kvs) from I.hok a _ ea)
    exact W.kia_one W.kitx_dict I.kIn ⟨o,h1,h2.1⟩ e (fun z=>nomatch z) h
  | @ins a C dx fs ea cl ha hn htk hm =>
    cases (show u=Value.ref a from rx)
    obtain ⟨mA,O,_⟩:=vQ I.hok ea
    obtain ⟨od,J,_⟩:=O.look
    exact W.kia_one (W.kitx_own (cl.get _) cl.hd ha hn htk hm) I.kIn J e (fun z=>nomatch z) h
end
structure bE (k:Nat) (A:Around):Prop where
  hd:A.handled=none
  dp:A.depth + 3 * k + 5 < recursionLimit
  un:A.units + 16 * k + 200 < cLine
  gd:80≤k→A.guards=some []
theorem bE.mono {j k:Nat} {A:Around} (r:bE k A) (h:j≤k):bE j A:=⟨r.hd,by have:=r.dp; omega,by have:=r.un; omega,fun z=>r.gd (Nat.le_trans z h)⟩
theorem bE.deeper {k:Nat} {A:Around} (r:bE (k + 1) A) (env:Env):bE k (A.deeper env) :=
  ⟨r.hd,by have:=r.dp; show A.depth + 1 + 3 * k + 5 < _; omega,by have:=r.un; show A.units + 3 + 16 * k + 200 < _; omega,fun z=>r.gd (Nat.le_succ_of_le z)⟩
theorem bE.in1 {k:Nat} {A:Around} (r:bE (k + 1) A):bE k A.in1 :=
  ⟨r.hd,by have:=r.dp; show A.depth + 3 * k + 5 < _; omega,by have:=r.un; show A.units + 1 + 16 * k + 200 < _; omega,fun z=>r.gd (Nat.le_succ_of_le z)⟩
theorem IN {A:Around} {C:Addr} {us:List Value} {kw:List (Str×Value)}:(A.under (.builtin "type.__call__" ⟨.ref C :: us,kw⟩)).depth=A.depth + 1:=by
  first | rfl | simp [Around.under,Code.weight,Code.isCreation,Code.isGuard,Code.isCaller,Code.frames,Code.isFrame,guardIds]
theorem LN {A:Around} {C:Addr} {us:List Value} {kw:List (Str×Value)}:(A.under (.builtin "type.__call__" ⟨.ref C :: us,kw⟩)).units=A.units + 1:=by
  first | rfl | simp [Around.under,Code.cUnits,Code.frames,Code.isFrame]
theorem bE.make {k:Nat} {A:Around} (r:bE (k + 1) A) (C:Addr) (us:List Value) (kw:List (Str×Value)):bE k (A.under (.builtin "type.__call__" ⟨.ref C :: us,kw⟩)) :=
  ⟨r.hd,by have:=r.dp; rw [IN]; omega,by have:=r.un; rw [LN]; omega,fun z=>by
    have e:=r.gd (Nat.le_succ_of_le z)
    first | exact e | (simp only [Around.under,Code.isGuard,guardIds]; simpa using e)⟩
theorem bE.depth {k:Nat} {A:Around} (r:bE k A):A.depth < recursionLimit:=by have:=r.dp; omega
theorem bE.units {k:Nat} {A:Around} (r:bE k A):A.units + 64 < cLine:=by have:=r.un; omega
theorem bE.units0 {k:Nat} {A:Around} (r:bE k A):A.units < cLine:=by have:=r.un; omega
noncomputable def aID:TA:=fun _ H Q=>Q [] H
noncomputable def aEE (ta:TE) (tr:TA):TA:=fun σ H Q=>ta σ H fun x H1=>tr σ H1 fun xs H2=>Q (x :: xs) H2
section
variable {X:Cx} {e:Expr} {es:List Expr} {te:TE} {t:TA} {pos:Pos}
theorem kD:PA X [] aID:=fun _ _ _ _ H Q I h=>Calls.spliced_nil ⟨[],H,I,.nil,h⟩
theorem dO (ha:PE X e te) (hr:PA X es t) (hs:starEach (e :: es) X.env=(false,eval e X.env) :: starEach es X.env:=by rfl):PA X (e :: es) (aEE te t):=by
  intro pos pins s σ H Q I h
  rw [hs]
  show wpAny _ _ (spliced ((false,eval e X.env) :: backTo pos (starEach es X.env))) _ _ s
  refine Calls.spliced_cons (thn (ha pins s σ H _ I h) fun u s1 ⟨x,H1,I1,r1,q1⟩=>?_)
  exact thn (hr pos pins s1 σ H1 _ I1 q1) fun us s2 ⟨xs,H2,I2,r2,q2⟩=>⟨x :: xs,H2,I2,.cons r1 r2,q2⟩
noncomputable def aK9 (t:TA):TE:=fun σ H Q=>t σ H fun xs H1=>xs.length≤sizeLine∧∀ p,H1 p=none→Q (.ref p) (upd H1 p (.tup xs))
noncomputable def aMl (t:TA):TE:=fun σ H Q=>t σ H fun xs H1=>xs.length≤sizeLine∧∀ p,H1 p=none→Q (.ref p) (upd H1 p (.lst xs))
theorem aFV {x1} (h:PA X es t):PE X (.Tuple es x1 pos) (aK9 t):=by
  intro pins s σ H Q I hq
  refine wpAny_Tuple_spliced (thn (h pos pins s σ H _ I hq) fun us s1 ⟨xs,H1,I1,r,z,q⟩=>⟨by rw [←r.length]; exact z, ?_⟩)
  have hf:H1 s1.heap.objs.size=none:=I1.hok.fresh (Nat.le_refl _)
  refine ⟨.ref s1.heap.objs.size,upd H1 s1.heap.objs.size (.tup xs),I1.laid (t':=s1.toks) (fun b u e=>Heap.get?_push_of_some _ e) (Nat.le_refl _) ?_,rfl,q _ hf⟩
  exact ⟨z,us,r,iH.new _ _⟩
theorem aFc (h:PA X es t):PE X (.List es pos) (aMl t):=by
  intro pins s σ H Q I hq
  refine wpAny_List_spliced (thn (h pos pins s σ H _ I hq) fun us s1 ⟨xs,H1,I1,r,z,q⟩=>⟨by rw [←r.length]; exact z, ?_⟩)
  have hf:H1 s1.heap.objs.size=none:=I1.hok.fresh (Nat.le_refl _)
  refine ⟨.ref s1.heap.objs.size,upd H1 s1.heap.objs.size (.lst xs),I1.laid (t':=s1.toks) (fun b u e=>Heap.get?_push_of_some _ e) (Nat.le_refl _) ?_,rfl,q _ hf⟩
  exact ⟨z,us,0,r,Heap.get?_push_size _ rfl⟩
end
noncomputable abbrev Sp:=List V→Hp→VK→XK→Prop
noncomputable abbrev CXT:=List Env→Hp→Shared→XK→Value→Shared→Prop
structure uM (P:Program) (w:World) (K:W.Frag) (mg:Str→Option Value) (base:Heap) (A:Around) (outer:List Env) (s:Shared) (H:Hp):Prop where
  frames:A.frames=some outer
  mod:Mod K mg base
  bs:∀ b o,base.get? b=some o→s.heap.get? b=some o∧H b=none
  bsz:base.objs.size≤s.heap.objs.size
  funs:s.heap.FunFrames base outer
  frf:∀ b∈frs outer,H b=none
  hok:HOk P w H s.heap
  bare:AllBare s.gens
noncomputable def CE (outer:List Env) (P:Program) (w:World) (H:Hp) (s:Shared) (Q:VK) (u:Value) (s':Shared):Prop :=
  ∃ v H',s'.os=s.os∧AllBare s'.gens∧Un (frs outer) [] H H' s.heap s'.heap∧HOk P w H' s'.heap∧aL v u∧Q v H'
noncomputable def CR (CX:CXT) (outer:List Env) (P:Program) (w:World) (H:Hp) (s:Shared) (Q:VK) (E:XK) (r:Result) (s':Shared):Prop :=
  match r with
  | .ok (.ret u)=>CE outer P w H s Q u s'
  | .ok _=>False
  | .error e=>CX outer H s E e s'
structure bS (P:Program) (w:World) (K:W.Frag) (mg:Str→Option Value) (base:Heap) (CX:CXT) (k:Nat) (f:Addr) (fd:FuncData) (ps:List Str) (sp:Sp):Prop where
  len:∀ vs H Q E,sp vs H Q E→vs.length=ps.length
  run:∀ (A:Around) (outer:List Env) (s:Shared) (H:Hp) (args:Args) (us:List Value) (vs:List V) (Q:VK) (E:XK),bE k A→uM P w K mg base A outer s H→BindsTo s fd args (ps.zip us)→aI vs us→sp vs H Q E→
    codeAny (model P w) A (.call (.ref f) args) (CR CX outer P w H s Q E) s
theorem bS.mono {P:Program} {w:World} {K:W.Frag} {mg:Str→Option Value} {base:Heap} {CX:CXT} {j k:Nat} {f:Addr} {fd:FuncData} {ps:List Str} {sp:Sp} (F:bS P w K mg base CX j f fd ps sp) (h:j≤k) :
    bS P w K mg base CX k f fd ps sp:=⟨F.len,fun A outer s H args us vs Q E hr=>F.run A outer s H args us vs Q E (hr.mono h)⟩
theorem bS.imp {P:Program} {w:World} {K:W.Frag} {mg:Str→Option Value} {base:Heap} {CX:CXT} {k:Nat} {f:Addr} {fd:FuncData} {ps:List Str} {sp sp':Sp} (F:bS P w K mg base CX k f fd ps sp)
    (h:∀ vs H Q E,sp' vs H Q E→sp vs H Q E):bS P w K mg base CX k f fd ps sp' :=
  ⟨fun vs H Q E q=>F.len vs H Q E (h _ _ _ _ q),fun A outer s H args us vs Q E hr he hb hv hs=>F.run A outer s H args us vs Q E hr he hb hv (h _ _ _ _ hs)⟩
theorem uM.make {P:Program} {w:World} {K:W.Frag} {mg:Str→Option Value} {base:Heap} {A:Around} {outer:List Env} {s:Shared} {H:Hp} (e:uM P w K mg base A outer s H) (C:Addr) (us:List Value) (kw:List (Str×Value)) :
    uM P w K mg base (A.under (.builtin "type.__call__" ⟨.ref C :: us,kw⟩)) outer s H:=⟨by first | exact e.frames | (simpa [Around.under,Code.envs,Code.isFrame,pushEnvs] using e.frames),e.mod,e.bs,e.bsz,e.funs,e.frf,e.hok,e.bare⟩
theorem uM.in1 {P:Program} {w:World} {K:W.Frag} {mg:Str→Option Value} {base:Heap} {A:Around} {outer:List Env} {s:Shared} {H:Hp} (e:uM P w K mg base A outer s H) :
    uM P w K mg base A.in1 outer s H:=⟨e.frames,e.mod,e.bs,e.bsz,e.funs,e.frf,e.hok,e.bare⟩
section
variable {X:Cx} {pins:List (Addr×Obj)} {σ:St} {H:Hp} {s s':Shared}
theorem Inv.env0 (I:Inv X pins σ H s):uM X.prog X.w X.K X.mg X.base X.A X.stack s H :=
  ⟨I.ok.frames,I.ok.mod,I.bs,Nat.le_trans I.ok.bsz I.sz,I.stack,I.stkFree,I.hok,I.bare⟩
theorem Inv.after {Q:VK} {u:Value} (I:Inv X pins σ H s) (h:CE X.stack X.prog X.w H s Q u s'):EP X pins σ Q u s':=by
  obtain ⟨v,H',os,bare,un,hok,r,q⟩:=h
  obtain ⟨hh,g,d,t,os'⟩:=s'
  obtain rfl:os'=s.os:=os
  exact ⟨v,H',I.call (h':=hh) (g':=g) (d':=d) (t':=t) (ch:=[]) un hok bare (fun b z=>absurd z (by simp)),r,q⟩
end
noncomputable def aKH (sp:Sp) (dvs:List V) (E:XK) (t:TA):TE:=fun σ H Q=>t σ H fun vs H1=>sp (vs ++ dvs) H1 Q E
noncomputable def aKF (C:Addr) (sp:Sp) (dvs:List V) (E:XK) (t:TA):TE:=fun σ H Q=>t σ H fun vs H1=>∀ x dx,H1 x=none→H1 dx=none→dx≠x→
  sp (.ref x :: (vs ++ dvs)) (upd (upd H1 dx (.own x)) x (.ins C dx [])) (fun v H2=>v= .non∧Q (.ref x) H2) E
noncomputable def aE (K:W.Frag) (fd:FuncData) (ps:List Str) (ds:List Value):Prop :=
  ∀ (s:Shared) (us:List Value),K.In s.heap→(us ++ ds).length=ps.length→BindsTo s fd ⟨us,[]⟩ (ps.zip (us ++ ds))
theorem aE.all {K:W.Frag} {fd:FuncData} {ps:List Str} (h:∀ us:List Value,us.length=ps.length→bindArgs fd ⟨us,[]⟩=pure (ps.zip us)):aE K fd ps []:=fun s us _ hl=>by
  rw [List.append_nil] at hl ⊢
  exact .of_eq (h us hl)
noncomputable def tS (CX:CXT) (X:Cx) (E:XK):Prop:= ∀ (pins:List (Addr×Obj)) (σ:St) (H:Hp) (s:Shared) (e:Value) (s':Shared),Inv X pins σ H s→CX X.stack H s E e s'→X.xe e s'
section
variable {X:Cx} {CX:CXT} {k:Nat} {f C:Addr} {fd:FuncData} {ps:List Str} {sp:Sp} {dvs:List V} {ds:List Value} {E:XK} {x m:Str} {p pos apos:Pos} {e o:Expr} {es:List Expr} {ta:TE} {t:TA}
theorem aGS {pins:List (Addr×Obj)} {σ:St} {H:Hp} {s:Shared} {Q:VK} {us:List Value} {vs:List V} (F:bS X.prog X.w X.K X.mg X.base CX k f fd ps sp) (hr:bE k X.A) (hb:aE X.K fd ps ds) (hd:aI dvs ds) (hx:tS CX X E)
    (I:Inv X pins σ H s) (r:aI vs us) (h:sp (vs ++ dvs) H Q E):wpAny (model X.prog X.w) X.A (call (.ref f) us) (EP X pins σ Q) X.xe s:=by
  have r2:aI (vs ++ dvs) (us ++ ds):=r.append hd
  have hl:(us ++ ds).length=ps.length:=by rw [←r2.length]; exact F.len _ _ _ _ h
  refine wpAny_call (codeAny_mono (F.run X.A X.stack s H ⟨us,[]⟩ (us ++ ds) (vs ++ dvs) Q E hr I.env0 (hb s us I.kIn hl) r2 h) fun r s' hq=>?_)
  cases r with
  | error e=>exact hx pins σ H s e s' I hq
  | ok fl =>
    cases fl with
    | ret u=>exact I.after hq
    | next=>exact False.elim hq
    | brk=>exact False.elim hq
    | cont=>exact False.elim hq
theorem aBE (F:bS X.prog X.w X.K X.mg X.base CX k f fd ps sp) (hr:bE k X.A) (hg:Gl X x) (hm:X.mg x=some (.ref f)) (hk:W.keepIn X.K (.ref f)=true) (hb:aE X.K fd ps ds) (hd:aI dvs ds) (hx:tS CX X E)
    (ha:PA X (e :: es) t) (hdb:(x == ("__debug__":Str))=false:=by decide) (he:starEach (e :: es) X.env=(false,eval e X.env) :: starEach es X.env:=by rfl) (hpl:(backTo pos (starEach es X.env)).any (·.1)=false:=by rfl) :
    PE X (.Call (.Name x p) (e :: es) [] pos) (aKH sp dvs E t):=by
  intro pins s σ H Q I h
  refine wpAny_Call_Name_kw (mV I hg hm ?_ hdb)
  refine W.callWith_K (h₀:=X.base) I.ok.mod.kin hk (thn (ha pos pins s σ H _ I h) fun us s1 ⟨vs,H1,I1,r,q⟩=>⟨I1.kIn, ?_⟩) he hpl
  exact aGS F hr hb hd hx I1 r q
structure Mk (K:W.Frag) (C f:Addr):Prop where
  makes:W.makesIn K C=true
  init:W.findIn K (.ref C) "__init__"=some (some (.ref f))
  fn:W.isFn K (.ref f)=true
  kp:W.keepIn K (.ref C)=true
theorem VP {pins:List (Addr×Obj)} {σ:St} {H:Hp} {s:Shared} {Q:VK} {us:List Value} {vs:List V} (M:Mk X.K C f) (F:bS X.prog X.w X.K X.mg X.base CX k f fd ps sp) (hr:bE (k + 1) X.A) (hb:aE X.K fd ps ds) (hd:aI dvs ds)
    (hx:tS CX X E) (I:Inv X pins σ H s) (r:aI vs us)
    (h:∀ x dx,H x=none→H dx=none→dx≠x→sp (.ref x :: (vs ++ dvs)) (upd (upd H dx (.own x)) x (.ins C dx [])) (fun v H2=>v= .non∧Q (.ref x) H2) E) :
    wpAny (model X.prog X.w) X.A (call (.ref C) us) (EP X pins σ Q) X.xe s:=by
  have hq:=h (s.heap.objs.size + 1) s.heap.objs.size (I.hok.fresh (Nat.le_succ _)) (I.hok.fresh (Nat.le_refl _)) (Nat.ne_of_lt (Nat.lt_succ_self _))
  have I2:=Inv.made (C:=C) I
  have r2:aI (V.ref (s.heap.objs.size + 1) :: (vs ++ dvs)) (Value.ref (s.heap.objs.size + 1) :: (us ++ ds)):=.cons rfl (r.append hd)
  have hl:(Value.ref (s.heap.objs.size + 1) :: us ++ ds).length=ps.length:=by
    have e:=r2.length
    rw [F.len _ _ _ _ hq] at e
    exact e.symm
  refine wpAny_call (GR (f:=f) I.kIn M.makes M.init (beq_iff_eq.mp M.fn) (codeAny_mono (F.run _ X.stack _ _ ⟨Value.ref (s.heap.objs.size + 1) :: us,[]⟩ (Value.ref (s.heap.objs.size + 1) :: (us ++ ds)) _ _ E (hr.make C us [])
    (I2.env0.make C us []) (hb _ (Value.ref (s.heap.objs.size + 1) :: us) I2.kIn hl) r2 hq) fun r s' hq'=>?_))
  cases r with
  | error e=>exact hx pins σ _ _ e s' I2 hq'
  | ok fl =>
    cases fl with
    | ret u =>
      obtain ⟨v,H',I3,rv,ev,q3⟩:=I2.after hq'
      subst ev
      exact ⟨rv,⟨V.ref (s.heap.objs.size + 1),H',I3,rfl,q3⟩⟩
    | next=>exact False.elim hq'
    | brk=>exact False.elim hq'
    | cont=>exact False.elim hq'
theorem aBr (M:Mk X.K C f) (F:bS X.prog X.w X.K X.mg X.base CX k f fd ps sp) (hr:bE (k + 1) X.A) (hg:Gl X x) (hm:X.mg x=some (.ref C)) (hb:aE X.K fd ps ds) (hd:aI dvs ds) (hx:tS CX X E)
    (ha:PA X (e :: es) t) (hdb:(x == ("__debug__":Str))=false:=by decide) (he:starEach (e :: es) X.env=(false,eval e X.env) :: starEach es X.env:=by rfl) (hpl:(backTo pos (starEach es X.env)).any (·.1)=false:=by rfl) :
    PE X (.Call (.Name x p) (e :: es) [] pos) (aKF C sp dvs E t):=by
  intro pins s σ H Q I h
  refine wpAny_Call_Name_kw (mV I hg hm ?_ hdb)
  refine W.callWith_K (h₀:=X.base) I.ok.mod.kin M.kp (thn (ha pos pins s σ H _ I h) fun us s1 ⟨vs,H1,I1,r,q⟩=>⟨I1.kIn, ?_⟩) he hpl
  exact VP M F hr hb hd hx I1 r q
end
noncomputable def PK (X:Cx) (kws:List Keyword) (t:TA):Prop :=
  ∀ (pos:Pos) (pins:List (Addr×Obj)) (s:Shared) (σ:St) (H:Hp) (Q:List V→Hp→Prop),Inv X pins σ H s→t σ H Q→wpAny (model X.prog X.w) X.A (evalAll ((backToKw pos (keywordEach kws X.env)).map (·.2))) (AP X pins σ Q) X.xe s
section
variable {X:Cx} {CX:CXT} {k:Nat} {f C:Addr} {fd:FuncData} {ps ks:List Str} {sp:Sp} {E:XK} {x m:Str} {p pos apos kpos:Pos} {e o:Expr} {es:List Expr} {kws:List Keyword} {te ta:TE} {t tk:TA} {nm:Option Str}
theorem WJ:PK X [] aID:=fun _ _ _ _ H Q I h=>wpAny_evalAll_nil ⟨[],H,I,.nil,h⟩
theorem aCP (ha:PE X e te) (hr:PK X kws t):PK X (⟨nm,e,kpos⟩ :: kws) (aEE te t):=by
  intro pos pins s σ H Q I h
  show wpAny _ _ (evalAll ((do let v ←eval e X.env; standAt pos; pure v) :: (backToKw pos (keywordEach kws X.env)).map (·.2))) _ _ s
  refine wpAny_evalAll_cons (wpAny_bind (thn (ha pins s σ H _ I h) fun u s1 ⟨x,H1,I1,r1,q1⟩=>wpAny_bind (wpAny_standAt (wpAny_pure ?_))))
  exact thn (hr pos pins s1 σ H1 _ I1 q1) fun us s2 ⟨xs,H2,I2,r2,q2⟩=>⟨x :: xs,H2,I2,.cons r1 r2,q2⟩
structure aLq (K:W.Frag) (fd:FuncData) (ps ks:List Str) (g:List Value→List Value→List Value) (gV:List V→List V→List V):Prop where
  to:∀ (s:Shared) (us ws:List Value),K.In s.heap→(g us ws).length=ps.length→BindsTo s fd ⟨us,ks.zip ws⟩ (ps.zip (g us ws))
  rel:∀ {vs:List V} {us:List Value} {zs:List V} {ws:List Value},aI vs us→aI zs ws→aI (gV vs zs) (g us ws)
variable {g:List Value→List Value→List Value} {gV:List V→List V→List V}
end
structure vH (N P:List Str) (sc:Scope):Prop where
  kind:sc.kind= .function
  co:sc.isCoroutine=false
  gen:sc.isGenerator=false
  nd:N.Nodup
  pre:N.take P.length=P
  par:∀ x∈P,sc.names.lookup x=some .local∨sc.names.lookup x=some .cell
  nofree:∀ y∈sc.names,y.2≠.free
theorem zS {kindOf:Str→Option NameKind} {x:Str}:∀ {binds:List (Str×Value)} {m:Str→Option Value},(∀ v,(x,v)∉ binds)→bindL kindOf binds m x=m x
  | [],_,_=>rfl
  | (n,v) :: r,m,h=>by
    unfold bindL
    rw [zS fun w hw=>h w (List.mem_cons_of_mem _ hw)]
    split
    · have:x≠n:=by rintro rfl; exact h v List.mem_cons_self
      simp [this]
    · rfl
theorem AB {kindOf:Str→Option NameKind} {x:Str}:∀ {binds:List (Str×Value)} {m:Str→Option Value},(∀ v,(x,v)∉ binds)→bindC kindOf binds m x=m x
  | [],_,_=>rfl
  | (n,v) :: r,m,h=>by
    unfold bindC
    rw [AB fun w hw=>h w (List.mem_cons_of_mem _ hw)]
    split
    · rfl
    · have:x≠n:=by rintro rfl; exact h v List.mem_cons_self
      simp [this]
theorem AC {kindOf:Str→Option NameKind} {x:Str} {v:Value}:∀ {P:List Str} {vs:List Value} {i:Nat} {m:Str→Option Value},P.Nodup→P[i]? =some x→vs[i]? =some v→kindOf x=some .local→
    bindL kindOf (P.zip vs) m x=some v
  | [],_,_,_,_,h,_,_=>by simp at h
  | _ :: _,[],_,_,_,_,h,_=>by simp at h
  | p :: P,w :: vs,0,m,nd,h1,h2,hk=>by
    simp at h1 h2; subst h1; subst h2
    show bindL kindOf ((p,w) :: P.zip vs) m p=_
    unfold bindL
    rw [zS fun v hv=>(List.nodup_cons.mp nd).1 (List.of_mem_zip hv).1,if_pos hk]
    simp
  | p :: P,w :: vs,i + 1,m,nd,h1,h2,hk=>by
    show bindL kindOf ((p,w) :: P.zip vs) m x=_
    unfold bindL
    exact AC (i:=i) (List.nodup_cons.mp nd).2 (by simpa using h1) (by simpa using h2) hk
theorem zV {kindOf:Str→Option NameKind} {x:Str} {v:Value}:∀ {P:List Str} {vs:List Value} {i:Nat} {m:Str→Option Value},P.Nodup→P[i]? =some x→vs[i]? =some v→kindOf x≠some .local→
    bindC kindOf (P.zip vs) m x=some v
  | [],_,_,_,_,h,_,_=>by simp at h
  | _ :: _,[],_,_,_,_,h,_=>by simp at h
  | p :: P,w :: vs,0,m,nd,h1,h2,hk=>by
    simp at h1 h2; subst h1; subst h2
    show bindC kindOf ((p,w) :: P.zip vs) m p=_
    unfold bindC
    rw [AB fun v hv=>(List.nodup_cons.mp nd).1 (List.of_mem_zip hv).1,if_neg hk]
    simp
  | p :: P,w :: vs,i + 1,m,nd,h1,h2,hk=>by
    show bindC kindOf ((p,w) :: P.zip vs) m x=_
    unfold bindC
    exact zV (i:=i) (List.nodup_cons.mp nd).2 (by simpa using h1) (by simpa using h2) hk
noncomputable def start (N:List Str) (vs:List V):St:=vs.map some ++ List.replicate (N.length - vs.length) none
noncomputable def MN (CX:CXT) (P:Program) (w:World) (K:W.Frag) (mg:Str→Option Value) (base:Heap) (N:List Str) (qual:Str) (scope:Scope) (f:Addr) (cd:Value) (A:Around) (outer:List Env) (s:Shared) (H:Hp) (E:XK):Cx where
  prog:=P
  w:=w
  K:=K
  mg:=mg
  base:=base
  A:=A.deeper (envOfC qual scope s.heap.objs.size f cd)
  N:=N
  s₀:=s
  H₀:=H
  env:=envOfC qual scope s.heap.objs.size f cd
  outer:=outer
  stack:=envOfC qual scope s.heap.objs.size f cd :: outer
  ex:=[]
  calm:=true
  fn:=fun _=>true
  pn:=[]
  xe:=fun e s'=>wpAny (model P w) (A.deeper (envOfC qual scope s.heap.objs.size f cd)) (leaving (envOfC qual scope s.heap.objs.size f cd) e) (fun _ s''=>CX outer H s E e s'') (fun e' s''=>CX outer H s E e' s'') s'
theorem xP {sc:Scope} {n:Nat} {x:Str} (h:sc.names.lookup x=some .cell):∃ c,(cellsFrom n sc.names []).lookup x=some c:=by
  have q:=W.cellsFrom_some sc.names n [] (.inl h)
  exact Option.isSome_iff_exists.mp q
theorem QF {CX:CXT} {P:Program} {w:World} {K:W.Frag} {mg:Str→Option Value} {base:Heap} {N ps:List Str} {qual:Str} {scope:Scope} {f:Addr} {cd:Value} {A:Around} {outer:List Env} {s s1:Shared} {H:Hp} {E:XK} {us:List Value} {vs:List V}
    (S:vH N ps scope) (hd:A.handled=none) (e0:uM P w K mg base A outer s H) (hl:vs.length=ps.length) (r:aI vs us)
    (x:InCallC s s.heap.objs.size (bindL (envOfC qual scope s.heap.objs.size f cd).kindOf (ps.zip us) fun _=>none) (cellsFrom (s.heap.objs.size + 1) scope.names []) (bindC (envOfC qual scope s.heap.objs.size f cd).kindOf (ps.zip us) fun _=>none) s1) :
    Inv (MN CX P w K mg base N qual scope f cd A outer s H E) [] (start N vs) H s1:=by
  have hpl:ps.length≤N.length:=by have:=congrArg List.length S.pre; rw [List.length_take] at this; omega
  obtain ⟨h1,tk,rfl,hk⟩:=x.done
  have noA:∀ b:Addr,b∉ (MN CX P w K mg base N qual scope f cd A outer s H E).ex:=fun b z=>absurd (show b∈([]:List Addr) from z) (by simp)
  refine ⟨⟨e0.mod,S.kind,rfl,rfl,Nat.le_refl _,fun y z c h1 h2=>?_,fun y hy=>?_,fun y c _ h=>?_,fun _=>hd,Around.frames_deeper e0.frames,.inr ⟨rfl,rfl⟩,fun b z=>absurd z (noA b),e0.bs,e0.bsz,fun b _ _=>noA b,fun b z=>absurd z (noA b),e0.funs,e0.frf⟩,
    rfl,e0.bare,Un.kept hk,⟨_,x.toInCall.ns,fun i y v h1 h2 h3=>?_⟩,fun y c h=>⟨_,x.cell y c h⟩,e0.hok.fresh (Nat.le_refl _),fun y c h=>?_,fun p hp=>absurd (show p∈([]:List (Addr×Obj)) from hp) (by simp),e0.hok.kept hk, ?_⟩
  · exact name_of_addr x.apart (PySem.mem_of_lookup h1) (PySem.mem_of_lookup h2)
  · have hy:scope.names.lookup y=some .cell∨scope.names.lookup y=some .free:=hy
    rcases hy with hy | hy
    · exact xP hy
    · exact absurd rfl (S.nofree _ (PySem.mem_of_lookup hy))
  · exact Nat.le_of_lt (x.above y c (PySem.mem_of_lookup h))
  · have hi:i < vs.length:=by
      unfold start at h2
      by_cases hi:i < vs.length
      · exact hi
      · rw [List.getElem?_append_right (by simpa using hi)] at h2
        rw [List.getElem?_replicate] at h2
        split at h2 <;> cases h2
    have ha:vs[i]? =some v:=by
      unfold start at h2
      rw [List.getElem?_append_left (by simpa using hi),List.getElem?_map] at h2
      cases e:vs[i]? with
      | none=>rw [e] at h2; cases h2
      | some a=>rw [e] at h2; cases h2; rfl
    obtain ⟨u,hu,rv⟩:=r.get ha
    have hp:ps[i]? =some y:=by
      rw [←S.pre,List.getElem?_take_of_lt (by omega)]; exact h1
    have ndP:ps.Nodup:=by rw [←S.pre]; exact S.nd.sublist (List.take_sublist _ _)
    refine ⟨u,rv, ?_⟩
    rcases S.par y (List.mem_of_getElem? hp) with k | k
    · exact .inl ⟨k,AC ndP hp hu k⟩
    · obtain ⟨c,e⟩:=xP (n:=s.heap.objs.size + 1) k
      refine .inr ⟨.inl k,c,e, ?_⟩
      have q:=x.cell y c e
      rw [zV ndP hp hu (by show scope.names.lookup y≠_; rw [k]; decide)] at q
      exact q
  · exact e0.hok.fresh (Nat.le_of_lt (x.above y c (PySem.mem_of_lookup h)))
  · unfold start
    show _=N.length
    rw [List.length_append,List.length_map,List.length_replicate]
    omega
theorem aEh {CX:CXT} {P:Program} {w:World} {K:W.Frag} {mg:Str→Option Value} {base:Heap} {k:Nat} {f:Addr} {name qual:Str} {params:Arguments} {body:List Stmt} {scope:Scope} {dV kV doc pm cdv ct oc:Value} {an od:Option Addr}
    {osl:Array (Option Value)} {N ps:List Str} {sp:Sp} (lk:K.lookup f=some ⟨oc,od,.func (W.fnOf name qual params body scope dV kV doc pm an cdv ct),osl⟩) (hcd:W.codeIn K cdv qual=true) (S:vH N ps scope)
    (len:∀ vs H Q E,sp vs H Q E→vs.length=ps.length)
    (hbody:∀ (A:Around) (outer:List Env) (s:Shared) (H:Hp) (vs:List V) (Q:VK) (E:XK),bE k (A.deeper (envOfC qual scope s.heap.objs.size f cdv))→sp vs H Q E→
      ∃ t,PSs (MN CX P w K mg base N qual scope f cdv A outer s H E) body t∧t { nx:=fun _ H'=>Q .non H',rt:=Q } (start N vs) H) :
    bS P w K mg base CX (k + 1) f (W.fnOf name qual params body scope dV kV doc pm an cdv ct) ps sp:=by
  refine ⟨len,fun A outer s H args us vs Q E hr e0 hb r hsp=>?_⟩
  have hl:=len _ _ _ _ hsp
  have KX:K.In s.heap:=e0.mod.kin.keeps fun b o e=>(e0.bs b o e).1
  have lim:s.heap.NoLimit:=e0.mod.nolimit.keeps fun b o e=>(e0.bs b o e).1
  have hkind:∀ y∈ps.zip us,scope.names.lookup y.1=some .local∨(scope.names.lookup y.1=some .cell∧((cellsFrom (s.heap.objs.size + 1) scope.names []).lookup y.1).isSome=true):=fun ⟨n,v⟩ hy=>by
    rcases S.par n (List.of_mem_zip hy).1 with q | q
    · exact .inl q
    · exact .inr ⟨q,W.cellsFrom_some _ _ _ (.inl q)⟩
  refine codeAny_call_function hr.depth (KX _ _ lk) rfl S.co S.gen rfl (W.codeRec_of KX hcd) (hb _ _ _ _ ?_)
  refine wpAny_newFunctionEnv_cells S.kind hkind fun env he s1 x=>?_
  subst he
  refine ⟨lim.keeps x.toInCall.keep,codeAny_func ?_⟩
  obtain ⟨t,ht,hq⟩:=hbody A outer s H vs Q E (hr.deeper _) hsp
  have I:Inv (MN CX P w K mg base N qual scope f cdv A outer s H E) [] (start N vs) H s1:=QF S hr.hd e0 hl r x
  refine wpAny_mono (ht [] s1 (start N vs) H _ I hq) (fun fl s' hs=>?_) fun e s' hs=>hs
  have fin:∀ {σ':St} {H':Hp} {v:V} {u:Value},Inv (MN CX P w K mg base N qual scope f cdv A outer s H E) [] σ' H' s'→aL v u→Q v H'→CE outer P w H s Q u s' :=
    fun {σ' H' v u} J rv q=>⟨v,H',J.os,J.bare,J.base,J.hok,rv,q⟩
  cases fl with
  | ret u =>
    obtain ⟨v,σ',H',J,rv,q⟩:=hs
    exact fin J rv q
  | next =>
    obtain ⟨σ',H',J,q⟩:=hs
    exact fin (v:=V.non) (u:=Value.none) J rfl q
  | brk =>
    obtain ⟨_,_,_,q⟩:=hs
    exact False.elim q
  | cont =>
    obtain ⟨_,_,_,q⟩:=hs
    exact False.elim q
section
variable {X:Cx} {x:Str} {p pos:Pos} {e:Expr} {es:List Expr} {t:TA} {id T:String} {r:List V→Hp→VK→Prop}
noncomputable def tCB (r:List V→Hp→VK→Prop) (t:TA):TE:=fun σ H Q=>t σ H fun vs H1=>r vs H1 Q
theorem wE (hc:bF X (.builtin id) r) (hg:Gl X x) (hm:X.mg x=none) (hv:bootBuiltins x=some (.builtin id)) (ha:PA X (e :: es) t) (hn:x≠"__name__":=by decide) (hdb:(x == ("__debug__":Str))=false:=by decide)
    (he:starEach (e :: es) X.env=(false,eval e X.env) :: starEach es X.env:=by rfl) (hpl:(backTo pos (starEach es X.env)).any (·.1)=false:=by rfl):PE X (.Call (.Name x p) (e :: es) [] pos) (tCB r t):=by
  intro pins s σ H Q I h
  refine wpAny_Call_Name_kw (sC I hg hm hv ?_ hn hdb)
  exact PyProof.Rows.callWith_builtin1 (thn (ha pos pins s σ H _ I h) fun us s1 ⟨vs,H1,I1,r1,q1⟩=>hc pins s1 σ H1 vs us Q I1 r1 q1) he hpl
theorem zT (hc:bF X (.type T) r) (hg:Gl X x) (hm:X.mg x=none) (hv:bootBuiltins x=some (.type T)) (ha:PA X (e :: es) t) (hn:x≠"__name__":=by decide) (hdb:(x == ("__debug__":Str))=false:=by decide)
    (he:starEach (e :: es) X.env=(false,eval e X.env) :: starEach es X.env:=by rfl) (hpl:(backTo pos (starEach es X.env)).any (·.1)=false:=by rfl):PE X (.Call (.Name x p) (e :: es) [] pos) (tCB r t):=by
  intro pins s σ H Q I h
  refine wpAny_Call_Name_kw (sC I hg hm hv ?_ hn hdb)
  exact PyProof.Rows.callWith_type1 (thn (ha pos pins s σ H _ I h) fun us s1 ⟨vs,H1,I1,r1,q1⟩=>hc pins s1 σ H1 vs us Q I1 r1 q1) he hpl
end
end L2
namespace HT
open PySem PyProof.Rows
noncomputable def AQ:List Int→List Int→Bool
  | [],[]=>false
  | [],_ :: _=>true
  | _ :: _,[]=>false
  | x :: xs,y :: ys=>if x=y then AQ xs ys else decide (x < y)
theorem aHx (x y:Int) (xs ys:List Int):AQ (x :: xs) (y :: ys)=if x=y then AQ xs ys else decide (x < y):=rfl
theorem aBb:AQ [] []=false:=rfl
theorem aBa (y:Int) (ys:List Int):AQ [] (y :: ys)=true:=rfl
theorem aAx (x:Int) (xs:List Int):AQ (x :: xs) []=false:=rfl
section
open PySem.SeqAt
open PySem.AutoSeq1 (wpAny_loadPart')
open PySem.MeetsSeq PySem.MeetsSeq2 PySem.MeetsSeq3
end
section
variable {prog:Program} {w:World} {A:Around} {E:Value→Shared→Prop} {s:Shared}
theorem aCZ {t b:Addr} {vs ws:List Value} {Q:Value→Shared→Prop} (ht:IsTup s.heap t vs.toArray) (hb:IsTup s.heap b ws.toArray) (hv:vs≠ [])
    (h1:ws=[]→Q (.ref t) s) (h2:ws≠ []→Q (.ref s.heap.objs.size) { s with heap:=s.heap.push { cls:=.type "tuple",data:=.seq (vs ++ ws).toArray } })
    (hsz:vs.length + ws.length≤sizeLine):wpAny (model prog w) A (binaryOp .Add (.ref t) (.ref b)) Q E s:=by
  obtain ⟨⟨cls,dd,data,sl⟩,ho,hc,n,hd⟩:=id ht
  obtain ⟨⟨cls2,dd2,data2,sl2⟩,ho2,hc2,n2,hd2⟩:=id hb
  simp only at hc hd hc2 hd2
  subst hc hd hc2 hd2
  have e:vs.toArray ++ ws.toArray=(vs ++ ws).toArray:=by simp
  by_cases hw:ws=[]
  · exact concat_meets ⟨_,ho,rfl⟩ ⟨_,ho2,rfl⟩ noFill_tuple_add seq_tuple_add PySem.F.slot_tuple_add PySem.F.entry_tuple_add (PySem.F.args_tuple_add_2 _ _)
      (tuple_addW1 t b vs.toArray ws.toArray n n2 dd dd2 sl sl2 (by simpa using hv) (by simp [hw])) ⟨ho,ho2,h1 hw⟩
  · refine concat_meets ⟨_,ho,rfl⟩ ⟨_,ho2,rfl⟩ noFill_tuple_add seq_tuple_add PySem.F.slot_tuple_add PySem.F.entry_tuple_add (PySem.F.args_tuple_add_2 _ _)
      (tuple_addW2 t b vs.toArray ws.toArray n n2 dd dd2 sl sl2 (by simpa using hv) (by simpa using hw) (by rw [List.size_toArray,List.size_toArray]; exact hsz)) ⟨ho,ho2, ?_⟩
    rw [e]
    exact h2 hw
noncomputable def sIx (n d:Nat):Option Int→Nat
  | none=>d
  | some v=>if v < 0 then (v + (n:Int)).toNat else min v.toNat n
theorem aJ7 (n d:Nat):sIx n d none=d:=rfl
theorem aHl (n d:Nat) (hd:d≤n) (o:Option Int):sIx n d o≤n:=by
  cases o with
  | none=>exact hd
  | some v =>
    show (if v < 0 then (v + (n:Int)).toNat else min v.toNat n)≤n
    by_cases hv:v < 0
    · rw [if_pos hv]; omega
    · rw [if_neg hv]; exact Nat.min_le_right _ _
theorem NZ (v:Int) (n d:Nat):(if v < 0 then max (v + (n:Int)) 0 else min v (n:Int))=((sIx n d (some v):Nat):Int):=by
  show (if v < 0 then max (v + (n:Int)) 0 else min v (n:Int))=(((if v < 0 then (v + (n:Int)).toNat else min v.toNat n):Nat):Int)
  by_cases hv:v < 0
  · simp only [if_pos hv]; omega
  · simp only [if_neg hv]; omega
theorem MC (lo hi:Option Int) (n:Nat):Builtin.Slice.sliceAdjust lo hi 1 (n:Int)=(((sIx n 0 lo:Nat):Int),((sIx n n hi:Nat):Int)):=by
  have h1:¬((1:Int) < 0):=by omega
  unfold Builtin.Slice.sliceAdjust
  simp only [h1,if_false]
  refine Prod.ext ?_ ?_
  · cases lo with
    | none=>rfl
    | some v=>exact NZ v n 0
  · cases hi with
    | none=>rfl
    | some v=>exact NZ v n n
theorem IO (i j:Nat):Builtin.Slice.slicePlaces (i:Int) (j:Int) 1=j - i:=by
  unfold Builtin.Slice.slicePlaces
  have h1:(1:Int) > 0:=by omega
  simp only [h1,if_true,Int.ediv_one]
  split <;> omega
theorem oQ {v:Value} {o:Option Int} {Q:Option Int→Shared→Prop} (p:IsPart v o) (h:Q o s):wpAny (model prog w) A (Builtin.Slice.slicePartIndex v) Q E s:=by
  cases p with
  | none=>exact slicePart_none h
  | int i t=>exact slicePart_int h
theorem jB {sl:Addr} {vl vu:Value} {lo hi:Option Int} {n:Nat} {Q:Int×Int×Nat→Shared→Prop} (hs:s.heap.IsSliceOf sl vl vu .none) (pl:IsPart vl lo) (pu:IsPart vu hi)
    (h:Q (((sIx n 0 lo:Nat):Int),1,sIx n n hi - sIx n 0 lo) s):wpAny (model prog w) A (Builtin.Slice.sliceApplied (.ref sl) (pure (n:Int))) Q E s:=by
  obtain ⟨os,hos,hcs,hds⟩:=id hs
  unfold Builtin.Slice.sliceApplied Builtin.Slice.sliceFields
  refine wpAny_bind (wpAny_bind (wpAny_field hos hds (x:=vl) rfl (wpAny_bind (wpAny_field hos hds (x:=vu) rfl (wpAny_bind (wpAny_field hos hds (x:=.none) rfl (wpAny_pure ?_)))))))
  refine wpAny_bind (slicePart_none ?_)
  show wpAny _ _ (if ((1:Int) == 0)=true then _ else _) _ _ s
  rw [if_neg (by decide)]
  refine wpAny_bind (oQ pl (wpAny_bind (oQ pu (wpAny_bind (wpAny_pure ?_)))))
  show wpAny _ _ (match Builtin.Slice.sliceAdjust lo hi 1 (n:Int) with | (lo,hi)=>pure (lo,(1:Int),Builtin.Slice.slicePlaces lo hi 1)) _ _ s
  rw [MC lo hi n]
  show wpAny _ _ (pure (((sIx n 0 lo:Nat):Int),(1:Int),Builtin.Slice.slicePlaces ((sIx n 0 lo:Nat):Int) ((sIx n n hi:Nat):Int) 1)) _ _ s
  rw [IO]
  exact wpAny_pure h
theorem aAK (xs:Array Value) (i k:Nat):((List.range k).filterMap fun (m:Nat)=>xs[((i:Int) + (m:Int) * 1).toNat]?).toArray=((xs.toList.drop i).take k).toArray:=by
  have e:(fun (m:Nat)=>xs[((i:Int) + (m:Int) * 1).toNat]?)=fun m=>xs[i + m]? :=by
    funext m
    have:((i:Int) + (m:Int) * 1).toNat=i + m:=by omega
    rw [this]
  rw [e]
  have:=pick_run xs i k
  rw [List.filterMap_map] at this
  have e2:((fun x=>xs[x]?) ∘ fun x=>i + x)=fun m=>xs[i + m]? :=rfl
  rw [e2] at this
  rw [this]
theorem rH {t sl:Addr} {items:Array Value} {vl vu:Value} {lo hi:Option Int} {Q:Value→Shared→Prop} (ht:IsTup s.heap t items) (hs:s.heap.IsSliceOf sl vl vu .none) (pl:IsPart vl lo) (pu:IsPart vu hi)
    (hw:¬(sIx items.size 0 lo=0∧sIx items.size items.size hi=items.size))
    (h:Q (.ref s.heap.objs.size) { s with heap:=s.heap.push { cls:=.type "tuple",data:=.seq ((items.toList.drop (sIx items.size 0 lo)).take (sIx items.size items.size hi - sIx items.size 0 lo)).toArray } })
    (hsz:items.size≤sizeLine):wpAny (model prog w) A (getItem (.ref t) (.ref sl)) Q E s:=by
  have htake:sizeOk (.seq ((items.toList.drop (sIx items.size 0 lo)).take (sIx items.size items.size hi - sIx items.size 0 lo)).toArray):=by
    show ((items.toList.drop (sIx items.size 0 lo)).take (sIx items.size items.size hi - sIx items.size 0 lo)).toArray.size≤sizeLine
    rw [List.size_toArray,List.length_take,List.length_drop,Array.length_toList]
    omega
  have hj:sIx items.size items.size hi≤items.size:=aHl _ _ (Nat.le_refl _) hi
  obtain ⟨os,hos,hcs,hds⟩:=id hs
  have hTs:s.TypeIs (.ref sl) "slice":=⟨os,hos,hcs⟩
  unfold getItem
  try with_reducible refine wpAny_holding ?_
  first | refine wpAny_bind (wpAny_pure ?_) | skip
  refine wpAny_bind (wpAny_sequenceKey ht.typeIs (by decide) ?_)
  refine wpAny_bind (wpAny_callSpecial?_slot (name:=Str.ofString "__getitem__") ht.typeIs PyProof.Rows.slot_tuple_getitem
    (wpAny_call_entry PyProof.Rows.slot_tuple_getitem ht.typeIs entry_tuple_getitem ?_ (args_tuple_getitem _ _)))
  show wpAny _ _ (Builtin.Tuple.tupleItemsOf (.ref t) >>= _) _ _ s
  refine wpAny_bind (tupleItemsOf_ ht ?_)
  refine wpAny_bind (wpAny_typeOf hTs ?_)
  rw [if_pos (by decide)]
  refine wpAny_bind (jB hs pl pu ?_)
  have hno:¬((((sIx items.size 0 lo:Nat):Int) == 0 && (1:Int) == 1 && (sIx items.size items.size hi - sIx items.size 0 lo) == items.size)=true):=by
    intro q
    rw [Bool.and_eq_true,Bool.and_eq_true] at q
    have q1:((sIx items.size 0 lo:Nat):Int)=0:=eq_of_beq q.1.1
    have q2:sIx items.size items.size hi - sIx items.size 0 lo=items.size:=eq_of_beq q.2
    exact hw ⟨by omega,by omega⟩
  show wpAny _ _ (if (((sIx items.size 0 lo:Nat):Int) == 0 && (1:Int) == 1 && (sIx items.size items.size hi - sIx items.size 0 lo) == items.size)=true then _ else _) _ _ s
  rw [if_neg hno,aAK]
  first
    | exact wpAny_bind (m:=Builtin.Tuple.tupleExact _) (wpAny_newObj_type (wpAny_pure ⟨_,rfl,wpAny_pure h⟩) htake)
    | exact wpAny_bind (m:=Builtin.Tuple.tupleExact _) (wpAny_newObj_type (wpAny_bind (wpAny_pure (wpAny_pure ⟨_,rfl,wpAny_pure h⟩))) htake)
    | exact wpAny_bind (wpAny_bind (m:=Builtin.Tuple.tupleExact _) (wpAny_newObj_type (wpAny_pure (wpAny_pure ⟨_,rfl,wpAny_pure h⟩)) htake))
    | exact wpAny_bind (wpAny_bind (m:=Builtin.Tuple.tupleExact _) (wpAny_newObj_type (wpAny_pure ⟨_,rfl,wpAny_pure h⟩) htake))
end
end HT
namespace L2
open PySem PySem.Spec PyProof.Rows
noncomputable abbrev TO:=St→Hp→(Option Int→Hp→Prop)→Prop
noncomputable def PO (X:Cx) (e:Option Expr) (t:TO):Prop :=
  ∀ (pins:List (Addr×Obj)) (s:Shared) (σ:St) (H:Hp) (Q:Option Int→Hp→Prop),Inv X pins σ H s→t σ H Q→
    wpAny (model X.prog X.w) X.A (evalPart e X.env) (fun u s'=>∃ o H',Inv X pins σ H' s'∧IsPart u o∧Q o H') X.xe s
noncomputable def aCt:TO:=fun _ H Q=>Q none H
noncomputable def aIM (t:TE):TO:=fun σ H Q=>t σ H fun x H1=>∃ i,x= .int i∧Q (some i) H1
theorem IM {ns:List Int}:∀ {us:List Value},aI (ns.map V.int) us→IntsAre us ns:=by
  induction ns with
  | nil=>intro us r; rw [List.map_nil] at r; cases r; exact .nil
  | cons n ns ih =>
    intro us r
    rw [List.map_cons] at r
    cases r with
    | cons r1 r2 =>
      obtain ⟨t,e⟩:=r1
      subst e
      exact .cons n t (ih r2)
section
variable {X:Cx} {e:Expr} {te:TE} {lo hi:Option Expr} {tl th:TO} {pos p2:Pos}
theorem aCd:PO X none aCt:=by
  intro pins s σ H Q I h
  rw [evalPart_none]
  exact wpAny_pure ⟨none,H,I,.none,h⟩
theorem MV (h:PE X e te):PO X (some e) (aIM te):=by
  intro pins s σ H Q I hw
  rw [evalPart_some]
  refine thn (h pins s σ H _ I hw) fun u s1 ⟨x,H1,I1,r1,q1⟩=>?_
  obtain ⟨i,rfl,q⟩:=q1
  obtain ⟨t,rfl⟩:=r1
  exact ⟨some i,H1,I1,.int i t,q⟩
noncomputable def SlR (X:Cx) (r:V→Option Int→Option Int→Hp→VK→Prop):Prop :=
  ∀ (pins:List (Addr×Obj)) (s:Shared) (σ:St) (H:Hp) (x:V) (v vl vu:Value) (lo hi:Option Int) (sl:Addr) (Q:VK),Inv X pins σ H s→aL x v→s.heap.IsSliceOf sl vl vu .none→IsPart vl lo→IsPart vu hi→r x lo hi H Q→
    ∃ T id,typeLookup (.type T) "__getitem__"=pure (some (.builtin id))∧s.TypeIs v T∧wpAny (model X.prog X.w) X.A (getItem v (.ref sl)) (EP X pins σ Q) X.xe s
theorem SlR.or {r r':V→Option Int→Option Int→Hp→VK→Prop} (h:SlR X r) (h':SlR X r'):SlR X (fun x lo hi H Q=>r x lo hi H Q∨r' x lo hi H Q):=by
  intro pins s σ H x v vl vu lo hi sl Q I rx hs pl pu q
  rcases q with q | q
  · exact h pins s σ H x v vl vu lo hi sl Q I rx hs pl pu q
  · exact h' pins s σ H x v vl vu lo hi sl Q I rx hs pl pu q
noncomputable def tSl (r:V→Option Int→Option Int→Hp→VK→Prop) (te:TE) (tl th:TO):TE:=fun σ H Q=>te σ H fun x H1=>tl σ H1 fun l H2=>th σ H2 fun u H3=>r x l u H3 Q
theorem aAT {r:V→Option Int→Option Int→Hp→VK→Prop} (hr:SlR X r) (he:PE X e te) (hl:PO X lo tl) (hu:PO X hi th):PE X (.Subscript e (.Slice lo hi none p2) pos) (tSl r te tl th):=by
  intro pins s σ H Q I h
  refine Subscript_ (thn (he pins s σ H _ I h) fun v s1 ⟨x,H1,I1,r1,q1⟩=>?_)
  refine wpAny_Slice (thn (hl pins s1 σ H1 _ I1 q1) fun vl s2 ⟨l,H2,I2,pl,q2⟩=>thn (hu pins s2 σ H2 _ I2 q2) fun vu s3 ⟨u,H3,I3,pu,q3⟩=>?_)
  rw [evalPart_none]
  refine wpAny_pure ?_
  have I4:Inv X pins σ H3 { s3 with heap:=s3.heap.push { cls:=.type "slice",data:=.fields #[vl,vu,.none] } }:=I3.kept (t':=s3.toks) fun b ob q=>Heap.get?_push_of_some _ q
  obtain ⟨T,id,hT,ht,hg⟩:=hr pins { s3 with heap:=s3.heap.push { cls:=.type "slice",data:=.fields #[vl,vu,.none] } } σ H3 x v vl vu l u s3.heap.objs.size Q I4 r1 (Heap.IsSliceOf.new ..) pl pu q3
  show wpAny (model X.prog X.w) X.A (subscriptTail e (.Slice lo hi none p2) v (.ref s3.heap.objs.size)) (EP X pins σ Q) X.xe { s3 with heap:=s3.heap.push { cls:=.type "slice",data:=.fields #[vl,vu,.none] } }
  exact tail_any (ops:=[.ref s3.heap.objs.size,v]) ht hT hg (by with_unfolding_all rfl)
noncomputable def GJ (xs:List V) (lo hi:Option Int):List V:=(xs.drop (HT.sIx xs.length 0 lo)).take (HT.sIx xs.length xs.length hi - HT.sIx xs.length 0 lo)
theorem uU (xs:List V) (lo hi:Option Int):(GJ xs lo hi).length≤xs.length:=by
  unfold GJ
  rw [List.length_take,List.length_drop]
  omega
noncomputable def aLg (K:W.Frag):V→Option Int→Option Int→Hp→VK→Prop:=fun x lo hi H Q=>∃ a xs,x= .ref a∧SqT K H a xs∧
  ¬(HT.sIx xs.length 0 lo=0∧HT.sIx xs.length xs.length hi=xs.length)∧∀ p,H p=none→Q (.ref p) (upd H p (.tup (GJ xs lo hi)))
theorem aFd:SlR X (aLg X.K):=by
  intro pins s σ H x v vl vu lo hi sl Q I rx hs pl pu h
  obtain ⟨a,xs,rfl,hx,hw,q⟩:=h
  cases rx
  obtain ⟨its,r,ht,hz⟩:=I.tuple hx
  have hlen:its.toArray.size=xs.length:=by rw [List.size_toArray]; exact r.length.symm
  refine ⟨"tuple",_,PyProof.Rows.slot_tuple_getitem.lookup,ht.typeIs, ?_⟩
  refine HT.rH ht hs pl pu (by rw [hlen]; exact hw) ?_ (by rw [hlen]; exact hz)
  rw [hlen]
  refine ⟨.ref s.heap.objs.size,_,I.laid (t':=s.toks) (o:=.tup (GJ xs lo hi)) (fun b ob q=>Heap.get?_push_of_some _ q) (Nat.le_refl _) ?_,rfl,q _ (I.hok.fresh (Nat.le_refl _))⟩
  exact ⟨Nat.le_trans (uU xs lo hi) hz,_,(r.drop (HT.sIx xs.length 0 lo)).take (HT.sIx xs.length xs.length hi - HT.sIx xs.length 0 lo),iH.new _ _⟩
noncomputable def aKT (K:W.Frag):R2:=fun x y H Q=>∃ a b xs ys,x= .ref a∧y= .ref b∧SqT K H a xs∧SqT K H b ys∧xs≠ []∧xs.length + ys.length≤sizeLine∧
  (ys=[]→Q (.ref a) H)∧(ys≠ []→∀ p,H p=none→Q (.ref p) (upd H p (.tup (xs ++ ys))))
theorem aI.nil_iff {xs:List V} {us:List Value} (r:aI xs us):us=[]↔xs=[]:=by
  cases r with
  | nil=>simp
  | cons _ _=>simp
theorem aCh:OpR X (binaryOp .Add) (aKT X.K):=by
  intro pins s σ H x y v u Q I rx ry h
  obtain ⟨a,b,xs,ys,rfl,rfl,ha,hb,hx,hz,q1,q2⟩:=h
  cases rx
  cases ry
  obtain ⟨its,r1,p1,_⟩:=I.tuple ha
  obtain ⟨its2,r2,p2,_⟩:=I.tuple hb
  refine HT.aCZ p1 p2 (fun z=>hx (r1.nil_iff.mp z)) (fun z=>⟨.ref a,H,I,rfl,q1 (r2.nil_iff.mp z)⟩) (fun z=>?_) (by rw [←r1.length,←r2.length]; exact hz)
  refine ⟨.ref s.heap.objs.size,_,I.laid (t':=s.toks) (o:=.tup (xs ++ ys)) (fun b ob q=>Heap.get?_push_of_some _ q) (Nat.le_refl _) ?_,rfl,q2 (fun w=>z (r2.nil_iff.mpr w)) _ (I.hok.fresh (Nat.le_refl _))⟩
  exact ⟨by rw [List.length_append]; exact hz,_,r1.append r2,iH.new _ _⟩
end
noncomputable def ixN (n:Nat) (i:Int):Option Nat:=if 0≤i then (if i < n then some i.toNat else none) else if -(n:Int)≤i then some (i + n).toNat else none
noncomputable def atI {α:Type} (xs:List α) (i:Int):Option α:=(ixN xs.length i).bind fun j=>xs[j]?
theorem NS {n:Nat} {i:Int} {j:Nat} (h:ixN n i=some j):seqIndex? i n=some j∧j < n∧ -(n:Int)≤i∧i < n:=by
  unfold ixN at h
  by_cases h0:0≤i
  · rw [if_pos h0] at h
    by_cases h1:i < n
    · rw [if_pos h1] at h
      have e:i.toNat=j:=Option.some.inj h
      exact ⟨by rw [seqIndex_of h0 h1,e],by omega,by omega,h1⟩
    · rw [if_neg h1] at h; cases h
  · rw [if_neg h0] at h
    by_cases h1: -(n:Int)≤i
    · rw [if_pos h1] at h
      have e:(i + n).toNat=j:=Option.some.inj h
      exact ⟨by rw [seqIndex_neg (by omega) h1,e],by omega,h1,by omega⟩
    · rw [if_neg h1] at h; cases h
theorem AZ {α:Type} {xs:List α} {i:Int} {v:α} (h:atI xs i=some v):∃ j,seqIndex? i xs.length=some j∧xs[j]? =some v∧j < xs.length∧ -(xs.length:Int)≤i∧i < xs.length:=by
  unfold atI at h
  cases e:ixN xs.length i with
  | none=>rw [e] at h; cases h
  | some j =>
    rw [e] at h
    obtain ⟨h1,h2,h3,h4⟩:=NS e
    exact ⟨j,h1,h,h2,h3,h4⟩
theorem eN {α:Type} {xs:List α} {j:Nat} {v:α} (h:xs[j]? =some v):atI xs (j:Int)=some v:=by
  have hj:j < xs.length:=(List.getElem?_eq_some_iff.mp h).1
  have e:ixN xs.length (j:Int)=some j:=by
    unfold ixN
    rw [if_pos (by omega),if_pos (by omega)]; simp
  unfold atI; rw [e]; exact h
noncomputable def vI (b:Expr):Prop:= ∀ o i,subscripted b false o i=operate [o,i] (getItem o i)
noncomputable def IxR (X:Cx) (r:R2):Prop :=
  ∀ (value slice:Expr) (pins:List (Addr×Obj)) (s:Shared) (σ:St) (H:Hp) (x y:V) (v u:Value) (Q:VK),Inv X pins σ H s→aL x v→aL y u→r x y H Q→
    subscripted slice false v u=operate [v,u] (getItem v u)→wpAny (model X.prog X.w) X.A (subscriptTail value slice v u) (EP X pins σ Q) X.xe s
noncomputable def MtR (X:Cx) (id:String) (r:V→List V→Hp→VK→Prop):Prop :=
  ∀ (pins:List (Addr×Obj)) (s:Shared) (σ:St) (H:Hp) (x:V) (xs:List V) (v:Value) (us:List Value) (Q:VK),Inv X pins σ H s→aL x v→aI xs us→r x xs H Q→
    wpAny (model X.prog X.w) X.A (call (.builtin id) (v :: us)) (EP X pins σ Q) X.xe s
section
variable {X:Cx} {a b:Expr} {ta tb:TE} {pos:Pos}
theorem IxR.or {r r':R2} (h:IxR X r) (h':IxR X r'):IxR X (fun x y H Q=>r x y H Q∨r' x y H Q):=by
  intro value slice pins s σ H x y v u Q I rx ry q hs
  rcases q with q | q
  · exact h value slice pins s σ H x y v u Q I rx ry q hs
  · exact h' value slice pins s σ H x y v u Q I rx ry q hs
theorem MtR.or {id:String} {r r':V→List V→Hp→VK→Prop} (h:MtR X id r) (h':MtR X id r'):MtR X id (fun x xs H Q=>r x xs H Q∨r' x xs H Q):=by
  intro pins s σ H x xs v us Q I rx rs q
  rcases q with q | q
  · exact h pins s σ H x xs v us Q I rx rs q
  · exact h' pins s σ H x xs v us Q I rx rs q
theorem aDz {r:R2} (hr:IxR X r) (ha:PE X a ta) (hb:PE X b tb) (hs:vI b):PE X (.Subscript a b pos) (tOp r ta tb):=by
  intro pins s σ H Q I h
  exact Subscript_ (aFq ha hb I h fun v u s2 x y H2 I2 rx ry q=>hr a b pins s2 σ H2 x y v u Q I2 rx ry q (hs _ _))
noncomputable def aIN (K:W.Frag):R2:=fun x y H Q=>∃ p xs i v,x= .ref p∧y= .int i∧SqL K H p xs∧atI xs i=some v∧Q v H
noncomputable def aKY (K:W.Frag):R2:=fun x y H Q=>∃ p xs i v,x= .ref p∧y= .int i∧SqT K H p xs∧atI xs i=some v∧Q v H
noncomputable def aJ0:R2:=fun x y H Q=>∃ z i c,x= .str z∧y= .int i∧z.length≤sizeLine∧atI z.cps.toList i=some c∧Q (.str ⟨#[c]⟩) H
theorem aCX:IxR X (aIN X.K):=by
  intro value slice pins s σ H x y v u Q I rx ry h hs
  obtain ⟨p,xs,i,z,rfl,rfl,hq,he,q⟩:=h
  cases rx
  obtain ⟨t,rfl⟩:=ry
  obtain ⟨its,r,pl,hz⟩:=I.list hq
  obtain ⟨j,h1,h2,h3,h4,h5⟩:=AZ he
  obtain ⟨w,ew,rw'⟩:=r.get h2
  have hl:=r.length
  have hn:=nN
  have fin:EP X pins σ Q w s:=⟨z,H,I,rw',q⟩
  by_cases h0:0≤i
  · have hj:i.toNat=j:=by
      rw [seqIndex_of h0 h5] at h1
      exact Option.some.inj h1
    exact item_listR pl.isList h0 (by omega) (by rw [hj]; simpa using ew) fin hs
  · have hj:(i + (its.toArray.size:Int)).toNat=j:=by
      rw [seqIndex_neg (by omega) h4] at h1
      rw [List.size_toArray,←hl]
      exact Option.some.inj h1
    exact subscriptTail_builtinR (x:=w) pl.isList.typeIs slot_list_getitem.lookup
      (wpAny_getItem_list_neg (Q:=fun r s'=>r=w∧EP X pins σ Q r s') pl.isList (by omega) (by rw [List.size_toArray] <;> omega) (by omega) (by rw [hj]; simpa using ew) ⟨rfl,fin⟩) hs
theorem aHR:IxR X (aKY X.K):=by
  intro value slice pins s σ H x y v u Q I rx ry h hs
  obtain ⟨p,xs,i,z,rfl,rfl,hq,he,q⟩:=h
  cases rx
  obtain ⟨t,rfl⟩:=ry
  obtain ⟨its,r,pl,hz⟩:=I.tuple hq
  obtain ⟨j,h1,h2,h3,h4,h5⟩:=AZ he
  obtain ⟨w,ew,rw'⟩:=r.get h2
  have hl:=r.length
  have hn:=nN
  have fin:EP X pins σ Q w s:=⟨z,H,I,rw',q⟩
  exact subscriptTail_builtinR (x:=w) pl.typeIs slot_tuple_getitem.lookup
    (getItem_tuple (j:=j) (Q:=fun r s'=>r=w∧EP X pins σ Q r s') pl (by omega) (by omega) (by rw [List.size_toArray,←hl]; exact h1) (by simpa using ew) ⟨rfl,fin⟩) hs
theorem aHE:IxR X aJ0:=by
  intro value slice pins s σ H x y v u Q I rx ry h hs
  obtain ⟨z,i,c,rfl,rfl,hz,he,q⟩:=h
  obtain ⟨t,rfl⟩:=rx
  obtain ⟨t',rfl⟩:=ry
  obtain ⟨j,h1,h2,h3,h4,h5⟩:=AZ he
  have hl:z.cps.toList.length=z.length:=by simp [Str.length]
  rw [hl] at h1 h4 h5
  have hn:=nN
  exact tail_any (typeIs_str s z t) slot_str_getitem.lookup (getItem_str (c:=c) (by
    have e1:decide (i < -(2 ^ 63:Int))=false:=decide_eq_false (by omega)
    have e2:decide (i ≥ 2 ^ 63)=false:=decide_eq_false (by omega)
    rw [e1,e2,Bool.or_false]) (by rw [h1]; simpa using h2) ⟨.str ⟨#[c]⟩,H,I.tok _,⟨_,rfl⟩,q⟩) hs
noncomputable def rIx (K:W.Frag):R2:=fun x y H Q=>aIN K x y H Q∨aKY K x y H Q∨aJ0 x y H Q
theorem aHO:IxR X (rIx X.K):=aCX.or (aHR.or aHE)
theorem LU (its:List Value) (n j:Nat) (u:Value):Obj.mapSeq (·.setIfInBounds j u) { cls:=.type "list",data:=.seq its.toArray n }={ cls:=.type "list",data:=.seq (its.set j u).toArray n }:=by
  simp [Obj.mapSeq]
theorem Inv.lst {pins:List (Addr×Obj)} {σ:St} {H:Hp} {s:Shared} {p:Addr} {xs:List V} (I:Inv X pins σ H s) (h:H p=some (.lst xs)) :
    ∃ (its:List Value) (n:Nat),aI xs its∧s.heap.get? p=some { cls:=.type "list",data:=.seq its.toArray n }∧xs.length≤sizeLine:=by
  obtain ⟨z,its,n,r,e⟩:=I.hok p _ h
  exact ⟨its,n,r,e,z⟩
theorem Inv.lstUpd {pins:List (Addr×Obj)} {σ:St} {H:Hp} {s:Shared} {p:Addr} {xs ys:List V} {its its':List Value} {n n':Nat} {f:Obj→Obj} (I:Inv X pins σ H s) (h:H p=some (.lst xs))
    (ho:s.heap.get? p=some { cls:=.type "list",data:=.seq its.toArray n }) (hf:f { cls:=.type "list",data:=.seq its.toArray n }={ cls:=.type "list",data:=.seq its'.toArray n' }) (r:aI ys its') (hz:ys.length≤sizeLine) (t:Nat) :
    Inv X pins σ (upd H p (.lst ys)) { s with heap:=s.heap.update p f,toks:=t }:=by
  have e:(s.heap.update p f).get? p=some { cls:=.type "list",data:=.seq its'.toArray n' }:=by
    rw [Heap.get?_update_self f ho (by rw [hf] <;> rfl),hf]
  refine I.write (x:=p) (e:=p) (by rw [h]; trivial) (.inl rfl) (fun b u hb q=>(Heap.get?_update_other _ _ (Ne.symm hb)).trans q) ⟨_,e⟩ ?_
  exact ⟨hz,its',n',r,e⟩
noncomputable def aI2:V→V→V→Hp→(Hp→Prop)→Prop:=fun o i v H Q=>∃ p xs k j,o= .ref p∧i= .int k∧H p=some (.lst xs)∧ixN xs.length k=some j∧Q (upd H p (.lst (xs.set j v)))
theorem VN:aFS X aI2:=by
  intro pins s σ H o i v ov iv u Q I ro ri rv h
  obtain ⟨p,xs,k,j,rfl,rfl,hp,hj,q⟩:=h
  cases ro
  obtain ⟨t,rfl⟩:=ri
  obtain ⟨its,n,r,ho,hz⟩:=I.lst hp
  obtain ⟨h1,h2,h3,h4⟩:=NS hj
  have hl:=r.length
  have hn:=nN
  have I':Inv X pins σ (upd H p (.lst (xs.set j v))) { s with heap:=s.heap.update p (Obj.mapSeq (·.setIfInBounds j u)) } :=
    I.lstUpd hp ho (LU its n j u) (r.set rv j) (by rw [List.length_set]; exact hz) s.toks
  by_cases h0:0≤k
  · have hk:k.toNat=j:=by
      rw [seqIndex_of h0 h4] at h1
      exact Option.some.inj h1
    exact W.ki_setAt ho h0 (by omega) (by rw [List.size_toArray,←hl]; exact h4) (by rw [hk]; exact ⟨_,I',q⟩)
  · have hk:(k + (its.toArray.size:Int)).toNat=j:=by
      rw [seqIndex_neg (by omega) h3] at h1
      rw [List.size_toArray,←hl]
      exact Option.some.inj h1
    exact W.ki_setBack ho (by omega) (by rw [List.size_toArray,←hl]; exact h3) (by omega) (by rw [hk]; exact ⟨_,I',q⟩)
theorem BS (lo hi:Option Int) (n:Nat):(sliceBounds lo hi none n).1=((HT.sIx n 0 lo:Nat):Int)∧(sliceBounds lo hi none n).2.1=((HT.sIx n n hi:Nat):Int)∧(sliceBounds lo hi none n).2.2=1:=by
  refine ⟨?_, ?_,rfl⟩
  · cases lo with
    | none=>simp [sliceBounds,HT.sIx]
    | some i =>
      simp only [sliceBounds,HT.sIx,Option.getD_none,show (1:Int) > 0 by decide,if_true]
      by_cases h:i < 0
      · simp only [h,if_true] <;> omega
      · simp only [h,if_false] <;> omega
  · cases hi with
    | none=>simp [sliceBounds,HT.sIx]
    | some i =>
      simp only [sliceBounds,HT.sIx,Option.getD_none,show (1:Int) > 0 by decide,if_true]
      by_cases h:i < 0
      · simp only [h,if_true] <;> omega
      · simp only [h,if_false] <;> omega
theorem yP (its:List Value) (lo hi:Option Int):slicePick its.toArray lo hi none=((its.drop (HT.sIx its.length 0 lo)).take (HT.sIx its.length its.length hi - HT.sIx its.length 0 lo)).toArray:=by
  obtain ⟨h1,h2,h3⟩:=BS lo hi its.toArray.size
  unfold slicePick
  rw [h1,h2,h3]
  simp only [sliceRange_one,pick_run,List.size_toArray] <;> rfl
noncomputable def aLV (K:W.Frag):V→Option Int→Option Int→Hp→VK→Prop:=fun x lo hi H Q=>∃ a xs,x= .ref a∧SqL K H a xs∧∀ p,H p=none→Q (.ref p) (upd H p (.lst (GJ xs lo hi)))
theorem aCy:SlR X (aLV X.K):=by
  intro pins s σ H x v vl vu lo hi sl Q I rx hs pl pu h
  obtain ⟨a,xs,rfl,hx,q⟩:=h
  cases rx
  obtain ⟨its,r,ht,hz⟩:=I.list hx
  have hlen:=r.length
  refine ⟨"list",_,slot_list_getitem.lookup,ht.isList.typeIs, ?_⟩
  refine wpAny_getItem_list_slice ht.isList hs pl pu .none (by simp) ?_ (by rw [List.size_toArray] <;> omega)
  rw [yP,←hlen]
  refine ⟨.ref s.heap.objs.size,_,I.laid (t':=s.toks) (o:=.lst (GJ xs lo hi)) (fun b ob q=>Heap.get?_push_of_some _ q) (Nat.le_refl _) ?_,rfl,q _ (I.hok.fresh (Nat.le_refl _))⟩
  exact ⟨Nat.le_trans (uU xs lo hi) hz,_,0,(r.drop (HT.sIx xs.length 0 lo)).take (HT.sIx xs.length xs.length hi - HT.sIx xs.length 0 lo),Heap.get?_push_size _ rfl⟩
noncomputable def nJ:V→Bool
  | .non=>true
  | .bl _=>true
  | .int _=>true
  | .str _=>true
  | _=>false
noncomputable def eqV:V→V→Bool
  | .non,.non=>true
  | .bl a,.bl b=>a == b
  | .bl a,.int b=>(if a then 1 else 0) == b
  | .int a,.bl b=>a == (if b then 1 else 0)
  | .int a,.int b=>a == b
  | .str a,.str b=>a == b
  | _,_=>false
theorem aGj {A:Around} {s:Shared} {y x:V} {u v:Value} (ry:aL y u) (rx:aL x v) (fy:nJ y=true) (fx:nJ x=true):SeqAt.EqAt A s u v (eqV y x):=by
  cases y with
  | non =>
    cases ry
    cases x with
    | non=>cases rx; exact SeqAt.EqAt.same _
    | bl b=>cases rx; exact SeqAt.EqAt.none_bool b
    | int b=>obtain ⟨t,rfl⟩:=rx; exact SeqAt.EqAt.none_int b t
    | str b=>obtain ⟨t,rfl⟩:=rx; exact SeqAt.EqAt.none_str b t
    | _=>exact absurd (show false=true from fx) Bool.false_ne_true
  | bl a =>
    cases ry
    cases x with
    | non=>cases rx; exact SeqAt.EqAt.bool_none a
    | bl b=>cases rx; exact SeqAt.EqAt.bool_bool a b
    | int b=>obtain ⟨t,rfl⟩:=rx; exact SeqAt.EqAt.bool_int a b t
    | str b=>obtain ⟨t,rfl⟩:=rx; exact SeqAt.EqAt.bool_str a b t
    | _=>exact absurd (show false=true from fx) Bool.false_ne_true
  | int a =>
    obtain ⟨t',rfl⟩:=ry
    cases x with
    | non=>cases rx; exact SeqAt.EqAt.int_none a t'
    | bl b=>cases rx; exact SeqAt.EqAt.int_bool a t' b
    | int b=>obtain ⟨t,rfl⟩:=rx; exact SeqAt.EqAt.int_int a t' b t
    | str b=>obtain ⟨t,rfl⟩:=rx; exact SeqAt.EqAt.int_str a t' b t
    | _=>exact absurd (show false=true from fx) Bool.false_ne_true
  | str a =>
    obtain ⟨t',rfl⟩:=ry
    cases x with
    | non=>cases rx; exact SeqAt.EqAt.str_none a t'
    | bl b=>cases rx; exact SeqAt.EqAt.str_bool a t' b
    | int b=>obtain ⟨t,rfl⟩:=rx; exact SeqAt.EqAt.str_int a t' b t
    | str b=>obtain ⟨t,rfl⟩:=rx; exact SeqAt.EqAt.str_str a t' b t
    | _=>exact absurd (show false=true from fx) Bool.false_ne_true
  | _=>exact absurd (show false=true from fy) Bool.false_ne_true
noncomputable def eqU (x:V) (u:Value):Bool:=match u with
  | .none=>eqV .non x
  | .bool b=>eqV (.bl b) x
  | .int i _=>eqV (.int i) x
  | .str z _=>eqV (.str z) x
  | _=>false
theorem ZY {x y:V} {u:Value} (r:aL y u) (f:nJ y=true):eqU x u=eqV y x:=by
  cases y with
  | non=>cases r; rfl
  | bl b=>cases r; rfl
  | int i=>obtain ⟨t,rfl⟩:=r; rfl
  | str z=>obtain ⟨t,rfl⟩:=r; rfl
  | _=>exact absurd (show false=true from f) Bool.false_ne_true
theorem pN {x:V}:∀ {xs:List V} {us:List Value},aI xs us→xs.all nJ=true→us.any (eqU x)=xs.any fun y=>eqV y x
  | _,_,.nil,_=>rfl
  | y :: xs,u :: us,.cons r t,f=>by
    rw [List.all_cons,Bool.and_eq_true] at f
    rw [List.any_cons,List.any_cons,ZY r f.1,pN t f.2]
theorem mF {A:Around} {s:Shared} {x:V} {v:Value} (rx:aL x v) (fx:nJ x=true):∀ {xs:List V} {us:List Value},aI xs us→xs.all nJ=true→∀ u∈us,SeqAt.EqAt A s u v (eqU x u)
  | _,_,.nil,_=>fun u hu=>by cases hu
  | y :: xs,u :: us,.cons r t,f=>fun u' hu=>by
    rw [List.all_cons,Bool.and_eq_true] at f
    rcases List.mem_cons.mp hu with rfl | hu
    · rw [ZY r f.1]; exact aGj r rx f.1 fx
    · exact mF rx fx t f.2 u' hu
noncomputable def inV (x:V) (xs:List V):Bool:=xs.any fun y=>eqV y x
noncomputable def rIn (K:W.Frag) (neg:Bool):R2:=fun x y H Q=>∃ p xs,y= .ref p∧(SqL K H p xs∨SqT K H p xs)∧nJ x=true∧xs.all nJ=true∧Q (.bl (if neg then !inV x xs else inV x xs)) H
theorem QH:OpR X (compareOp .In) (rIn X.K false):=by
  intro pins s σ H x y v u Q I rx ry h
  obtain ⟨p,xs,rfl,hq,fx,fs,q⟩:=h
  cases ry
  rcases hq with hq | hq
  · obtain ⟨its,r,pl,hz⟩:=I.list hq
    refine SeqAt.in_listAt (eqU x) pl.isList (fun w hw=>mF rx fx r fs w (by simpa using hw)) ⟨.bl _,H,I,rfl, ?_⟩
    rw [show its.toArray.any (eqU x)=its.any (eqU x) by simp,pN r fs]
    exact q
  · obtain ⟨its,r,pl,hz⟩:=I.tuple hq
    refine SeqAt.in_tupleAt (eqU x) pl (fun w hw=>mF rx fx r fs w (by simpa using hw)) ⟨.bl _,H,I,rfl, ?_⟩
    rw [show its.toArray.any (eqU x)=its.any (eqU x) by simp,pN r fs]
    exact q
theorem BV:OpR X (compareOp .NotIn) (rIn X.K true):=by
  intro pins s σ H x y v u Q I rx ry h
  obtain ⟨p,xs,rfl,hq,fx,fs,q⟩:=h
  cases ry
  rcases hq with hq | hq
  · obtain ⟨its,r,pl,hz⟩:=I.list hq
    refine SeqAt.notIn_listAt (eqU x) pl.isList (fun w hw=>mF rx fx r fs w (by simpa using hw)) ⟨.bl _,H,I,rfl, ?_⟩
    rw [show its.toArray.any (eqU x)=its.any (eqU x) by simp,pN r fs]
    exact q
  · obtain ⟨its,r,pl,hz⟩:=I.tuple hq
    refine SeqAt.notIn_tupleAt (eqU x) pl (fun w hw=>mF rx fx r fs w (by simpa using hw)) ⟨.bl _,H,I,rfl, ?_⟩
    rw [show its.toArray.any (eqU x)=its.any (eqU x) by simp,pN r fs]
    exact q
theorem CC:bF X (.builtin "len") (fun xs H Q=>∃ p ys,xs=[.ref p]∧(SqL X.K H p ys∨SqT X.K H p ys)∧Q (.int ys.length) H):=by
  intro pins s σ H xs us Q I r h
  obtain ⟨p,ys,rfl,hq,q⟩:=h
  obtain ⟨u,rfl,rx⟩:=iC r
  cases rx
  have hn:=nN
  rcases hq with hq | hq
  · obtain ⟨its,r',pl,hz⟩:=I.list hq
    have hlen:=r'.length
    exact Calls.call_len_list pl.isList (by simp only [List.size_toArray] <;> omega) ⟨.int ys.length,H,I.tok _,⟨s.toks + 1,by rw [List.size_toArray,hlen]⟩,q⟩
  · obtain ⟨its,r',pl,hz⟩:=I.tuple hq
    have hlen:=r'.length
    exact len_tuple pl (by simp only [List.size_toArray] <;> omega) ⟨.int ys.length,H,I.tok _,⟨s.toks + 1,by rw [List.size_toArray,hlen]⟩,q⟩
theorem DM:bF X (.builtin "len") (fun xs H Q=>∃ z,xs=[.str z]∧z.length≤sizeLine∧Q (.int z.length) H):=by
  intro pins s σ H xs us Q I r h
  obtain ⟨z,rfl,hz,q⟩:=h
  obtain ⟨u,rfl,t,rfl⟩:=iC r
  have hn:=nN
  exact len_str (by omega) ⟨.int z.length,H,I.tok _,⟨_,rfl⟩,q⟩
theorem bF.or {f:Value} {r r':List V→Hp→VK→Prop} (h:bF X f r) (h':bF X f r'):bF X f (fun xs H Q=>r xs H Q∨r' xs H Q):=by
  intro pins s σ H xs us Q I rs q
  rcases q with q | q
  · exact h pins s σ H xs us Q I rs q
  · exact h' pins s σ H xs us Q I rs q
theorem yV:bF X (.type "tuple") (fun xs H Q=>∃ p ys,xs=[.ref p]∧((SqL X.K H p ys∧∀ l,H l=none→Q (.ref l) (upd H l (.tup ys)))∨(SqT X.K H p ys∧Q (.ref p) H))):=by
  intro pins s σ H xs us Q I r h
  obtain ⟨p,ys,rfl,h⟩:=h
  obtain ⟨u,rfl,rx⟩:=iC r
  cases rx
  rcases h with ⟨hq,q⟩ | ⟨hq,q⟩
  · obtain ⟨its,r',pl,hz⟩:=I.list hq
    have hlen:=r'.length
    refine call_tuple_list pl.isList (fun h' kp=>?_) (by simp only [List.size_toArray] <;> omega)
    have I1:Inv X pins σ H { s with heap:=h' }:=I.kept (t':=s.toks) kp
    have I2:Inv X pins σ (upd H h'.objs.size (.tup ys)) { s with heap:=h'.push { cls:=.type "tuple",data:=.seq its.toArray } } :=
      I1.laid (t':=s.toks) (fun b o e=>Heap.get?_push_of_some _ e) (Nat.le_refl _) (show dA X.prog X.w _ _ _ (.tup ys) from ⟨hz,its,r',iH.new _ _⟩)
    exact ⟨.ref h'.objs.size,_,I2,rfl,q _ (I1.hok.fresh (Nat.le_refl _))⟩
  · obtain ⟨its,r',pl,hz⟩:=I.tuple hq
    exact call_tuple_same pl ⟨.ref p,H,I,rfl,q⟩
noncomputable def tyV (K:W.Frag) (T:String) (x:V) (H:Hp):Prop:=match x with
  | .str _=>T="str"
  | .int _=>T="int"
  | .ref p=>(T="list"∧∃ xs,SqL K H p xs)∨(T="tuple"∧∃ o,K.lookup p=some o∧o.cls= .type "tuple"∧o.dict=none)∨
      (T="dict"∧((∃ kvs,H p=some (.dK kvs))∨∃ kvs,H p=some (.dT kvs)))∨(T="set"∧∃ S n,H p=some (.set S n))
  | _=>False
theorem aFa {pins:List (Addr×Obj)} {σ:St} {H:Hp} {s:Shared} {T:String} {x:V} {v:Value} (I:Inv X pins σ H s) (r:aL x v) (ty:tyV X.K T x H) :
    s.TypeIs v T∧∀ a,v= .ref a→∃ ob,s.heap.get? a=some ob∧ob.dict=none:=by
  cases x with
  | str z =>
    obtain ⟨t,rfl⟩:=r
    cases (show T="str" from ty)
    exact ⟨typeIs_str s z t,fun _ e=>nomatch e⟩
  | int i =>
    obtain ⟨t,rfl⟩:=r
    cases (show T="int" from ty)
    exact ⟨typeIs_int s i t,fun _ e=>nomatch e⟩
  | ref p =>
    cases r
    rcases ty with ⟨rfl,xs,hq⟩ | ⟨rfl,o,hk,hc,hd⟩ | ⟨rfl,hk⟩ | ⟨rfl,S,n,hk⟩
    · obtain ⟨its,_,pl,_⟩:=I.list hq
      refine ⟨pl.isList.typeIs,fun a e=>?_⟩
      cases e
      obtain ⟨o,n,e,c,hd,_⟩:=pl
      exact ⟨o,e,hd⟩
    · refine ⟨⟨o,I.kIn p o hk,hc⟩,fun a e=>?_⟩
      cases e
      exact ⟨o,I.kIn _ o hk,hd⟩
    · have z:∃ o,s.heap.get? p=some o∧o.ExactDict:=by
        rcases hk with ⟨kvs,hk⟩ | ⟨kvs,hk⟩
        · obtain ⟨_,_,_,_,o,_,_,e,ex,_⟩:=I.hok p _ hk
          exact ⟨o,e,ex⟩
        · obtain ⟨_,_,_,_,o,_,_,e,ex,_⟩:=I.hok p _ hk
          exact ⟨o,e,ex⟩
      obtain ⟨o,e,ex⟩:=z
      refine ⟨⟨o,e,ex.1⟩,fun a e2=>?_⟩
      cases e2
      exact ⟨o,e,ex.2.1⟩
    · obtain ⟨o,_,_,_,e,ex,_⟩:=I.hok p _ hk
      refine ⟨⟨o,e,ex.1⟩,fun a e2=>?_⟩
      cases e2
      exact ⟨o,e,ex.2.1⟩
  | _=>exact False.elim ty
noncomputable def tBM (K:W.Frag) (T:String) (r:V→List V→Hp→VK→Prop) (to:TE) (t:TA):TE:=fun σ H Q=>to σ H fun x H1=>tyV K T x H1∧t σ H1 fun xs H2=>r x xs H2 Q
variable {o e:Expr} {es:List Expr} {to:TE} {t:TA} {name:Str} {apos cpos:Pos} {T id:String} {r:V→List V→Hp→VK→Prop}
theorem aDV (pa:PlainAttrs T) (slot:Slot T name id) (hty:typeOf (.builtin id)=pure (.type "method_descriptor")) (hm:MtR X id r) (ho:PE X o to) (ha:PA X (e :: es) t)
    (hbase:attributeBase o name X.env (eval o X.env)=eval o X.env:=by rfl)
    (hfew:((backTo cpos (starEach (e :: es) X.env)).all (fun x=> !x.1) && (backToKw cpos (keywordEach [] X.env)).all (fun x=>x.1.isSome)
      && decide ((e :: es).length + ([]:List Keyword).length + (if ([]:List Keyword).isEmpty then 0 else 1) < 30))=true:=by rfl)
    (hline:(apos.endLine == cpos.line)=true:=by rfl) (hs:starEach (e :: es) X.env=(false,eval e X.env) :: starEach es X.env:=by rfl) (hplain:(backTo cpos (starEach es X.env)).any (·.1)=false:=by rfl) :
    PE X (.Call (.Attribute o name apos) (e :: es) [] cpos) (tBM X.K T r to t):=by
  intro pins s σ H Q I h
  refine wpAny_Call_method_late hbase hfew hline rfl (thn (ho pins s σ H _ I h) fun v s1 ⟨x,H1,I1,r1,ty,q1⟩=>?_)
  obtain ⟨h1,h2⟩:=aFa I1 r1 ty
  refine ⟨T,id,pa,slot,hty,h1,h2, ?_⟩
  have hA:=ha cpos pins s1 σ H1 _ I1 q1
  rw [hs] at hA ⊢
  refine Calls.callWith_builtin (by show (false || (backTo cpos (starEach es X.env)).any (·.1))=false; rw [hplain] <;> rfl) (Calls.evalArgs_plain ?_)
  exact thn hA fun us s2 ⟨vs,H2,I2,r2,q2⟩=>hm pins s2 σ H2 x vs v us Q I2 r1 r2 q2
end
noncomputable def MtM (X:Cx) (id:String) (r:V→List V→Hp→VK→Prop):Prop :=
  ∀ (pins:List (Addr×Obj)) (s:Shared) (σ:St) (H:Hp) (x:V) (xs:List V) (v:Value) (us:List Value) (Q:VK),Inv X pins σ H s→aL x v→aI xs us→r x xs H Q→
    wpAny (model X.prog X.w) X.A (call (.builtin id) (v :: us)) (EP X pins σ Q) X.xe s
theorem aI.one:∀ {x:V} {us:List Value},aI [x] us→∃ u,us=[u]∧aL x u
  | _,_,.cons r .nil=>⟨_,rfl,r⟩
theorem aI.two:∀ {x y:V} {us:List Value},aI [x,y] us→∃ u v,us=[u,v]∧aL x u∧aL y v
  | _,_,_,.cons r (.cons q .nil)=>⟨_,_,rfl,r,q⟩
theorem aI.zero:∀ {us:List Value},aI [] us→us=[]
  | _,.nil=>rfl
theorem aI.reverse {xs:List V} {us:List Value} (h:aI xs us):aI xs.reverse us.reverse:=by
  induction h with
  | nil=>exact .nil
  | cons r t ih=>rw [List.reverse_cons,List.reverse_cons]; exact aI.append ih (.cons r .nil)
section
variable {X:Cx} {pins:List (Addr×Obj)} {σ:St} {H:Hp} {s:Shared} {l b:Addr} {xs ys zs:List V}
theorem Inv.lset {its its':List Value} {n:Nat} {f:Array Value→Array Value} {t':Nat} (I:Inv X pins σ H s) (hH:H l=some (.lst xs))
    (e:s.heap.get? l=some { cls:=.type "list",data:=.seq its.toArray n }) (hf:f its.toArray=its'.toArray) (hv:aI ys its') (hz:ys.length≤sizeLine) :
    Inv X pins σ (upd H l (.lst ys)) { s with heap:=s.heap.update l (Obj.mapSeq f),toks:=t' }:=by
  have q:=PySem.IsL.update e f
  rw [hf] at q
  refine I.write (x:=l) (e:=l) (by rw [hH]; exact trivial) (.inl rfl) (fun b' u hb hu=>(Heap.get?_update_other s.heap (Obj.mapSeq f) (Ne.symm hb)).trans hu) ⟨_,q⟩ ?_
  exact ⟨hz,its',_,hv,q⟩
theorem Inv.lnew {its:List Value} {t':Nat} (I:Inv X pins σ H s) (hv:aI ys its) (hz:ys.length≤sizeLine) :
    Inv X pins σ (upd H s.heap.objs.size (.lst ys)) { s with heap:=s.heap.push { cls:=.type "list",data:=.seq its.toArray },toks:=t' } :=
  I.laid (fun _ _ q=>Heap.get?_push_of_some _ q) (Nat.le_refl _) ⟨hz,its,0,hv,Heap.get?_push_size _ rfl⟩
theorem Inv.fresh (I:Inv X pins σ H s):H s.heap.objs.size=none:=I.hok.fresh (Nat.le_refl _)
theorem Inv.lstM (I:Inv X pins σ H s) (hH:H l=some (.lst xs)):xs.length≤sizeLine∧∃ (its:List Value) (n:Nat),aI xs its∧xs.length=its.length∧s.heap.get? l=some { cls:=.type "list",data:=.seq its.toArray n }:=by
  obtain ⟨z,its,n,r,e⟩:=I.hok l _ hH
  exact ⟨z,its,n,r,r.length,e⟩
end
section
variable {X:Cx}
noncomputable def aCs:V→List V→Hp→VK→Prop:=fun x vs H Q=>∃ l xs y,x= .ref l∧vs=[y]∧H l=some (.lst xs)∧xs.length < sizeLine∧Q .non (upd H l (.lst (xs ++ [y])))
theorem AH:MtM X "list.append" aCs:=by
  intro pins s σ H x vs v us Q I rx rv h
  obtain ⟨l,xs,y,rfl,rfl,hH,hz,q⟩:=h
  cases rx
  obtain ⟨u,rfl,ru⟩:=rv.one
  obtain ⟨z,its,n,r,hl,e⟩:=I.lstM hH
  refine call_meets F.slot_list_append ⟨_,e,rfl⟩ F.entry_list_append (F.args_list_append_2 _ _) (PySem.list_append l its.toArray n u (by rw [List.size_toArray]; omega)) ⟨e, ?_⟩
  refine ⟨.non,_,I.lset (its':=its ++ [u]) hH e (by simp) (r.append (.cons ru .nil)) ?_,rfl,q⟩
  rw [List.length_append,List.length_singleton]
  omega
noncomputable def aJQ:R2:=fun x y H Q=>∃ l b xs zs,x= .ref l∧y= .ref b∧H l=some (.lst xs)∧H b=some (.lst zs)∧xs.length + zs.length≤sizeLine∧∀ p,H p=none→Q (.ref p) (upd H p (.lst (xs ++ zs)))
theorem aGz:OpR X (binaryOp .Add) aJQ:=by
  intro pins s σ H x y v u Q I rx ry h
  obtain ⟨l,b,xs,zs,rfl,rfl,hH,hB,hz,q⟩:=h
  cases rx
  cases ry
  obtain ⟨z,its,n,r,hl,e⟩:=I.lstM hH
  obtain ⟨z2,its2,n2,r2,hl2,e2⟩:=I.lstM hB
  refine PySem.P.add_list e e2 ?_ (by rw [List.size_toArray,List.size_toArray]; omega)
  have ea:its.toArray ++ its2.toArray=(its ++ its2).toArray:=by simp
  rw [ea]
  exact ⟨.ref _,_,I.lnew (t':=s.toks) (r.append r2) (by rw [List.length_append]; omega),rfl,q _ I.fresh⟩
end
section
variable {prog:Program} {w:World} {A:Around} {E:Value→Shared→Prop} {s:Shared}
end
section
variable {X:Cx}
end
end L2
namespace Att
open PySem PySem.W PySem.Calls PyProof.Rows
theorem vC {P:Params} {h:Heap}:∀ (ns:List Int) (vs:List Value),WellAll P h vs (ns.map WData.int)→IntsAre vs ns:=by
  intro ns
  induction ns with
  | nil =>
    intro vs w
    rw [List.map_nil] at w
    cases w
    exact .nil
  | cons n ns ih =>
    intro vs w
    rw [List.map_cons] at w
    cases w with
    | cons a b =>
      cases a
      exact .cons _ _ (ih _ b)
theorem SQ {l:OpenLaw} {n:Nat} (hn:l.most=some n) {P:Params} {h:Heap} {args:List WData} {vals:List Value}
    (hpre:l.row.toRowW.claim.pre args=true) (hwl:WellAll P h vals args) :
    ∃ a vs ns,vals=[Value.ref a]∧args=[WData.list (ns.map WData.int)]∧h.get? a=some { cls:=.type "list",data:=.seq vs.toArray }∧IntsAre vs ns∧ns.length≤n:=by
  have hsh:WShape.hasAll [] args [.list .int]=true:=(pre_splitW hpre).1
  have hc:l.pre.holds [] { args:=args }=true:=(pre_splitW hpre).2
  obtain ⟨d,r,rfl,h1,h2⟩:=hasAllW_cons hsh
  obtain rfl:=hasAllW_nil h2
  obtain ⟨xs,rfl,h3⟩:=hasW_list h1
  obtain ⟨ns,rfl⟩:=items_int h3
  have hlen:ns.length≤n:=by
    unfold OpenLaw.pre at hc
    have h4:(WTm.not (.lt (.lit (.int (n:Int))) (.len (.arg 0)))).holds [] { args:=[.list (ns.map .int)] }=true:=by
      have h4:=(holds_andW hc).1
      rw [hn] at h4
      exact h4
    have h5:=condW_of h4 (w_not (w_lt w_lit (w_len_list (w_arg rfl))))
    rw [List.length_map] at h5
    refine Nat.le_of_not_lt fun q=>?_
    have q':(n:Int) < ((ns.length:Nat):Int):=by omega
    first
      | (rw [decide_eq_true q'] at h5; exact absurd h5 (by decide))
      | (simp at h5; omega)
  cases hwl with
  | cons w1 w2 =>
    cases w2
    cases w1 with
    | list ho hall=>exact ⟨_,_,ns,rfl,rfl,ho,vC ns _ hall,hlen⟩
theorem ON (l:OpenLaw) (args:List WData):l.row.toRowW.claim.post args (.bool true) args=true :=
  postW_of (r:=l.row.toRowW) (X:=(true == true))
    (show WShape.has [] (.bool true) .bool=true by first | rfl | decide | simp [WShape.has,WShape.arms,WShape.armsAll])
    (show (WTm.eq .res (.lit (.bool true))).value [] { args:=args,res:=some (.bool true),after:=args }=some (.bool (true == true)) from w_eq_bool (w_res rfl) w_lit) rfl
theorem EU {l:OpenLaw} {n:Nat} {q:Program} {loose:List Str} {XP:(Str→Option Value)→Heap→Prop} {YP:World→Heap→Prop} {d:DefRec}
    (hn:l.most=some n) (hdf:d.params.defaults=[])
    (call:∀ (w:World) (s₀ s₁:Shared) (mg mb:Str→Option Value) (fa:Addr) (o:Obj) (pm cd doc:Value) (a:Addr) (vs:List Value) (ns:List Int),
      Ground q loose [] XP w s₀ mg mb s₁.heap→YP w s₁.heap→
      s₁.heap.get? fa=some o→o.data= .func (docDef d.name d.params d.body d.scope pm cd doc)→s₁.heap.CodeRec cd d.name→mg d.name=some (.ref fa)→
      s₁.heap.get? a=some { cls:=.type "list",data:=.seq vs.toArray }→IntsAre vs ns→ns.length≤n→s₁.gens= #[]→
      codeAny (model l.prog w) callerA (.call (.ref fa) ⟨[.ref a],[]⟩) (fun r s'=>r= .ok (.ret (.bool true))∧OldK s₁.heap s'.heap∧s'.os=s₁.os∧AllBare s'.gens) s₁) :
    WalkO q loose XP YP l.row.toRowW d [] (fun f vs=>PySem.call f vs):=by
  intro w s₀ s₁ mg mb G Y fa o pm cd doc dV kV ho hd hcd hD hmg hg args vals as hpre hlay hrd hwl hlo
  obtain rfl:dV= .none:=Dflts.none hD hdf
  obtain rfl:kV= .none:=Dflts.noKw hD
  obtain ⟨a,vs,ns,rfl,rfl,hobj,hints,hlen⟩:=SQ hn hpre hwl
  refine enter_call (codeAny_mono (call w s₀ s₁ mg mb fa o pm cd doc a vs ns G Y ho (fd_plain hd) hcd hmg hobj hints hlen hg) fun r s' hq=>?_)
  obtain ⟨rfl,h2,h3,h4⟩:=hq
  exact ⟨.inl ⟨.bool true,.bool true,[],rfl,fun _=>rfl,.bool true,ON l _,fun _=>⟨List.Pairwise.nil,fun _ hm=>(nomatch hm)⟩⟩,h2,h3,h4⟩
section
variable {prog:Program} {w:World} {A:Around} {E:Value→Shared→Prop} {s:Shared} {K:Frag}
end
end Att
namespace L2
open PySem PySem.Spec PyProof.Rows
theorem AT:∀ {vs:List Value} {ns:List Int},IntsAre vs ns→aI (ns.map V.int) vs
  | _,_,.nil=>.nil
  | _,_,.cons n t h=>.cons ⟨t,rfl⟩ (AT h)
noncomputable def ZB (H:Hp):Prop:= ∀ b,H b=none∨∃ o xs,H b=some (.frz o (.lst xs))
theorem XB {P:Program} {w:World} {K:W.Frag} {mg mb:Str→Option Value} {CX:CXT} {k:Nat} {fa a:Addr} {fd:FuncData} {x:Str} {sp:Sp} {s₁:Shared} {vs:List Value} {ns:List Int}
    (KX:K.In s₁.heap) (hns:s₁.heap.Ns mainGlobals mg) (hb:s₁.heap.Ns builtinsNs mb) (hbb:∀ x:Str,x≠"__name__"→mb x=bootBuiltins x) (hlim:s₁.heap.NoLimit) (hg:s₁.gens= #[])
    (ha:s₁.heap.get? a=some { cls:=.type "list",data:=.seq vs.toArray }) (hi:IntsAre vs ns) (hl:ns.length≤sizeLine) (hr:bE k callerA)
    (F:∀ base:Heap,K.In base→base.Ns mainGlobals mg→bS P w K mg base CX k fa fd [x] sp) (hbind:∀ (s:Shared) (u:Value),BindsTo s fd ⟨[u],[]⟩ [(x,u)])
    (hsp:∀ H:Hp,ZB H→SqL K H a (ns.map V.int)→sp [.ref a] H (fun v _=>v= .bl true) fun _ _ _=>False)
    (hCX:∀ H e s',CX [] H s₁ (fun _ _ _=>False) e s'→False) :
    codeAny (model P w) callerA (.call (.ref fa) ⟨[.ref a],[]⟩) (fun r s'=>r= .ok (.ret (.bool true))∧OldK s₁.heap s'.heap∧s'.os=s₁.os∧AllBare s'.gens) s₁:=by
  have rv:=AT hi
  have lenV:=hi.length
  have core :∀ H:Hp,ZB H→SqL K H a (ns.map V.int)→HOk P w H s₁.heap→(∀ b,H b≠none→b=a)→(H a≠none→K.lookup a=none)→
      codeAny (model P w) callerA (.call (.ref fa) ⟨[.ref a],[]⟩) (fun r s'=>r= .ok (.ret (.bool true))∧OldK s₁.heap s'.heap∧s'.os=s₁.os∧AllBare s'.gens) s₁:=by
    intro H hO hS hok hA hK
    have base_of:∀ {b:Addr} {o:Obj},s₁.heap.get? b=some o→H b=none→(DK s₁.heap H).get? b=some o:=fun e n=>WG e n
    have noA:∀ {b:Addr} {o:Obj} {es:Array DictEntry} {ep:Nat},s₁.heap.get? b=some o→o.data= .dict es ep→H b=none:=fun {b o es ep} e d=>by
      cases q:H b with
      | none=>rfl
      | some u =>
        have e':b=a:=hA b (by rw [q]; simp)
        subst e'
        rw [ha] at e; cases e
        have d':Data.seq vs.toArray _=Data.dict es ep:=d
        cases d'
    have nsK:∀ {b:Addr} {m:Str→Option Value},s₁.heap.Ns b m→(DK s₁.heap H).Ns b m:=fun {b m} ⟨o,es,ep,e,d,r⟩=>⟨o,es,ep,base_of e (noA e d),d,r⟩
    have hKb:K.In (DK s₁.heap H):=fun b o e=>base_of (KX b o e) (by
      cases q:H b with
      | none=>rfl
      | some u =>
        have e':b=a:=hA b (by rw [q]; simp)
        subst e'
        rw [hK (by rw [q]; simp)] at e; cases e)
    have hM:Mod K mg (DK s₁.heap H):=⟨hKb,nsK hns,⟨mb,nsK hb,hbb⟩,let ⟨mc,h1,h2⟩:=hlim; ⟨mc,nsK h1,h2⟩⟩
    have e0:uM P w K mg (DK s₁.heap H) callerA [] s₁ H:=⟨rfl,hM,fun b o e=>aDb e,Nat.le_of_eq (QU _ _),trivial,fun b hb=>absurd (show b∈([]:List Addr) from hb) (by simp),hok,.of_eq hg⟩
    refine codeAny_mono ((F _ hKb (nsK hns)).run callerA [] s₁ H ⟨[.ref a],[]⟩ [.ref a] [.ref a] _ _ hr e0 (hbind s₁ (.ref a)) (.cons rfl .nil) (hsp H hO hS)) fun r s' h=>?_
    cases r with
    | error e=>exact (hCX H e s' h).elim
    | ok fl =>
      cases fl with
      | next=>exact False.elim h
      | brk=>exact False.elim h
      | cont=>exact False.elim h
      | ret u =>
        obtain ⟨v,H',os,bare,un,hok',r',q⟩:=h
        have q':v= .bl true:=q
        subst q'
        obtain rfl:u=Value.bool true:=r'
        refine ⟨rfl,OldK.of_keep fun b o e=>?_,os,bare⟩
        cases q:H b with
        | none=>exact un.keep b o e q (by intro z; exact absurd (show b∈([]:List Addr) from z) (by simp)) (by simp)
        | some u =>
          rcases hO b with z | ⟨ob,xs,z⟩
          · rw [q] at z; cases z
          · have z2:=un.frzs b ob _ z
            obtain ⟨e1,_⟩:=hok b _ z
            obtain ⟨e2,_⟩:=hok' b _ z2
            rw [e] at e1; cases e1
            exact e2
  cases hk:K.lookup a with
  | some o =>
    have e:=KX a o hk
    rw [ha] at e
    cases e
    refine core (fun _=>none) (fun _=>.inl rfl) (.inr ⟨_,vs.toArray,_,hk,rfl,rfl,rfl,by rw [List.size_toArray,lenV]; exact hl,by simpa using rv⟩) (fun b u z=>by have z':(none:Option HO)=some u:=z; cases z') (fun b z=>absurd rfl z) fun z=>absurd rfl z
  | none =>
    refine core (fun b=>if b=a then some (.frz { cls:=.type "list",data:=.seq vs.toArray } (.lst (ns.map V.int))) else none) (fun b=>?_) (.inl (.inr ⟨{ cls:=.type "list",data:=.seq vs.toArray },if_pos rfl⟩)) (fun b u z=>?_) (fun b z=>?_) fun _=>hk
    · by_cases hb:b=a
      · exact .inr ⟨_,_,if_pos hb⟩
      · exact .inl (if_neg hb)
    · by_cases hb:b=a
      · have z':=(if_pos hb).symm.trans z
        cases z'
        subst hb
        exact ⟨ha,by rw [List.length_map]; exact hl,vs,_,rv,ha⟩
      · have z':=(if_neg hb).symm.trans z
        cases z'
    · by_cases hb:b=a
      · exact hb
      · exact absurd (if_neg hb) z
theorem aDs {l:W.OpenLaw} {n k:Nat} {q:Program} {loose:List Str} {XP:(Str→Option Value)→Heap→Prop} {YP:World→Heap→Prop} {d:DefRec} {K:Params→W.Frag} {CX:World→CXT} {sp:World→Sp} {x:Str}
    (hn:l.most=some n) (hn2:n≤sizeLine) (hdf:d.params.defaults=[]) (hr:bE k callerA)
    (hY:∀ (w:World) (h:Heap),YP w h→(K w.params).In h)
    (F : ∀ (w:World) (mg:Str→Option Value) (fa:Addr) (h:Heap),(K w.params).In h→h.Ns mainGlobals mg→mg d.name=some (.ref fa)→
      ∃ fd:FuncData,(∀ (s:Shared) (u:Value),BindsTo s fd ⟨[u],[]⟩ [(x,u)])∧
        ∀ base:Heap,(K w.params).In base→base.Ns mainGlobals mg→bS l.prog w (K w.params) mg base (CX w) k fa fd [x] (sp w))
    (hsp:∀ (w:World) (H:Hp) (a:Addr) (ns:List Int),ns.length≤n→ZB H→SqL (K w.params) H a (ns.map V.int)→sp w [.ref a] H (fun v _=>v= .bl true) fun _ _ _=>False)
    (hCX:∀ (w:World) (H:Hp) (s:Shared) (e:Value) (s':Shared),CX w [] H s (fun _ _ _=>False) e s'→False) :
    W.WalkO q loose XP YP l.row.toRowW d [] (fun f vs=>PySem.call f vs):=by
  refine Att.EU hn hdf fun w s₀ s₁ mg mb fa o pm cd doc a vs ns G Y ho hd hcd hmg hobj hints hlen hg=>?_
  have KX:=hY w _ Y
  obtain ⟨fd,hb,hF⟩:=F w mg fa _ KX G.T.g hmg
  exact XB KX G.T.g G.T.b G.T.builtins G.T.nolimit hg hobj hints (Nat.le_trans hlen hn2) hr hF hb (fun H hO hS=>hsp w H a ns hlen hO hS) fun H e s'=>hCX w H s₁ e s'
theorem ZA {l:W.OpenLaw} {n k:Nat} {q:Program} {loose:List Str} {XP:(Str→Option Value)→Heap→Prop} {YP:World→Heap→Prop} {d:DefRec} {K:Params→W.Frag} {CX:CXT} {sp:W.Frag→Sp} {x:Str}
    (hn:l.most=some n) (hn2:n≤sizeLine) (hdf:d.params.defaults=[]) (hr:bE k callerA)
    (hY:∀ (w:World) (h:Heap),YP w h→(K w.params).In h)
    (F : ∀ (w:World) (mg:Str→Option Value) (fa:Addr) (h:Heap),(K w.params).In h→h.Ns mainGlobals mg→mg d.name=some (.ref fa)→
      ∃ fd:FuncData,(∀ (s:Shared) (u:Value),BindsTo s fd ⟨[u],[]⟩ [(x,u)])∧
        ∀ base:Heap,(K w.params).In base→base.Ns mainGlobals mg→bS l.prog w (K w.params) mg base CX k fa fd [x] (sp (K w.params)))
    (hsp:∀ (K:W.Frag) (H:Hp) (a:Addr) (ns:List Int),ns.length≤n→ZB H→SqL K H a (ns.map V.int)→sp K [.ref a] H (fun v _=>v= .bl true) fun _ _ _=>False)
    (hCX:∀ (H:Hp) (s:Shared) (e:Value) (s':Shared),CX [] H s (fun _ _ _=>False) e s'→False) :
    W.WalkO q loose XP YP l.row.toRowW d [] (fun f vs=>PySem.call f vs) :=
  aDs (K:=K) (CX:=fun _=>CX) (sp:=fun w=>sp (K w.params)) hn hn2 hdf hr hY F (fun w H a ns h1 h2 h3=>hsp (K w.params) H a ns h1 h2 h3) fun _ H s e s'=>hCX H s e s'
noncomputable def dS (s:Stmt) (j:Nat):Stmt:=match s with
  | .ClassDef _ _ _ body _ _ _ _ _ _ _=>body.getD j (.Pass ⟨0,0,0,0⟩)
  | _=>.Pass ⟨0,0,0,0⟩
noncomputable def gA (s:Stmt):Arguments:=match s with
  | .FunctionDef _ a _ _ _ _ _ _ _ _=>a
  | _=>{ posonlyargs:=[],args:=[],vararg:=none,kwonlyargs:=[],kw_defaults:=[],kwarg:=none,defaults:=[] }
noncomputable def aB (s:Stmt):List Stmt:=match s with
  | .FunctionDef _ _ b _ _ _ _ _ _ _=>b
  | _=>[]
noncomputable def aA (s:Stmt):Scope:=match s with
  | .FunctionDef _ _ _ _ _ _ sc _ _ _=>sc
  | _=>{ kind:=.function,names:=[],isGenerator:=false,isCoroutine:=false }
noncomputable abbrev CX0:CXT:=fun _ _ _ _ _ _=>False
noncomputable abbrev E0:XK:=fun _ _ _=>False
theorem xX {X:Cx}:tS CX0 X E0:=fun _ _ _ _ _ _ _ h=>h.elim
structure Fun (K:W.Frag) (x qual:Str) (st:Stmt) (f:Addr) (fd:FuncData):Prop where
  ex :∃ (oc:Value) (od:Option Addr) (kV doc pm:Value) (an:Option Addr) (cdv ct:Value) (osl:Array (Option Value)),
    fd=W.fnOf x qual (gA st) (aB st) (aA st) .none kV doc pm an cdv ct∧K.lookup f=some ⟨oc,od,.func fd,osl⟩∧W.codeIn K cdv qual=true
  kp:W.keepIn K (.ref f)=true
section
variable {P:Program} {w:World} {K:W.Frag} {mg:Str→Option Value} {base:Heap}
theorem Fun.ok {x qual:Str} {st:Stmt} {f:Addr} {fd:FuncData} {N ps:List Str} {k:Nat} {sp:Sp} (F:Fun K x qual st f fd) (S:vH N ps (aA st)) (len:∀ vs H Q E,sp vs H Q E→vs.length=ps.length)
    (hbody:∀ (cdv:Value) (A:Around) (outer:List Env) (s:Shared) (H:Hp) (vs:List V) (Q:VK) (E:XK),bE k (A.deeper (envOfC qual (aA st) s.heap.objs.size f cdv))→sp vs H Q E→
      ∃ t,PSs (MN CX0 P w K mg base N qual (aA st) f cdv A outer s H E).nox (aB st) t∧t { nx:=fun _ H'=>Q .non H',rt:=Q } (start N vs) H):bS P w K mg base CX0 (k + 1) f fd ps sp:=by
  obtain ⟨oc,od,kV,doc,pm,an,cdv,ct,osl,rfl,lk,hcd⟩:=F.ex
  refine aEh lk hcd S len fun A outer s H vs Q E hr hsp=>?_
  obtain ⟨t,h,q⟩:=hbody cdv A outer s H vs Q E hr hsp
  exact ⟨t,h.nox,q⟩
theorem Fun.binds {x qual:Str} {st:Stmt} {f:Addr} {fd:FuncData} {ps:List Str} (F:Fun K x qual st f fd)
    (h:∀ (kV doc pm:Value) (an:Option Addr) (cdv ct:Value) (us:List Value),us.length=ps.length→bindArgs (W.fnOf x qual (gA st) (aB st) (aA st) .none kV doc pm an cdv ct) ⟨us,[]⟩=pure (ps.zip us)):aE K fd ps []:=by
  obtain ⟨oc,od,kV,doc,pm,an,cdv,ct,osl,rfl,lk,hcd⟩:=F.ex
  exact .all (h kV doc pm an cdv ct)
end
section
variable {X:Cx}
theorem pv (i:Nat) {x:Str} {pos:Pos} (hN:X.N[i]? =some x:=by rfl) (hv:Vis X.env.scope x:=by first | exact Or.inl rfl | exact Or.inr (Or.inl rfl) | exact Or.inr (Or.inr rfl)) (hd:(x == ("__debug__":Str))=false:=by decide)
    (hcd:(x == ("__classdict__":Str))=false:=by decide):PE X (.Name x pos) (aKX i):=KW hN hv hd hcd
end
noncomputable def aQ (H H':Hp):Prop:= ∀ b o,H b=some o→H' b=some o
theorem aQ.refl (H:Hp):aQ H H:=fun _ _ h=>h
theorem aQ.trans {H H1 H2:Hp} (a:aQ H H1) (b:aQ H1 H2):aQ H H2:=fun c o h=>b c o (a c o h)
theorem aQ.free {H H':Hp} (e:aQ H H') {l:Addr} (h:H' l=Option.none):H l=Option.none:=by
  cases q:H l with
  | none=>rfl
  | some o =>
    rw [e l o q] at h
    cases h
theorem aQ.seq {K:W.Frag} {H H':Hp} {a:Addr} {xs:List V} (e:aQ H H') (h:SqL K H a xs):SqL K H' a xs:=by
  rcases h with (h | ⟨o,h⟩) | h
  · exact .inl (.inl (e _ _ h))
  · exact .inl (.inr ⟨o,e _ _ h⟩)
  · exact .inr h
end L2
set_option maxHeartbeats 4000000
namespace L2
open PySem PySem.Spec PyProof.Rows
noncomputable def Sm (k:Nat) (x:Int):Prop:=x.natAbs < 2 ^ k
theorem Sm.mono {k l:Nat} {x:Int} (h:Sm k x) (q:k≤l):Sm l x:=Nat.lt_of_lt_of_le h (Nat.pow_le_pow_right (by decide) q)
theorem Sm.mul {k l:Nat} {x y:Int} (h:Sm k x) (q:Sm l y):Sm (k + l) (x * y):=by
  unfold Sm at *; rw [Int.natAbs_mul,Nat.pow_add]; exact Nat.mul_lt_mul'' h q
theorem Sm.add {k l:Nat} {x y:Int} (h:Sm k x) (q:Sm k y) (e:k + 1≤l):Sm l (x + y):=by
  have a:(x + y).natAbs≤x.natAbs + y.natAbs:=Int.natAbs_add_le x y
  have b:2 ^ k + 2 ^ k≤2 ^ l:=by
    have:=Nat.pow_le_pow_right (show 0 < 2 by decide) e
    rw [Nat.pow_succ] at this; omega
  unfold Sm at *; omega
theorem Sm.neg {k:Nat} {x:Int} (h:Sm k x):Sm k (-x):=by unfold Sm at *; rw [Int.natAbs_neg]; exact h
theorem Sm.sub {k l:Nat} {x y:Int} (h:Sm k x) (q:Sm k y) (e:k + 1≤l):Sm l (x - y):=by
  rw [Int.sub_eq_add_neg]; exact h.add q.neg e
theorem Sm.le {k:Nat} {x y:Int} (h:Sm k y) (a:0≤x) (b:x≤y):Sm k x:=by unfold Sm at *; omega
theorem Sm.div {k:Nat} {x y:Int} (h:Sm k x) (hy:0 < y):Sm k (x / y):=by
  rcases Int.le_total 0 x with z | z
  · exact h.le (Int.ediv_nonneg z (by omega)) (Int.ediv_le_self _ z)
  · have a:x≤x / y:=Int.le_ediv_of_mul_le hy (by
      have:=Int.mul_le_mul_of_nonpos_left z (show 1≤y by omega)
      omega)
    have b:x / y≤0:=by
      have:=Int.ediv_le_ediv hy z
      rw [Int.zero_ediv] at this; exact this
    unfold Sm at *; omega
theorem Sm.bits {k:Nat} {x:Int} (h:Sm k x):Builtin.Int.intBits x≤k:=by
  unfold Builtin.Int.intBits
  split
  · exact Nat.zero_le _
  · rename_i z
    have hz:x.natAbs≠0:=fun e=>z (by rw [Int.natAbs_eq_zero.mp e]; rfl)
    exact (Nat.log2_lt hz).mpr h
theorem Sm.mulOk {k l:Nat} {x y:Int} (h:Sm k x) (q:Sm l y) (e:k + l≤100000000):IntMulOk x y:=by
  have b1:=h.bits
  have b2:=q.bits
  unfold IntMulOk
  have z:Builtin.Int.intTooBig (((Builtin.Int.intBits x + Builtin.Int.intBits y:Nat):Int))=false:=by
    unfold Builtin.Int.intTooBig
    refine decide_eq_false ?_
    have:bitsLine=134217728:=by decide
    rw [this]; omega
  have z':Builtin.Int.intTooBig ((Builtin.Int.intBits x:Int) + (Builtin.Int.intBits y:Int))=false:=by
    rw [←z]; congr 1
  rw [z']; simp
theorem Sm.log {k:Nat} {x:Int} (h:Sm k x) (e:k≤9000) (hk:0 < k):x.natAbs.log2 < 9000:=by
  by_cases hz:x.natAbs=0
  · rw [hz]; decide
  · exact Nat.lt_of_lt_of_le ((Nat.log2_lt hz).mpr h) e
section
variable {X:Cx}
noncomputable def AS (i j:Int):Prop:=IntMulOk i j
theorem aA0 {i j:Int} (h:Sm 64 i):AS i j:=IntMulOk.of_left h.bits
theorem aJ4 {i j:Int} (h:Sm 64 j):AS i j:=IntMulOk.of_right h.bits
theorem lM {k l:Nat} {i j:Int} (h:Sm k i) (q:Sm l j) (e:k + l≤100000000:=by decide):AS i j:=h.mulOk q e
noncomputable def AX (_i j:Int):Prop:=0 < j∧∃ k,Sm k j∧0 < k∧k≤9000
theorem aB1 {k:Nat} {i j:Int} (h:0 < j) (q:Sm k j) (e:0 < k:=by decide) (e':k≤9000:=by decide):AX i j:=⟨h,k,q,e,e'⟩
theorem aBD:OpR X (binaryOp .Mult) (rI AS fun i j=>.int (i * j)):=opI fun _ _ _ _ _ _ _ hc q=>by
  exact mul_int q hc
theorem VE:OpR X (binaryOp .FloorDiv) (rI AX fun i j=>.int (i / j)):=opI fun i j _ _ _ _ _ hc q=>by
  obtain ⟨h1,k,a,hk,e⟩:=hc
  exact floordiv_int (by omega) (by rw [Int.fdiv_eq_ediv_of_nonneg i (by omega)]; exact q) (.inl (PyProof.noPylong_of_log2 (a.log e hk)))
theorem aL.one {x:V} {u v:Value} (r:aL x u) (q:aL x v) (h:∀ i,x≠.int i) (h1:∀ i,x≠.str i) (h2:∀ i,x≠.byt i) (h3:∀ i,x≠.flt i):u=v:=by
  cases x with
  | non=>exact Eq.trans r (Eq.symm q)
  | bl b=>exact Eq.trans r (Eq.symm q)
  | int i=>exact absurd rfl (h i)
  | str i=>exact absurd rfl (h1 i)
  | byt i=>exact absurd rfl (h2 i)
  | flt i=>exact absurd rfl (h3 i)
  | ref a=>exact Eq.trans r (Eq.symm q)
  | ty n=>exact Eq.trans r (Eq.symm q)
end
section
variable {X:Cx} {CX:CXT} {k:Nat} {f C:Addr} {fd:FuncData} {ps ks:List Str} {sp:Sp} {E:XK} {x m:Str} {p pos apos kpos:Pos} {kws:List Keyword} {tk:TA}
variable {g:List Value→List Value→List Value} {gV:List V→List V→List V}
end
theorem iH.at {h:Heap} {a:Addr} {items:Array Value} {n:Nat} (e:h.get? a=some { cls:=.type "tuple",data:=.seq items n }):iH h a items:=⟨⟨_,e,rfl,n,rfl⟩,fun o q=>by rw [e] at q; cases q; rfl⟩
end L2
namespace LE
open PySem PyProof.Rows
open AutoSeq1 (wpAny_loadPart')
open Builtin
variable {prog:Program} {w:World} {A:Around} {E:Value→Shared→Prop} {s:Shared}
theorem aJb {it l:Addr} {i:Nat} {xs:Array Value} {x:Value} {Q:Value→Shared→Prop} (a:s.heap.IsTupleIter it l i) (b:s.heap.IsTuple l xs) (c:xs[i]? =some x)
    (q:∀ h',h'.IsTupleIter it l (i + 1)→Heap.SameBut it s.heap h'→Q x { s with heap:=h' }):wpAny (model prog w) A (Builtin.SmallTypes.nextOf (.ref it)) Q E s:=by
  obtain ⟨o,ho,hc,hd⟩:=id a
  obtain ⟨p,hp,_,n,hn⟩:=b
  unfold Builtin.SmallTypes.nextOf
  refine wpAny_bind (wpAny_callSpecial?_slot (name:=Str.ofString "__next__") a.typeIs F.slot_tuple_iterator_next (wpAny_call_entry F.slot_tuple_iterator_next a.typeIs F.entry_tuple_iterator_next ?_ (F.args_tuple_iterator_next_1 _)))
  show wpAny _ _ (field (.ref it) 0 >>= _) _ _ _
  refine wpAny_bind (wpAny_field ho hd (x:=.ref l) rfl ?_)
  show wpAny _ _ (if (Value.ref l == Value.none)=true then _ else _) _ _ _
  rw [if_neg (show ¬((Value.ref l == Value.none)=true) from nofun)]
  show wpAny _ _ (field (.ref it) 1 >>= _) _ _ _
  refine wpAny_bind (wpAny_field ho hd (x:=.int i 0) rfl ?_)
  show wpAny _ _ (seqItems? (.ref l) >>= _) _ _ _
  refine wpAny_bind (wpAny_seqItems hp hn ?_)
  simp only [Int.toNat_natCast,c]
  exact wpAny_bind (wpAny_setField ho hd (by simp) (wpAny_pure ⟨x,rfl,wpAny_pure (q _ ⟨_,Heap.get?_update_self _ ho (Obj.isFreed_of_fields (Obj.data_mapFields hd _)),(Obj.cls_mapFields ..).trans hc,by rw [Obj.data_mapFields hd]; simp [rawInt]⟩ (Heap.SameBut.update ..))⟩))
theorem aJe {it l:Addr} {i:Nat} {xs:Array Value} {Q:Value→Shared→Prop} (hh:A.handled=none) (a:s.heap.IsTupleIter it l i) (b:s.heap.IsTuple l xs) (c:xs[i]? =none)
    (q:∀ h' e,Heap.ExtBut it s.heap h'→(∃ o,h'.get? e=some o∧o.cls= .type "StopIteration")→E (.ref e) { s with heap:=h' }):wpAny (model prog w) A (Builtin.SmallTypes.nextOf (.ref it)) Q E s:=by
  obtain ⟨o,ho,hc,hd⟩:=id a
  obtain ⟨p,hp,_,n,hn⟩:=b
  unfold Builtin.SmallTypes.nextOf
  refine wpAny_bind (wpAny_callSpecial?_slot (name:=Str.ofString "__next__") a.typeIs F.slot_tuple_iterator_next (wpAny_call_entry F.slot_tuple_iterator_next a.typeIs F.entry_tuple_iterator_next ?_ (F.args_tuple_iterator_next_1 _)))
  show wpAny _ _ (field (.ref it) 0 >>= _) _ _ _
  refine wpAny_bind (wpAny_field ho hd (x:=.ref l) rfl ?_)
  show wpAny _ _ (if (Value.ref l == Value.none)=true then _ else _) _ _ _
  rw [if_neg (show ¬((Value.ref l == Value.none)=true) from nofun)]
  show wpAny _ _ (field (.ref it) 1 >>= _) _ _ _
  refine wpAny_bind (wpAny_field ho hd (x:=.int i 0) rfl ?_)
  show wpAny _ _ (seqItems? (.ref l) >>= _) _ _ _
  refine wpAny_bind (wpAny_seqItems hp hn ?_)
  simp only [Int.toNat_natCast,c]
  refine wpAny_bind (wpAny_rule (wpAny_bind (wpAny_setField ho hd (by simp) ?_)))
  show wpAny _ _ (newExc (.type "StopIteration") [] >>= _) _ _ _
  refine wpAny_bind ?_
  simp only [newExc,newTuple]
  refine wpAny_bind (wpAny_newObj_type ?_ (by size_fits))
  refine wpAny_bind (m:=firstArgMember _ _) (wpAny_of_eq (a:=Value.none) (by first | rfl | (simp only [firstArgMember]; rfl)) (wpAny_newObj_type ?_ (by size_fits)))
  simp only [raiseNew]
  refine wpAny_bind (wpAny_handled ?_)
  first | rw [show A.in1.handled=none from hh] | rw [hh]
  exact wpAny_bind (wpAny_pure (wpAny_throw (q _ _ (((Heap.SameBut.update ..).extBut.push _).push _) ⟨_,Heap.get?_push_size _ rfl,rfl⟩)))
theorem aGi (hh:A.handled=none) (it l:Addr) (hne:l≠it) (xs:Array Value):Draws prog w A it [it,l] xs.size (fun i v=>xs[i]? =some v) (fun i h=>h.IsTupleIter it l i∧h.IsTuple l xs) where
  live:=fun _ _ st=>let ⟨o,ho,_⟩:=st.1; ⟨o,ho⟩
  frame:=fun _ _ _ st hk=>⟨st.1.at fun o e=>hk it (by simp) o e,let ⟨o,e,r⟩:=st.2; ⟨o,hk l (by simp) o e,r⟩⟩
  item:=fun i s Q E hi st hQ=>aJb st.1 st.2 (x:=xs[i]) (by simp [hi]) fun h' a b=>hQ _ h' s.toks (by simp [hi]) ⟨a,st.2.extBut b.extBut hne⟩ b
  done:=fun s Q E st hE=>aJe hh st.1 st.2 (by simp) hE
theorem aH6 (hh:A.handled=none) (it l:Addr) (i:Nat) (xs:Array Value) (hx:xs[i]? =none):Draws prog w A it [it,l] i (fun _ _=>True) (fun j h=>j=i∧h.IsTupleIter it l j∧h.IsTuple l xs) where
  live:=fun _ _ st=>let ⟨o,ho,_⟩:=st.2.1; ⟨o,ho⟩
  frame:=fun _ _ _ st hk=>⟨st.1,st.2.1.at fun o e=>hk it (by simp) o e,let ⟨o,e,r⟩:=st.2.2; ⟨o,hk l (by simp) o e,r⟩⟩
  item:=fun j s Q E hi st hQ=>absurd st.1 (Nat.ne_of_lt hi)
  done:=fun s Q E st hE=>aJe hh st.2.1 st.2.2 hx hE
theorem aBc (l:Addr) (items:Array Value) (o:Obj) (ho:o.cls= .type "tuple") (n:Nat) (hd:o.data= .seq items n) :
    Meets (Builtin.«enumerate.__new__» ⟨[.type "enumerate",.ref l],[]⟩) (fun _ R s=>s.heap.get? l=some o∧
      R (.ok (.ret (.ref (s.heap.push { cls:=.type "tuple_iterator",data:=.fields #[.ref l,.int 0 0] }).objs.size)))
        { s with heap:=(s.heap.push { cls:=.type "tuple_iterator",data:=.fields #[.ref l,.int 0 0] }).push { cls:=.type "enumerate",data:=.fields #[.none,.bool false,.ref s.heap.objs.size,rawInt 0,.none,.none] } }) :=
  .of_wp fun prog w A R s h=>by
    obtain ⟨hp,g,d,tk,os⟩:=s
    obtain ⟨oc,od,dt,sl⟩:=o
    replace ho:oc= .type "tuple":=ho
    replace hd:dt= .seq items n:=hd
    subst ho hd
    obtain ⟨hl,h⟩:=h
    have hsub:=sub_enumerate
    have hL:Heap.IsTuple (Shared.heap ⟨hp,g,d,tk,os⟩) l items:=⟨_,hl,rfl,n,rfl⟩
    wp_walk using wpAny_loadPart' hl
    refine wpAny_stack_any fun st=>wpAny_pure ?_
    split
    · rename_i c _ _ _ _ _
      cases (c == Value.type "enumerate") <;> (wp_walk using wpAny_loadPart' hl,wpAny_pyIter_tuple hL) <;> exact ⟨_,rfl,h⟩
    · wp_walk using wpAny_loadPart' hl,wpAny_pyIter_tuple hL
      exact ⟨_,rfl,h⟩
theorem SX {l:Addr} {items:Array Value} {Q:Value→Shared→Prop} (hL:s.heap.IsTuple l items)
    (h :∀ h',IsEnum h' (s.heap.objs.size + 1) s.heap.objs.size 0 .none→h'.IsTupleIter s.heap.objs.size l 0→h'.objs.size=s.heap.objs.size + 2→
      (∀ b o,s.heap.get? b=some o→h'.get? b=some o)→Q (.ref (s.heap.objs.size + 1)) { s with heap:=h' }) :
    wpAny (model prog w) A (call (.type "enumerate") [.ref l]) Q E s:=by
  obtain ⟨o,hl,hc,n,hd⟩:=hL
  refine callType_new F.called_enumerate (by decide) (F.typeCall_enumerate_1 _) (F.newCall_enumerate_1 _) (fun obj=>F.args_object_init_2 obj _) F.entry_enumerate_new (aBc l items o hc n hd) ⟨hl, ?_⟩
  have hz:(s.heap.push { cls:=.type "tuple_iterator",data:=.fields #[.ref l,.int 0 0] }).objs.size=s.heap.objs.size + 1:=Heap.size_push ..
  show _∧_
  rw [hz]
  have he:IsEnum ((s.heap.push { cls:=.type "tuple_iterator",data:=.fields #[.ref l,.int 0 0] }).push
      { cls:=.type "enumerate",data:=.fields #[.none,.bool false,.ref s.heap.objs.size,rawInt 0,.none,.none] }) (s.heap.objs.size + 1) s.heap.objs.size 0 .none:=by
    have:=Heap.get?_push_size (s.heap.push { cls:=.type "tuple_iterator",data:=.fields #[.ref l,.int 0 0] })
      (o:={ cls:=.type "enumerate",data:=.fields #[.none,.bool false,.ref s.heap.objs.size,rawInt 0,.none,.none] }) rfl
    rw [hz] at this; exact this
  exact ⟨⟨_,he,rfl⟩,h _ he ⟨_,Heap.get?_push_of_some _ (Heap.get?_push_size _ rfl),rfl,rfl⟩ (by rw [Heap.size_push,hz]) fun b o x=>Heap.get?_push_of_some _ (Heap.get?_push_of_some _ x)⟩
end LE
namespace L2
open PySem PySem.Spec PyProof.Rows
section
variable {X:Cx} {pins:List (Addr×Obj)} {σ:St} {H:Hp} {s:Shared} {h':Heap}
theorem Inv.turnNew {t':Nat} {ch:List Addr} {T:Addr} {u:HO} (I:Inv X pins σ H s)
    (hch:∀ b∈ch,(b∈X.ex∨X.s₀.heap.objs.size≤b)∧b≠X.env.locals∧(∀ x c,X.env.cells.lookup x=some c→c≠b)∧∀ p∈X.pn ++ pins,p.1≠b) (hn:∀ b∈ch,H b=none)
    (k:∀ b o,b∉ ch→s.heap.get? b=some o→h'.get? b=some o) (hT:s.heap.objs.size≤T) (new:dA X.prog X.w (upd H T u) h' T u):Inv X pins σ (upd H T u) { s with heap:=h',toks:=t' }:=by
  have fT:H T=none:=I.hok.fresh hT
  have nT:∀ {b o},s.heap.get? b=some o→b≠T:=fun q=>Nat.ne_of_lt (Nat.lt_of_lt_of_le (Heap.lt_size q) hT)
  have nit:∀ b u,H b=some u→b∉ ch:=fun b u e z=>by rw [hn b z] at e; cases e
  refine I.step (g':=s.gens) (d':=s.drawn) (ch:=ch) hch (fun b o _ _ hc e _=>k b o hc e) (fun b o _ _ hc e _=>⟨o.slots,k b o hc e⟩) (fun b o _ q n=>by rw [aH (nT q)]; exact n)
    (fun b o hc e=>⟨o,k b o hc e⟩) (fun b xs e=>by rw [aH (aO e fT)]; exact e) (fun b o v e=>by rw [aH (aO e fT)]; exact e) (fun b ps e=>⟨#[],by rw [aH (aO e fT),e]; simp⟩) (fun m hm=>?_) (fun b v e=>?_) I.bare
  · obtain ⟨o,es,ep,ho,r⟩:=hm
    exact ⟨o,es,ep,k _ o (fun z=>(hch _ z).2.1 rfl) ho,r⟩
  · by_cases hb:b=T
    · subst hb
      rw [aZ] at e
      cases e
      exact new
    · rw [aH hb] at e
      refine (I.hok b v e).stay (fun c v hc q=>k c v ?_ q) (fun c q=>by rw [aH (aO q fT)]; exact q) fun c xs q=>by rw [aH (aO q fT)]; exact q
      rcases hc with z | z
      · rw [z]; exact nit b _ e
      · exact nit c _ z
noncomputable def Ite (K:W.Frag) (a:Addr):It :=
  ⟨fun i H=>∃ xs x,SqT K H a xs∧xs[i]? =some x,fun i H x H'=>∃ T v,x= .ref T∧H T=none∧H'=upd H T (.tup [.int i,v])∧∀ xs,SqT K H a xs→xs[i]? =some v,fun i H=>∃ xs,SqT K H a xs∧xs.length≤i⟩
theorem RB {P:Program} {w:World} {K:W.Frag} {es:List Expr} {x1} {tp:Pos} (a e it:Addr) (hei:e≠it) (hai:a≠it) (hae:a≠e) :
    OS P w K (.Tuple es x1 tp) (Ite K a) [e,it] e (fun i h=>(∃ old,IsEnum h e it ((i:Nat):Int) old)∧h.IsTupleIter it a i) where
  mem:=by simp
  obj :=fun i h st b hb=>by
    obtain ⟨⟨old,h1⟩,o,h2,c,d⟩:=st
    rcases List.mem_cons.mp hb with rfl | hb
    · exact ⟨_,h1,fun v z=>by have z':Data.fields _=Data.cell v:=z; cases z'⟩
    · have e':b=it:=by simpa using hb
      subst e'
      exact ⟨o,h2,fun v z=>by rw [d] at z; cases z⟩
  keep:=fun i h h' st k=>⟨let ⟨old,q⟩:=st.1; ⟨old,k e (by simp) _ q⟩,st.2.at fun o q=>k it (by simp) o q⟩
  item := by
    intro X hP hw hK hc i pins s σ H E I hf st hg
    subst hP hw hK
    obtain ⟨xs,x,hq,hx⟩:=hg
    obtain ⟨its,rv,p,hz⟩:=I.tuple hq
    obtain ⟨u,hu,ru⟩:=rv.get hx
    obtain ⟨⟨old,he⟩,hit⟩:=st
    have hi:i < its.toArray.size:=by
      have:=(List.getElem?_eq_some_iff.mp hu).1
      simpa using this
    have D:=LE.aGi (prog:=X.prog) (w:=X.w) (A:=X.A.in1) (I.ok.hd hc) it a hai its.toArray
    refine wpAny_pyNext_enum_itemD (A:=X.A) D he ⟨hit,(show s.heap.IsTuple a its.toArray from p)⟩ hi hei (by simp [hei,Ne.symm hae]) fun y h1 tk hy ho hs' hT hsz hk=>?_
    refine ⟨_,rfl,wpAny_letOwnedTupleGo_enum ho fun h2 he2 sb=>?_⟩
    have hy':y=u:=by
      have z:its.toArray[i]? =some u:=by simpa using hu
      exact Option.some.inj (hy.symm.trans z)
    subst hy'
    have hTe:s.heap.objs.size≠e:=Nat.ne_of_gt (Heap.lt_size he)
    have gT:h2.get? s.heap.objs.size=some { cls:=.type "tuple",data:=.seq #[.int i tk,y] }:=(sb.2 _ hTe).trans hT
    refine ⟨.ref s.heap.objs.size,upd H s.heap.objs.size (.tup [.int i,x]),I.turnNew (ch:=[e,it]) (h':=h2) (fun b hb=>?_) (fun b hb=>(hf b hb).1) (fun b o hb q=>?_) (Nat.le_refl _) ?_,rfl,⟨_,x,rfl,I.hok.fresh (Nat.le_refl _),rfl,fun ys hy=>by rw [I.tuple_inj hy hq]; exact hx⟩,⟨⟨_,by simpa using he2⟩, ?_⟩,fun b hb=>?_⟩
    · obtain ⟨f0,f1,f2,f3,f4,f5⟩:=hf b hb
      exact ⟨f3,f1,f4,f5⟩
    · simp only [List.mem_cons,List.not_mem_nil,or_false,not_or] at hb
      exact (sb.2 b hb.1).trans (hk b o hb.1 hb.2 q)
    · exact ⟨by show 2≤sizeLine; decide,[.int i tk,y],.cons ⟨tk,rfl⟩ (.cons ru .nil),iH.at gT⟩
    · exact hs'.1.at fun o q=>(sb.2 it (Ne.symm hei)).trans q
    · have hl:∀ b,b∈ [e,it]→b≠s.heap.objs.size:=fun b hb z=>by
        rcases List.mem_cons.mp hb with r | r
        · exact hTe (z▸r)
        · obtain ⟨o,q,_⟩:=hit
          have r':b=it:=by simpa using r
          have l:=Heap.lt_size q
          rw [←r',z] at l
          exact absurd l (Nat.lt_irrefl _)
      rw [aH (hl b hb)]
      exact (hf b hb).1
  done:=by
    intro X hP hw hK hc i pins s σ H E I hf st hg
    subst hP hw hK
    obtain ⟨xs,hq,hx⟩:=hg
    obtain ⟨its,rv,p,hz⟩:=I.tuple hq
    obtain ⟨⟨old,he⟩,hit⟩:=st
    obtain ⟨f0,f1,f2,f3,f4,f5⟩:=hf it (by simp)
    have hl:=rv.length
    have hx':its.toArray[i]? =none:=by simp; omega
    refine wpAny_pyNext_enum_endD (A:=X.A) (LE.aH6 (prog:=X.prog) (w:=X.w) (A:=X.A.in1) (I.ok.hd hc) it a i its.toArray hx') he ⟨rfl,hit,(show s.heap.IsTuple a its.toArray from p)⟩ fun h' eb=>⟨rfl,I.turned (t':=s.toks) (fun b o hb e=>eb b o hb e) f0 f1 f3 f4 f5⟩
  self:=fun _ _ _ _ _ st h=>let ⟨_,q⟩:=st.1; wpAny_pyIter_enum q h
noncomputable def aIz (K:W.Frag) (ta:TA):TI:=fun σ H R=>ta σ H fun vs H1=>∃ a,vs=[.ref a]∧(∃ xs,SqT K H1 a xs)∧R (Ite K a) H1
theorem aCL {es:List Expr} {x1} {tp:Pos} {e:Expr} {ta:TA} {p pos:Pos} (hg:Gl X "enumerate") (hm:X.mg "enumerate"=none) (ha:PA X [e] ta) (hs:starEach [e] X.env=[(false,eval e X.env)]:=by rfl) :
    PI X (.Tuple es x1 tp) (.Call (.Name "enumerate" p) [e] [] pos) (aIz X.K ta):=by
  intro pins s σ H R I h
  refine Call_ (sC I hg hm boot_enumerate (PyProof.Rows.callWith_type1 (thn (ha pos pins s σ H _ I h) fun us s1 ⟨vs,H1,I1,r1,q1⟩=>?_) hs rfl))
  obtain ⟨a,e,⟨xs,hq⟩,q⟩:=q1
  subst e
  obtain ⟨u,rfl,r⟩:=iC r1
  cases r
  obtain ⟨its,rv,ht,hz⟩:=I1.tuple hq
  have ht':s1.heap.IsTuple a its.toArray:=ht
  have hl:a < s1.heap.objs.size:=let ⟨o,e,_⟩:=ht'; Heap.lt_size e
  refine LE.SX ht' fun h' he hit hsz k=>?_
  have I2:Inv X pins σ H1 { s1 with heap:=h' }:=I1.kept (t':=s1.toks) k
  refine wpAny_pyIter_enum (s:={ s1 with heap:=h' }) he ?_
  refine ⟨s1.heap.objs.size + 1,[s1.heap.objs.size + 1,s1.heap.objs.size],_,_,H1,rfl,I2,RB a _ _ (Nat.succ_ne_self _) (Nat.ne_of_lt hl) (Nat.ne_of_lt (Nat.lt_succ_of_lt hl)),⟨⟨_,he⟩,hit⟩,fun b hb=>?_,q⟩
  have hb':s1.heap.objs.size≤b:=by
    rcases List.mem_cons.mp hb with z | z
    · rw [z]; exact Nat.le_succ _
    · have z':b=s1.heap.objs.size:=by simpa using z
      exact Nat.le_of_eq z'.symm
  exact I1.fpOk hb' (I1.hok.fresh hb')
end
section
variable {X:Cx}
theorem IxR.imp {r r':R2} (h:IxR X r) (f:∀ x y H Q,r' x y H Q→r x y H Q):IxR X r':=fun value slice pins s σ H x y v u Q I rx ry q hs=>h value slice pins s σ H x y v u Q I rx ry (f _ _ _ _ q) hs
theorem bF.imp {g:Value} {r r':List V→Hp→VK→Prop} (h:bF X g r) (f:∀ x H Q,r' x H Q→r x H Q):bF X g r':=fun pins s σ H xs us Q I rs q=>h pins s σ H xs us Q I rs (f _ _ _ q)
theorem PG.imp {e:Expr} {t t':TG} (h:PG X e t) (f:∀ v σ H Q,t' v σ H Q→t v σ H Q):PG X e t':=fun pins s σ H v u Q I r q=>h pins s σ H v u Q I r (f _ _ _ _ q)
theorem PI.imp {tg it:Expr} {t t':TI} (h:PI X tg it t) (f:∀ σ H R,t' σ H R→t σ H R):PI X tg it t':=fun pins s σ H R I q=>h pins s σ H R I (f _ _ _ q)
end
theorem aKn {n:Nat}:ixN (n + 1) 0=some 0:=by unfold ixN; rw [if_pos (by decide),if_pos (by omega)]; rfl
theorem aET {n:Nat}:ixN (n + 2) 1=some 1:=by unfold ixN; rw [if_pos (by decide),if_pos (by omega)]; rfl
theorem aDP {n:Nat}:ixN (n + 3) 2=some 2:=by unfold ixN; rw [if_pos (by decide),if_pos (by omega)]; rfl
theorem iA {H:Hp} {p q:Addr} {o u:HO} (h:H q=some u) (n:H p=none):upd H p o q=some u:=by rw [aH (aO h n)]; exact h
theorem dG {H:Hp} {p:Addr} (h:H p=none) (o:HO):aQ H (upd H p o):=fun b u q=>iA q h
noncomputable def tyN (H:Hp):V→Option String
  | .non=>some "NoneType"
  | .bl _=>some "bool"
  | .int _=>some "int"
  | .str _=>some "str"
  | .ref a=>match H a with
    | some (.lst _)=>some "list"
    | some (.tup _)=>some "tuple"
    | some (.dK _)=>some "dict"
    | _=>none
  | _=>none
noncomputable def pA (n T:String):Bool:=n == T || (n == "bool" && T == "int")
noncomputable def nH:List String:=["int","bool","tuple","str","list","dict"]
noncomputable def ZT:List String:=["NoneType","bool","int","str","list","tuple","dict"]
theorem aHD {K:W.Frag} {H:Hp} {x:V} {n:String} (h:tyN H x=some n):uC K H x (.type n):=by
  unfold tyN at h
  split at h
  · cases h; exact .non
  · cases h; exact .bl _
  · cases h; exact .int _
  · cases h; exact .str _
  · split at h
    · rename_i e; cases h; exact .lst e
    · rename_i e; cases h; exact .tup e
    · rename_i e; cases h; exact .dK e
    · cases h
  · cases h
theorem aGZ (K:W.Frag):∀ n∈ZT,∀ T∈nH,W.kitOne K (.type n) (.type T)=some (pA n T):=by
  intro n hn T hT
  simp only [ZT,nH,List.mem_cons,List.not_mem_nil,or_false] at hn hT
  rcases hn with rfl | rfl | rfl | rfl | rfl | rfl | rfl <;> rcases hT with rfl | rfl | rfl | rfl | rfl | rfl <;> rfl
theorem OpR.imp {X:Cx} {f:Value→Value→Sem Value} {r r':R2} (h:OpR X f r) (g:∀ x y H Q,r' x y H Q→r x y H Q):OpR X f r':=fun pins s σ H x y v u Q I rx ry q=>h pins s σ H x y v u Q I rx ry (g _ _ _ _ q)
theorem aLc (i:Int):(if i < 0 then -i else i)=(i.natAbs:Int):=by split <;> omega
theorem QI {X:Cx}:bF X (.builtin "abs") (fun xs H Q=>∃ i,xs=[.int i]∧Q (.int (i.natAbs:Int)) H):=XJ.imp fun _ _ _ ⟨i,a,q⟩=>⟨i,a,by rw [aLc]; exact q⟩
theorem aIk:((0:Nat):Int)=0:=rfl
theorem NQ:((1:Nat):Int)=1:=rfl
theorem NB:((2:Nat):Int)=2:=rfl
theorem aKG:((3:Nat):Int)=3:=rfl
section
variable {prog:Program} {w:World} {A:Around} {R:Result→Shared→Prop} {s:Shared}
noncomputable abbrev NoE:Value→Shared→Prop:=fun _ _=>False
theorem QW {elt target iter:Expr} {ifs:List Expr} {scope:Scope} {pos:Pos} {it acc:Value} {env:Env} (I:Nat→Shared→Prop)
    (turn : ∀ n s,I n s→wpAny (model prog w) A (pyNext it) (fun r s₁=>match r with
      | none=>R (.ok .next) s₁
      | some v=>wpAny (model prog w) A (letOwnedTupleGo target it v) (fun _ s₁'=>wpAny (model prog w) A (assign target env v) (fun _ s₂ =>
          wpAny (model prog w) A (forIn ifs true fun c r=>if r=true then do let ok ←isTrue c env (eval c env); pure (ForInStep.yield ok) else pure (ForInStep.yield r)) (fun ok s₃ =>
            if ok=true then wpAny (model prog w) A (eval elt env) (fun x s₄=>wpAny (model prog w) A (call (.builtin "list.append") [acc,x]) (fun _ s₅=>∃ m,m < n∧I m s₅) NoE s₄) NoE s₃
            else ∃ m,m < n∧I m s₃) NoE s₂) NoE s₁') NoE s₁) NoE s) (n:Nat) (h:I n s) :
    codeAny (model prog w) A (.compLoop (.ListComp elt [⟨target,iter,ifs,0⟩] scope pos) 0 it acc env) R s:=by
  refine codeAny_loop rfl I (fun n s hI=>?_) n h
  refine wpAny_noted (m:=compTurn (.ListComp elt [⟨target,iter,ifs,0⟩] scope pos) 0 it acc env) ?_
  rw [compTurn_list]
  refine wpAny_bind (wpAny_standAt (wpAny_bind (wpAny_mono (turn n s hI) (fun r s₁ h₁=>?_) fun _ _ f=>f.elim)))
  cases r with
  | none=>exact wpAny_pure h₁
  | some v =>
    refine wpAny_bind (wpAny_mono h₁ (fun _ s₁' h₁'=>?_) fun _ _ f=>f.elim)
    refine wpAny_bind (wpAny_mono h₁' (fun _ s₂ h₂=>wpAny_bind (wpAny_mono h₂ (fun ok s₃ h₃=>?_) fun _ _ f=>f.elim)) fun _ _ f=>f.elim)
    cases ok with
    | false=>exact wpAny_pure ⟨rfl,h₃⟩
    | true =>
      exact wpAny_bind (wpAny_bind (wpAny_mono h₃ (fun x s₄ h₄=>wpAny_bind (wpAny_mono h₄ (fun _ s₅ h₅=>wpAny_pure (wpAny_pure ⟨rfl,h₅⟩)) fun _ _ f=>f.elim)) fun _ _ f=>f.elim))
end
noncomputable def nO (cl cells:List (Str×Addr)):List (Str×NameKind)→Prop
  | []=>True
  | (n,k) :: r=>(k= .free→∃ c,cl.lookup n=some c∧cells.lookup n=some c)∧nO cl cells r
noncomputable def yL (cells:List (Str×Addr)):List (Str×Addr)→Prop
  | []=>True
  | (n,c) :: r=>cells.lookup n=some c∧yL cells r
theorem yL.look {cells:List (Str×Addr)}:∀ {cl:List (Str×Addr)} {x:Str} {c:Addr},yL cells cl→cl.lookup x=some c→cells.lookup x=some c
  | [],_,_,_,h=>by cases h
  | (n,c') :: r,x,c,ok,h=>by
    cases hx:x == n with
    | true =>
      rw [List.lookup_cons,hx] at h
      cases h
      rw [beq_iff_eq.mp hx]; exact ok.1
    | false =>
      rw [List.lookup_cons,hx] at h
      exact yL.look ok.2 h
theorem nO.look {cl cells:List (Str×Addr)} {f:Str×NameKind→Str×NameKind} (hf:∀ y,(f y).1=y.1∧((f y).2= .cell∨(f y).2= .free→y.2= .cell∨y.2= .free)):∀ {names:List (Str×NameKind)} {x:Str},nO cl cells names→
    ((names.map f).lookup x=some .cell∨(names.map f).lookup x=some .free)→(∃ c,cl.lookup x=some c)∨(x,NameKind.cell)∈names
  | [],_,_,h=>by rcases h with h | h <;> cases h
  | (n, k) :: r,x,ok,h=>by
    have h1:=hf (n,k)
    rw [List.map_cons] at h
    cases hx:x == (f (n,k)).1 with
    | true =>
      have e:List.lookup x (f (n,k) :: r.map f)=some (f (n,k)).2:=by rw [List.lookup_cons,hx]
      rw [e] at h
      have hk:k= .cell∨k= .free:=h1.2 (h.imp Option.some.inj Option.some.inj)
      rcases hk with hk | hk
      · subst hk
        rw [beq_iff_eq.mp hx,h1.1]
        exact .inr (List.mem_cons_self ..)
      · obtain ⟨c,q,_⟩:=ok.1 hk
        rw [beq_iff_eq.mp hx,h1.1]; exact .inl ⟨c,q⟩
    | false =>
      have e:List.lookup x (f (n,k) :: r.map f)=List.lookup x (r.map f):=by rw [List.lookup_cons,hx]
      rw [e] at h
      exact (nO.look hf ok.2 h).imp_right fun z=>List.mem_cons_of_mem _ z
theorem cP:∀ (names:List (Str×NameKind)) (n:Nat) (acc:List (Str×Addr)),cellsFrom n names acc=cellsFrom n names [] ++ acc
  | [],_,_=>rfl
  | (y,k) :: r,n,acc=>by
    unfold cellsFrom
    split
    · rw [cP r (n + 1) ((y,n) :: acc),cP r (n + 1) [(y,n)],List.append_assoc]; rfl
    · exact cP r n acc
theorem eJ:∀ {names:List (Str×NameKind)} {n:Nat} {acc:List (Str×Addr)} {x:Str} {c:Addr},(x,c)∈cellsFrom n names acc→(x,c)∈acc∨((x,NameKind.cell)∈names∧n≤c)
  | [],_,_,_,_,h=>.inl h
  | (y, k) :: r,n,acc,x,c,h=>by
    unfold cellsFrom at h
    split at h
    · rename_i hk
      rcases eJ h with z | ⟨z,l⟩
      · rcases List.mem_cons.mp z with e | z
        · cases e; rw [beq_iff_eq.mp hk]; exact .inr ⟨List.mem_cons_self ..,Nat.le_refl _⟩
        · exact .inl z
      · exact .inr ⟨List.mem_cons_of_mem _ z,Nat.le_of_succ_le l⟩
    · rcases eJ h with z | ⟨z,l⟩
      · exact .inl z
      · exact .inr ⟨List.mem_cons_of_mem _ z,l⟩
theorem iZ:∀ {names:List (Str×NameKind)} {n:Nat} {acc:List (Str×Addr)} {x:Str},(x,NameKind.cell)∈names∨(∃ c,(x,c)∈acc)→∃ c,(x,c)∈cellsFrom n names acc
  | [],_,_,_,h=>by
    rcases h with h | h
    · cases h
    · exact h
  | (y, k) :: r,n,acc,x,h=>by
    unfold cellsFrom
    split
    · refine iZ ?_
      rcases h with h | ⟨c,h⟩
      · rcases List.mem_cons.mp h with e | h
        · cases e; exact .inr ⟨n,List.mem_cons_self ..⟩
        · exact .inl h
      · exact .inr ⟨c,List.mem_cons_of_mem _ h⟩
    · rename_i hk
      refine iZ (h.imp_left fun h=>?_)
      rcases List.mem_cons.mp h with e | h
      · cases e; exact absurd rfl hk
      · exact h
theorem EW {l:List (Str×Addr)} {x:Str}:(∃ c,(x,c)∈l)→∃ c,l.lookup x=some c:=by
  induction l with
  | nil=>rintro ⟨_,h⟩; cases h
  | cons p r ih =>
    rintro ⟨c,h⟩
    rw [List.lookup_cons]
    cases hb:x == p.1 with
    | true=>exact ⟨p.2,rfl⟩
    | false =>
      rcases List.mem_cons.mp h with e | h
      · rw [←e] at hb; rw [beq_self_eq_true] at hb; cases hb
      · exact ih ⟨c,h⟩
theorem eP {n:Nat} {names:List (Str×NameKind)} {cl:List (Str×Addr)} {x:Str} {c:Addr} (h:(cellsFrom n names cl).lookup x=some c):((x,c)∈cellsFrom n names []∧(x,NameKind.cell)∈names∧n≤c)∨cl.lookup x=some c:=by
  rw [cP,List.lookup_append] at h
  cases e:(cellsFrom n names []).lookup x with
  | none=>rw [e] at h; exact .inr h
  | some d =>
    rw [e] at h; cases h
    have m:=PySem.mem_of_lookup e
    rcases eJ m with z | z
    · cases z
    · exact .inl ⟨m,z⟩
theorem tX {n:Nat} {names:List (Str×NameKind)} {cl:List (Str×Addr)} {x:Str} {c:Addr} (hx:(x,NameKind.cell)∉ names) (h:cl.lookup x=some c):(cellsFrom n names cl).lookup x=some c:=by
  rw [cP,List.lookup_append]
  cases e:(cellsFrom n names []).lookup x with
  | none=>exact h
  | some d =>
    rcases eJ (PySem.mem_of_lookup e) with z | z
    · cases z
    · exact absurd z.1 hx
theorem zX {n:Nat} {names:List (Str×NameKind)} {cl:List (Str×Addr)} {x:Str} (h:(x,NameKind.cell)∈names):∃ c,(cellsFrom n names cl).lookup x=some c∧n≤c:=by
  obtain ⟨c,e⟩:=EW (iZ (n:=n) (acc:=[]) (.inl h))
  refine ⟨c,by rw [cP,List.lookup_append,e]; rfl, ?_⟩
  rcases eJ (PySem.mem_of_lookup e) with z | z
  · cases z
  · exact z.2
noncomputable def aK8 (scope:Scope) (x:Str):Bool:=scope.names.contains (x,NameKind.cell)
theorem DW {M:Model} {A:Around} {E:Value→Shared→Prop} {s:Shared} {scope:Scope} {globals:Addr} {cl:List (Str×Addr)} {qual:Str} {env:Env} {Q:Env→Shared→Prop}
    (hQ:Q (newEnv scope s.heap.objs.size globals (cellsFrom (s.heap.objs.size + 1) scope.names cl) qual none .none (some env) builtinsNs) { s with heap:=pushCells (s.heap.push { cls:=.type "dict",data:=.dict #[] }) scope.names }) :
    wpAny M A (newFunctionEnv scope globals cl [] qual none .none (some env)) Q E s:=by
  simp only [newFunctionEnv,Option.isSome_some,if_true]
  refine wpAny_bind (wpAny_alloc ?_)
  refine wpAny_bind (wpAny_layCells _ (fun name kind cells=>by cases hkc:kind == NameKind.cell <;> simp [hkc]) _ _ _ _ ?_)
  rw [show ({ s with heap:=s.heap.push { cls:=.type "dict",data:=.dict #[] } }:Shared).heap.objs.size=s.heap.objs.size + 1 from Heap.size_push ..]
  rw [List.forIn_nil]
  exact wpAny_bind (wpAny_pure (wpAny_pure hQ))
noncomputable def cxC (X:Cx) (N:List Str) (scope:Scope) (cl:List (Str×Addr)) (C:Addr) (s₀:Shared) (H₀:Hp) (ex:List Addr):Cx :=
  { X with N:=N,s₀:=s₀,H₀:=H₀,env:=compEnvC scope (cellsFrom (C + 1) scope.names cl) C X.env,outer:=X.stack,stack:=X.stack,ex:=ex,fn:=aK8 scope,pn:=[],xe:=NoE }
noncomputable def YL (js:List (Option Nat)) (σ:St):St:=js.map fun o=>match o with | none=>none | some j=>(σ[j]?).getD none
noncomputable def hX (X:Cx) (scope:Scope) (cl:List (Str×Addr)):List Str→List (Option Nat)→Prop
  | [],[]=>True
  | _ :: N,none :: J=>hX X scope cl N J
  | x :: N,some j :: J=>(X.N[j]? =some x∧X.env.kindOf x=some .cell∧(relabel scope X.env).names.lookup x=some .cell∧∃ c,cl.lookup x=some c∧X.env.cells.lookup x=some c)∧hX X scope cl N J
  | _,_=>False
theorem hX.len {X:Cx} {scope:Scope} {cl:List (Str×Addr)}:∀ {N:List Str} {J:List (Option Nat)},hX X scope cl N J→N.length=J.length
  | [],[],_=>rfl
  | _ :: _,none :: _,h=>congrArg (· + 1) (hX.len (show hX X scope cl _ _ from h))
  | _ :: _,some _ :: _,h=>congrArg (· + 1) (hX.len h.2)
  | [],_ :: _,h=>h.elim
  | _ :: _,[],h=>h.elim
theorem hX.at {X:Cx} {scope:Scope} {cl:List (Str×Addr)}:∀ {N:List Str} {J:List (Option Nat)} {i:Nat} {x:Str} {σ:St} {v:V},hX X scope cl N J→N[i]? =some x→(YL J σ)[i]? =some (some v)→
    ∃ (j:Nat),σ[j]? =some (some v)∧X.N[j]? =some x∧X.env.kindOf x=some .cell∧(relabel scope X.env).names.lookup x=some .cell∧∃ c,cl.lookup x=some c∧X.env.cells.lookup x=some c
  | [],[],_,_,_,_,_,h,_=>by cases h
  | y :: N,none :: J,i,x,σ,v,ok,h,q=>by
    cases i with
    | zero=>cases q
    | succ i=>exact hX.at (show hX X scope cl N J from ok) h q
  | y :: N,some j :: J,i,x,σ,v,ok,h,q=>by
    cases i with
    | zero =>
      cases h
      refine ⟨j, ?_,ok.1⟩
      have q':some ((σ[j]?).getD none)=some (some v):=q
      have q2:=Option.some.inj q'
      cases e:σ[j]? with
      | none=>rw [e] at q2; cases q2
      | some o=>rw [e] at q2; exact congrArg some q2
    | succ i=>exact hX.at ok.2 h q
  | [],_ :: _,_,_,_,_,ok,_,_=>ok.elim
  | _ :: _,[],_,_,_,_,ok,_,_=>ok.elim
section
variable {X:Cx} {pins:List (Addr×Obj)} {σ:St} {H:Hp} {s:Shared} {N:List Str} {scope:Scope} {cl:List (Str×Addr)} {js:List (Option Nat)} {fp:List Addr}
structure kC (X:Cx) (N:List Str) (scope:Scope) (cl:List (Str×Addr)) (js:List (Option Nat)):Prop where
  clos:closureFor scope X.env=pure cl
  own:∀ x,(x,NameKind.cell)∈scope.names→cl.lookup x=none
  kind:scope.kind= .function
  names:∀ y∈scope.names,y.2= .local→scope.names.lookup y.1=some .local
  free:nO cl X.env.cells scope.names
  cls:yL X.env.cells cl
  cap:hX X scope cl N js
theorem FB (S:kC X N scope cl js) (I:Inv X pins σ H s) (hf:∀ b∈fp,zH X pins H b) (he:∀ b∈fp,b < s.heap.objs.size) {h':Heap} {m:Str→Option Value} {t':Nat} (hn:h'.Ns s.heap.objs.size m)
    (k:∀ b o,s.heap.get? b=some o→h'.get? b=some o) (hc:CellsOk h' (s.heap.objs.size + 1) (cellsFrom (s.heap.objs.size + 1) scope.names [])):Inv (cxC X N scope cl s.heap.objs.size s H fp) [] (YL js σ) H { s with heap:=h',toks:=t' }:=by
  have hcl:∀ x c,cl.lookup x=some c→X.env.cells.lookup x=some c:=fun x c h=>S.cls.look h
  have lo:∀ x c,cl.lookup x=some c→c < s.heap.objs.size:=fun x c h=>let ⟨_,q⟩:=I.cell x c (hcl x c h); q.lt
  refine ⟨⟨I.mod, ?_,I.ok.glob,I.ok.blt,Nat.le_refl _,fun x y c a b=>?_,fun x hx=>?_,fun x c z e=>?_,I.ok.hd,I.ok.frames,.inl rfl,fun b hb=>⟨Nat.ne_of_lt (he b hb),fun x c e=>?_⟩,
    I.bs,Nat.le_trans I.ok.bsz I.sz,fun b o e hb=>?_,fun b hb z=>?_,I.stack,I.stkFree⟩,rfl,I.bare,⟨fun b o q _ _ _=>k b o q,fun b o q _ _ _=>⟨o.slots,k b o q⟩,fun _ _ _ n _=>n,fun b o q _=>⟨o,k b o q⟩,fun _ _ q=>q,fun _ _ _ q=>q,fun b ps q=>⟨#[],by rw [show H b=_ from q]; simp⟩⟩, ?_,fun x c e=>?_, ?_,fun x c e=>?_,(fun p hp=>nomatch hp),I.hok.kept k, ?_⟩
  · exact S.kind
  · rcases eP a with ⟨m1,_,l1⟩ | a1 <;> rcases eP b with ⟨m2,_,l2⟩ | b1
    · exact name_of_addr hc.apart m1 m2
    · exact absurd (Nat.lt_of_lt_of_le (lo y c b1) (Nat.le_of_succ_le l1)) (Nat.lt_irrefl _)
    · exact absurd (Nat.lt_of_lt_of_le (lo x c a1) (Nat.le_of_succ_le l2)) (Nat.lt_irrefl _)
    · exact I.ok.inj x y c (hcl x c a1) (hcl y c b1)
  · have q:=nO.look (f:=fun y=>if (y.2 == .free && X.env.scope.kind == .function && X.env.kindOf y.1 == some .cell) then (y.1,.cell) else (y.1,y.2)) (fun y=>by
      by_cases hc:(y.2 == .free && X.env.scope.kind == .function && X.env.kindOf y.1 == some .cell)=true
      · rw [if_pos hc]
        refine ⟨rfl,fun _=>.inr ?_⟩
        rw [Bool.and_eq_true,Bool.and_eq_true] at hc
        exact beq_iff_eq.mp hc.1.1
      · rw [if_neg hc]
        exact ⟨rfl,fun z=>z⟩) S.free hx
    rcases q with ⟨c,q⟩ | q
    · refine ⟨c,tX (fun z=>?_) q⟩
      rw [S.own x z] at q; cases q
    · obtain ⟨c,e,_⟩:=zX (n:=s.heap.objs.size + 1) (cl:=cl) q
      exact ⟨c,e⟩
  · have z':(x,NameKind.cell)∈scope.names:=List.contains_iff_mem.mp z
    rcases eP e with ⟨_,_,l⟩ | q
    · exact Nat.le_of_succ_le l
    · rw [S.own x z'] at q; cases q
  · rcases eP e with ⟨_,_,l⟩ | q
    · exact Nat.ne_of_gt (Nat.lt_of_lt_of_le (he b hb) (Nat.le_of_succ_le l))
    · exact (hf b hb).2.2.2.2.1 x c (hcl x c q)
  · obtain ⟨_,n2⟩:=I.bs b o e
    rcases (hf b hb).2.2.2.1 with z | z
    · exact I.ok.noex b o e z
    · exact absurd (Nat.lt_of_lt_of_le (Heap.lt_size (I.ok.bs b o e).1) z) (Nat.lt_irrefl _)
  · obtain ⟨_,f1,f2,_⟩:=hf b hb
    exact (List.mem_cons.mp (I.stkSub b z)).elim f1 f2
  · obtain ⟨mX,hnX,hl⟩:=I.loc
    refine ⟨m,hn,fun i x v e1 e2 e3=>?_⟩
    obtain ⟨j,q1,q2,q3,q4,c,q5,q6⟩:=S.cap.at e1 e2
    obtain ⟨u,r,l⟩:=hl j x v q2 q1 (.inr (.inl q3))
    refine ⟨u,r,.inr ⟨.inl q4,c,tX (fun z=>?_) q5, ?_⟩⟩
    · rw [S.own x z] at q5; cases q5
    rcases l with ⟨l,_⟩ | ⟨_,c',e',z⟩
    · rw [q3] at l; cases l
    · rw [q6] at e'; cases e'
      obtain ⟨o,ho,hd⟩:=z
      exact ⟨o,k _ _ ho,hd⟩
  · rcases eP e with ⟨m1,_,_⟩ | q
    · exact ⟨none,(hc.empty x c m1).1⟩
    · obtain ⟨v,o,ho,hd⟩:=I.cell x c (hcl x c q)
      exact ⟨v,o,k _ _ ho,hd⟩
  · exact I.hok.fresh (Nat.le_refl _)
  · rcases eP e with ⟨_,_,l⟩ | q
    · exact I.hok.fresh (Nat.le_of_succ_le l)
    · exact I.freeC x c (hcl x c q)
  · show (js.map _).length=N.length
    rw [List.length_map]; exact S.cap.len.symm
end
noncomputable def PTs (X:Cx) (ifs:List Expr) (t:TT):Prop :=
  ∀ (pins:List (Addr×Obj)) (s:Shared) (σ:St) (H:Hp) (Q:Bool→Hp→Prop),Inv X pins σ H s→t σ H Q→
    wpAny (model X.prog X.w) X.A (forIn ifs true fun c r=>if r=true then do let ok ←isTrue c X.env (eval c X.env); pure (ForInStep.yield ok) else pure (ForInStep.yield r)) (TP X pins σ Q) X.xe s
theorem aC0 {X:Cx}:PTs X [] (fun _ H Q=>Q true H):=fun pins s σ H Q I h=>wpAny_tests_nil ⟨H,I,h⟩
theorem aBR {X:Cx} {c:Expr} {t:TT} (h:PT X c t):PTs X [c] t:=fun pins s σ H Q I q=>wpAny_tests_one (h pins s σ H Q I q)
noncomputable def XG (J:It) (D:Addr) (g:TG) (ts:TT) (te:TE) (Q:VK) (σ:St) (H:Hp):Prop:= ∃ W:Nat→Nat→St→Hp→Prop,(∃ m,W 0 m σ H)∧∀ i m σ' H',W i m σ' H'→
  (J.stop i H'∧Q (.ref D) H')∨(J.go i H'∧∃ N:St→Hp→Prop,(∀ σ2 H2,N σ2 H2→∃ m',m' < m∧W (i + 1) m' σ2 H2)∧∀ x H2,J.yld i H' x H2→g x σ' H2 fun σ3 H3=>ts σ3 H3 fun ok H4=>if ok=true then te σ3 H4 fun y H5 =>
    ∃ ys,H5 D=some (.lst ys)∧ys.length < sizeLine∧N σ3 (upd H5 D (.lst (ys ++ [y]))) else N σ3 H4)
noncomputable def aA9 (wi:TI) (g:TG) (ts:TT) (te:TE) (js:List (Option Nat)):TE:=fun σ H Q=>wi σ H fun J H1=>∀ D,H1 D=none→XG J D g ts te Q (YL js σ) (upd H1 D (.lst []))
section
variable {X:Cx} {pins:List (Addr×Obj)} {σ:St} {H:Hp} {s:Shared} {N:List Str} {scope:Scope} {cl:List (Str×Addr)} {js:List (Option Nat)} {fp:List Addr} {tg elt iter:Expr} {ifs:List Expr} {pos:Pos} {J:It} {it:Addr} {tn:Nat→Heap→Prop}
  {g:TG} {ts:TT} {te:TE}
structure aFR (X:Cx) (pins:List (Addr×Obj)) (σ:St) (Q:VK) (D C:Addr) (s':Shared):Prop where
  ex:∃ H' m,Inv X pins σ H' s'∧s'.heap.Ns C m∧H' C=none∧C≠X.env.locals∧C∉ X.fs∧X.s₀.heap.objs.size≤C∧(∀ x c,X.env.cells.lookup x=some c→c≠C)∧(∀ p∈X.pn ++ pins,p.1≠C)∧Q (.ref D) H'
theorem GU (S:kC X N scope cl js) (hc:X.calm=true) (I:Inv X pins σ H s) (T:OS X.prog X.w X.K tg J fp it tn) (st:tn 0 s.heap) (hf:∀ b∈fp,zH X pins H b)
    (hg:∀ C s₀ H₀ ex,PG (cxC X N scope cl C s₀ H₀ ex) tg g) (ht:∀ C s₀ H₀ ex,PTs (cxC X N scope cl C s₀ H₀ ex) ifs ts) (he:∀ C s₀ H₀ ex,PE (cxC X N scope cl C s₀ H₀ ex) elt te) {Q:VK}
    (q:∀ D,H D=none→XG J D g ts te Q (YL js σ) (upd H D (.lst [])))
    {RR:Value→Addr→Result→Shared→Prop} (hR:∀ D C s',aFR X pins σ Q D C s'→RR (.ref D) C (.ok .next) s') {E:Value→Shared→Prop} :
    wpAny (model X.prog X.w) X.A (newList []) (fun acc s₃=>wpAny (model X.prog X.w) X.A (newFunctionEnv scope X.env.globals cl [] X.env.qual none .none (some X.env)) (fun cenv s₄ =>
      codeAny (model X.prog X.w) X.A (.compStart (.ListComp elt [⟨tg,iter,ifs,0⟩] scope pos) 0 (.ref it) acc { cenv with scope:=relabel scope X.env }) (RR acc cenv.locals) s₄) E s₃) E s:=by
  refine wpAny_newObj_type (DW ?_)
  have fD:H s.heap.objs.size=none:=I.hok.fresh (Nat.le_refl _)
  have I3:Inv X pins σ (upd H s.heap.objs.size (.lst [])) { s with heap:=s.heap.push { cls:=.type "list",dict:=none,data:=.seq ([]:List Value).toArray },toks:=s.toks } :=
    I.laid (t':=s.toks) (fun b u e=>Heap.get?_push_of_some _ e) (Nat.le_refl _) ⟨Nat.zero_le _,[],0,.nil,Heap.get?_push_size _ rfl⟩
  have lt:∀ b∈fp,b < s.heap.objs.size:=fun b hb=>let ⟨o,e,_⟩:=T.obj _ _ st b hb; Heap.lt_size e
  have hf3:∀ b∈fp,zH X pins (upd H s.heap.objs.size (.lst [])) b:=fun b hb=>⟨by rw [aH (Nat.ne_of_lt (lt b hb))]; exact (hf b hb).1,(hf b hb).2⟩
  dsimp only
  generalize hH2:s.heap.push { cls:=.type "list",dict:=none,data:=.seq ([]:List Value).toArray }=H2 at I3 ⊢
  have hns₁:(pushCells (H2.push { cls:=.type "dict",data:=.dict #[] }) scope.names).Ns H2.objs.size (fun _=>none):=(Heap.Ns.new H2 (.type "dict")).keeps (pushCells_keeps _ _)
  have hco:CellsOk (pushCells (H2.push { cls:=.type "dict",data:=.dict #[] }) scope.names) (H2.objs.size + 1) (cellsFrom (H2.objs.size + 1) scope.names []):=by
    have ok:=cellsFrom_ok scope.names (H2.push { cls:=.type "dict",data:=.dict #[] }) (H2.objs.size + 1) [] ⟨fun _ _ hm=>(nomatch hm),List.Pairwise.nil⟩ (by rw [Heap.size_push]; exact Nat.le_refl _)
    rw [Heap.size_push] at ok
    exact ok
  have keep:∀ b o,H2.get? b=some o→(pushCells (H2.push { cls:=.type "dict",data:=.dict #[] }) scope.names).get? b=some o:=fun b o e=>pushCells_keeps _ _ b o (Heap.get?_push_of_some _ e)
  generalize pushCells (H2.push { cls:=.type "dict",data:=.dict #[] }) scope.names=h₁ at hns₁ hco keep ⊢
  have hC:H2.objs.size=s.heap.objs.size + 1:=by rw [←hH2,Heap.size_push]
  have Ic:=FB (t':=s.toks) S I3 hf3 (fun b hb=>by show b < H2.objs.size; rw [hC]; exact Nat.lt_succ_of_lt (lt b hb)) hns₁ keep hco
  obtain ⟨W,⟨m0,w0⟩,turn⟩:=q _ fD
  have stat:∀ {H':Hp},(∀ b∈fp,H' b=none)→∀ b∈fp,zH (cxC X N scope cl H2.objs.size { s with heap:=H2,toks:=s.toks } (upd H s.heap.objs.size (.lst [])) fp) [] H' b:=fun hn b hb =>
    ⟨hn b hb,Nat.ne_of_lt (by rw [hC]; exact Nat.lt_succ_of_lt (lt b hb)),fun z=>(List.mem_cons.mp (I.stkSub b z)).elim (hf b hb).2.1 (hf b hb).2.2.1,.inl hb,fun x c e=>(eP e).elim (fun z=>Nat.ne_of_gt (Nat.lt_of_lt_of_le (lt b hb) (Nat.le_trans (by rw [hC]; omega) z.2.2))) fun q=>(hf b hb).2.2.2.2.1 x c (S.cls.look q),(fun p hp=>nomatch hp)⟩
  have st1:tn 0 h₁:=T.keep _ _ _ st fun b hb o e=>keep b o (by rw [←hH2]; exact Heap.get?_push_of_some _ e)
  have loop:codeAny (model X.prog X.w) X.A (.compLoop (.ListComp elt [⟨tg,iter,ifs,0⟩] scope pos) 0 (.ref it) (.ref s.heap.objs.size) (compEnvC scope (cellsFrom (H2.objs.size + 1) scope.names cl) H2.objs.size X.env)) (RR (.ref s.heap.objs.size) H2.objs.size)
      { s with heap:=h₁,toks:=s.toks }:=by
    refine QW (fun n s'=>∃ i σ' H',Inv (cxC X N scope cl H2.objs.size { s with heap:=H2,toks:=s.toks } (upd H s.heap.objs.size (.lst [])) fp) [] σ' H' s'∧tn i s'.heap∧(∀ b∈fp,H' b=none)∧W i n σ' H') ?_ m0
      ⟨0,_,_,Ic,st1,fun b hb=>(hf3 b hb).1,w0⟩
    rintro n s3 ⟨i,σ3,H3,I3',st3,fr3,w3⟩
    rcases turn i n σ3 H3 w3 with ⟨stop,qn⟩ | ⟨go,Nx,hN,step⟩
    · refine thn (T.done (cxC X N scope cl H2.objs.size { s with heap:=H2,toks:=s.toks } (upd H s.heap.objs.size (.lst [])) fp) rfl rfl rfl hc i [] s3 σ3 H3 NoE I3' (stat fr3) st3 stop) fun r s4 ⟨hr,I4⟩=>?_
      subst hr
      obtain ⟨mC,hnC,_⟩:=I4.loc
      have IX:Inv X pins σ H3 s4:=I3.call' (ch:=fp) I4.os I4.base I4.hok I4.bare fun b hb=>by
        obtain ⟨_,f1,_,f3,f4,f5⟩:=hf3 b hb
        exact ⟨f3,f1,f4,f5⟩
      have up:s.heap.objs.size≤H2.objs.size:=by rw [hC]; exact Nat.le_succ _
      have fp0:=I.fpOk (H':=H3) up I4.free
      exact hR _ _ s4 ⟨⟨H3,mC,IX,hnC,I4.free,fp0.2.1,fp0.2.2.1,Nat.le_trans I.sz up,fp0.2.2.2.2.1,fp0.2.2.2.2.2,qn⟩⟩
    · refine thn (T.item (cxC X N scope cl H2.objs.size { s with heap:=H2,toks:=s.toks } (upd H s.heap.objs.size (.lst [])) fp) rfl rfl rfl hc i [] s3 σ3 H3 NoE I3' (stat fr3) st3 go) fun r s4 ⟨u,hr,h4⟩=>?_
      subst hr
      refine thn h4 fun _ s5 ⟨x,H5,I5,r5,y5,st5,fr5⟩=>?_
      have I5':=I5.pinned (stat fr5) (T.obj _ _ st5)
      refine thn (hg _ _ _ _ _ s5 σ3 H5 x u _ I5' r5 (step x H5 y5)) fun _ s6 ⟨σ6,H6,I6,q6⟩=>?_
      refine thn (ht _ _ _ _ _ s6 σ6 H6 _ I6 q6) fun ok s7 ⟨H7,I7,q7⟩=>?_
      have again:∀ {σ8:St} {H8:Hp} {s8:Shared},Inv (cxC X N scope cl H2.objs.size { s with heap:=H2,toks:=s.toks } (upd H s.heap.objs.size (.lst [])) fp) ([] ++ yA fp s5.heap) σ8 H8 s8→Nx σ8 H8→
          ∃ m,m < n∧∃ i σ' H',Inv (cxC X N scope cl H2.objs.size { s with heap:=H2,toks:=s.toks } (upd H s.heap.objs.size (.lst [])) fp) [] σ' H' s8∧tn i s8.heap∧(∀ b∈fp,H' b=none)∧W i m σ' H':=fun {σ8 H8 s8} I8 n8=>by
        obtain ⟨m',hm,w8⟩:=hN σ8 H8 n8
        refine ⟨m',hm,i + 1,σ8,H8,I8.unpinned,T.keep _ _ _ st5 fun b hb o e=>(I8.pin (b,o) (List.mem_append_right _ (List.mem_append_right _ (kH hb e)))).1,fun b hb=>?_,w8⟩
        obtain ⟨o,e,d⟩:=T.obj _ _ st5 b hb
        exact (I8.pin (b,o) (List.mem_append_right _ (List.mem_append_right _ (kH hb e)))).2.1
      cases ok with
      | false=>exact again I7 q7
      | true =>
        refine thn (he _ _ _ _ _ s7 σ6 H7 _ I7 q7) fun v s8 ⟨y,H8,I8,r8,ys,e8,l8,q8⟩=>?_
        exact thn (AH _ s8 σ6 H8 (.ref s.heap.objs.size) [y] (.ref s.heap.objs.size) [v] (fun _ H9=>Nx σ6 H9) I8 rfl (.cons r8 .nil) ⟨_,ys,y,rfl,rfl,e8,l8,q8⟩) fun _ s9 ⟨_,H9,I9,_,q9⟩=>again I9 q9
  exact codeAny_compStart_list loop (T.self _ 0 _ _ _ st1 loop)
theorem aB6 {wi:TI} (S:kC X N scope cl js) (hc:X.calm=true) (hi:PI X tg iter wi) (hg:∀ C s₀ H₀ ex,PG (cxC X N scope cl C s₀ H₀ ex) tg g) (ht:∀ C s₀ H₀ ex,PTs (cxC X N scope cl C s₀ H₀ ex) ifs ts) (he:∀ C s₀ H₀ ex,PE (cxC X N scope cl C s₀ H₀ ex) elt te)
    (hs:∀ x,foldedSetIterable iter X.env x=pure x:=by intro _; rfl):PE X (.ListComp elt [⟨tg,iter,ifs,0⟩] scope pos) (aA9 wi g ts te js):=by
  intro pins s σ H Q I h
  rw [eval_ListComp]
  refine wpAny_comprehension_free (use:=none) (g:=⟨tg,iter,ifs,0⟩) (gs:=[]) rfl hs S.clos S.kind S.names (thn (hi pins s σ H _ I h) fun v s1 h1=>thn h1 fun itv s2 h2=>?_)
  obtain ⟨it,fp,tn,J,H2,e,I2,T,st2,f2,q⟩:=h2
  subst e
  refine GU (RR:=fun acc C=>compPost (model X.prog X.w) X.A X.xe none (EP X pins σ Q) acc C) S hc I2 T st2 f2 hg ht he q ?_
  rintro D C s' ⟨H',m,I',hn,f0,f1,_,f3,f4,f5,q'⟩
  exact ⟨m,hn,fun h' sb=>⟨.ref D,H',I'.turned (t':=s'.toks) (fun b o hb e=>(sb.2 b hb).trans e) f0 f1 (.inr f3) f4 f5,rfl,q'⟩⟩
theorem aCw {wi:TI} {i:Nat} {y:Str} {py spos:Pos} (S:kC X N scope cl js) (hc:X.calm=true) (hN:X.N.Nodup) (hi':X.N[i]? =some y) (hy:X.env.scope.names.lookup y=some .local) (hi:PI X tg iter wi)
    (hg:∀ C s₀ H₀ ex,PG (cxC X N scope cl C s₀ H₀ ex) tg g) (ht:∀ C s₀ H₀ ex,PTs (cxC X N scope cl C s₀ H₀ ex) ifs ts) (he:∀ C s₀ H₀ ex,PE (cxC X N scope cl C s₀ H₀ ex) elt te)
    (hsw:swapsWith (.ListComp elt [⟨tg,iter,ifs,0⟩] scope pos) (some (.Name y py)) spos.line X.env=pure true:=by rfl)
    (hs:∀ x,foldedSetIterable iter X.env x=pure x:=by intro _; rfl):PS X (.Assign [.Name y py] (.ListComp elt [⟨tg,iter,ifs,0⟩] scope pos) spos) (aFO (aA9 wi g ts te js) (XY i)):=by
  intro pins s σ H D' I h
  rw [exec_Assign_Name_used _ _ _ _ hsw]
  refine wpAny_bind (wpAny_standAt (wpAny_bind ?_))
  show wpAny _ X.A (do let _ ←comprehension (.ListComp elt [⟨tg,iter,ifs,0⟩] scope pos) scope X.env _ (newList []) false (eval iter X.env) (some (assign (.Name y py) X.env))) _ _ s
  refine wpAny_bind (wpAny_mono (wpAny_comprehension_free (use:=some (assign (.Name y py) X.env)) (g:=⟨tg,iter,ifs,0⟩) (gs:=[]) (Q:=fun _ s'=>SP X pins D' .next s') rfl hs S.clos S.kind S.names
    (thn (hi pins s σ H _ I h) fun v s1 h1=>thn h1 fun itv s2 h2=>?_)) (fun _ s' hq=>wpAny_pure (wpAny_pure hq)) fun _ _ e=>e)
  obtain ⟨it,fp,tn,J,H2,e,I2,T,st2,f2,q⟩:=h2
  subst e
  refine GU (Q:=fun x H1=>XY i x σ H1 D'.nx) (RR:=fun acc C=>compPost (model X.prog X.w) X.A X.xe (some (assign (.Name y py) X.env)) (fun _ s'=>SP X pins D' .next s') acc C) S hc I2 T st2 f2 hg ht he q ?_
  rintro D C s' ⟨H',m,I',hn,f0,f1,f2',f3,f4,f5,q'⟩
  obtain ⟨oC,es,ep,hoC,hdC,hrC⟩:=hn
  have Ip:Inv X (pins ++ [(C,oC)]) σ H' s':=I'.pins_of fun p hp=>(List.mem_append.mp hp).elim (fun z=>I'.pin p (List.mem_append_right _ z)) fun z=>by
    rw [List.mem_singleton.mp z]
    exact ⟨hoC,f0,f1,f2',fun v z=>by rw [hdC] at z; cases z⟩
  show wpAny _ X.A (assign (.Name y py) X.env (.ref D)) _ _ _
  refine thn (OC (i:=i) hN hi' (.inl hy) (.inr hy) _ s' σ H' (.ref D) (.ref D) _ Ip rfl q') fun _ s'' ⟨σ',H'',I'',q''⟩=>?_
  have pc:=I''.pin (C,oC) (List.mem_append_right _ (List.mem_append_right _ (List.mem_singleton.mpr rfl)))
  refine ⟨m,⟨oC,es,ep,pc.1,hdC,hrC⟩,fun h' sb=>⟨σ',H'', ?_,q''⟩⟩
  exact (I''.unpinned).turned (t':=s''.toks) (fun b o hb e=>(sb.2 b hb).trans e) pc.2.1 f1 (.inr f3) f4 f5
end
mutual
inductive RdD (H:Hp):V→PyData→Prop
  | non:RdD H .non .none
  | bl (b:Bool):RdD H (.bl b) (.bool b)
  | int (i:Int):RdD H (.int i) (.int i)
  | str (x:Str):RdD H (.str x) (.str x)
  | tup {a:Addr} {xs:List V} {ds:List PyData}:H a=some (.tup xs)→RdDs H xs ds→RdD H (.ref a) (.tuple ds)
  | lst {a:Addr} {xs:List V} {ds:List PyData}:H a=some (.lst xs)→RdDs H xs ds→RdD H (.ref a) (.list ds)
inductive RdDs (H:Hp):List V→List PyData→Prop
  | nil:RdDs H [] []
  | cons {x:V} {xs:List V} {d:PyData} {ds:List PyData}:RdD H x d→RdDs H xs ds→RdDs H (x :: xs) (d :: ds)
end
section
variable {P:Program} {w:World} {H H':Hp} {h:Heap}
mutual
theorem RdD.reads (ok:HOk P w H h):∀ {x:V} {d:PyData} {u:Value},RdD H x d→aL x u→∃ as,Reads h u d as
  | _,_,_,.non,r=>⟨[],by cases r; exact .none⟩
  | _,_,_,.bl b,r=>⟨[],by cases r; exact .bool b⟩
  | _,_,_,.int i,r=>⟨[],by obtain ⟨t,rfl⟩:=r; exact .int i t⟩
  | _,_,_,.str x,r=>⟨[],by obtain ⟨t,rfl⟩:=r; exact .str x t⟩
  | _,_,_,.tup e rs,r=>by
    cases r
    obtain ⟨_,its,rv,⟨o,ho,hc,n,hd⟩,_⟩:=ok _ _ e
    obtain ⟨as,q⟩:=RdDs.reads ok rs rv
    exact ⟨as,.tuple ho hc hd (by simpa using q)⟩
  | _,_,_,.lst e rs,r=>by
    cases r
    obtain ⟨_,its,n,rv,ho⟩:=ok _ _ e
    obtain ⟨as,q⟩:=RdDs.reads ok rs rv
    exact ⟨_ :: as,.list ho rfl rfl (by simpa using q)⟩
theorem RdDs.reads (ok:HOk P w H h):∀ {xs:List V} {ds:List PyData} {us:List Value},RdDs H xs ds→aI xs us→∃ as,ReadsAll h us ds as
  | _,_,_,.nil,r=>⟨[],by cases r; exact .nil⟩
  | _, _,_,.cons a b,r=>by
    cases r with
    | cons r1 r2 =>
      obtain ⟨as,q⟩:=RdD.reads ok a r1
      obtain ⟨bs,q2⟩:=RdDs.reads ok b r2
      exact ⟨as ++ bs,.cons q q2⟩
end
mutual
theorem RdD.same (s:aQ H H'):∀ {x:V} {d:PyData},RdD H x d→RdD H' x d
  | _,_,.non=>.non
  | _,_,.bl b=>.bl b
  | _,_,.int i=>.int i
  | _,_,.str x=>.str x
  | _,_,.tup e rs=>.tup (s _ _ e) (RdDs.same s rs)
  | _,_,.lst e rs=>.lst (s _ _ e) (RdDs.same s rs)
theorem RdDs.same (s:aQ H H'):∀ {xs:List V} {ds:List PyData},RdDs H xs ds→RdDs H' xs ds
  | _,_,.nil=>.nil
  | _,_,.cons a b=>.cons (RdD.same s a) (RdDs.same s b)
end
end
section
variable {X:Cx}
end
section
variable {X:Cx} {CX:CXT} {k:Nat} {f C:Addr} {fd:FuncData} {ps ks:List Str} {sp:Sp} {E:XK} {pins:List (Addr×Obj)} {σ:St} {H:Hp} {s:Shared} {Q:VK} {us:List Value} {vs:List V} {dvs:List V} {ds:List Value}
theorem wV {A':Around} (F:bS X.prog X.w X.K X.mg X.base CX k f fd ps sp) (hr:bE k A') (e0:uM X.prog X.w X.K X.mg X.base A' X.stack s H) (hb:aE X.K fd ps ds) (hd:aI dvs ds) (hx:tS CX X E)
    (I:Inv X pins σ H s) (r:aI vs us) (h:sp (vs ++ dvs) H Q E):wpAny (model X.prog X.w) A' (call (.ref f) us) (EP X pins σ Q) X.xe s:=by
  have r2:aI (vs ++ dvs) (us ++ ds):=r.append hd
  have hl:(us ++ ds).length=ps.length:=by rw [←r2.length]; exact F.len _ _ _ _ h
  refine wpAny_call (codeAny_mono (F.run A' X.stack s H ⟨us,[]⟩ (us ++ ds) (vs ++ dvs) Q E hr e0 (hb s us I.kIn hl) r2 h) fun r s' hq=>?_)
  cases r with
  | error e=>exact hx pins σ H s e s' I hq
  | ok fl =>
    cases fl with
    | ret u=>exact I.after hq
    | next=>exact False.elim hq
    | brk=>exact False.elim hq
    | cont=>exact False.elim hq
theorem bE.in2 {k:Nat} {A:Around} (r:bE (k + 2) A):bE k A.in1.in1:=(bE.in1 (bE.in1 r))
end
structure aCN (K:W.Frag) (C:Addr):Prop where
  cl:Cls K C
  ha:W.findIn K (.ref C) "__class__"=some (some (.builtin "object.__class__"))
  hn:W.specialIn K (.builtin "object.__class__") "__get__"=some (some (.builtin "getset_descriptor.__get__"))
  htk:W.takesIn K (.builtin "object.__class__")=some true
  hm:W.mroIn K C (.type "object")=some true
theorem mS {X:Cx} {pins:List (Addr×Obj)} {σ:St} {H:Hp} {s:Shared} {p C dx:Addr} {fs:List (Str×V)} (I:Inv X pins σ H s) (e:H p=some (.ins C dx fs)):∃ od,W.InstAt s.heap p (W.instObj C dx) C (some od):=by
  obtain ⟨mA,O,_⟩:=vQ I.hok e
  obtain ⟨od,J,_⟩:=O.look
  exact ⟨od,J⟩
section
variable {X:Cx} {CX:CXT} {k:Nat} {f C:Addr} {fd:FuncData} {sp:Sp}
noncomputable def aIR (C:Addr) (sp:Sp):List V→Hp→VK→Prop:=fun xs H Q=>∃ p dx fs,xs=[.ref p]∧H p=some (.ins C dx fs)∧sp [.ref p] H (fun v H'=>∃ n,v= .int n∧0≤n∧n < 2 ^ 63∧Q (.int n) H') E0
theorem QE (M:lL X.K C "__len__" f) (F:bS X.prog X.w X.K X.mg X.base CX0 k f fd ["self"] sp) (hr:bE (k + 1) X.A) (hb:aE X.K fd ["self"] []):bF X (.builtin "len") (aIR C sp):=by
  intro pins s σ H xs us Q I r ⟨p,dx,fs,e,ea,q⟩
  subst e
  obtain ⟨u,rfl,ru⟩:=iC r
  cases ru
  obtain ⟨od,J⟩:=mS I ea
  obtain ⟨m,Fm⟩:=I.fr
  refine W.len_K Fm I.ok.mod.kin J M.at_ M.fn (thn (wV (dvs:=[]) (ds:=[]) (vs:=[.ref p]) F hr.in1 I.env0.in1 hb .nil xX I (.cons rfl .nil) q) fun v s' ⟨x,H',I',rx,n,e,h0,h1,q'⟩=>?_)
  subst e
  obtain ⟨t,rfl⟩:=rx
  exact ⟨⟨h0,h1⟩,.int n,H',I'.tok _,⟨_,rfl⟩,q'⟩
noncomputable def aDE (C:Addr) (sp:Sp):List V→Hp→VK→Prop:=fun xs H Q=>∃ p dx fs,xs=[.ref p]∧H p=some (.ins C dx fs)∧sp [.ref p] H (fun v H'=>∃ x,v= .str x∧Q (.str x) H') E0
theorem HU (M:lL X.K C "__repr__" f) (F:bS X.prog X.w X.K X.mg X.base CX0 k f fd ["self"] sp) (hr:bE (k + 1) X.A) (hb:aE X.K fd ["self"] []):bF X (.builtin "repr") (aDE C sp):=by
  intro pins s σ H xs us Q I r ⟨p,dx,fs,e,ea,q⟩
  subst e
  obtain ⟨u,rfl,ru⟩:=iC r
  cases ru
  obtain ⟨od,J⟩:=mS I ea
  obtain ⟨m,Fm⟩:=I.fr
  refine W.repr_K hr.in1.units0 Fm I.ok.mod.kin J M.at_ M.fn (thn (wV (dvs:=[]) (ds:=[]) (vs:=[.ref p]) F hr.in1 I.env0.in1 hb .nil xX I (.cons rfl .nil) q) fun v s' ⟨x,H',I',rx,y,e,q'⟩=>?_)
  subst e
  obtain ⟨t,rfl⟩:=rx
  exact ⟨.str y,H',I',⟨_,rfl⟩,q'⟩
theorem RD (M:lL X.K C "__str__" f) (F:bS X.prog X.w X.K X.mg X.base CX0 k f fd ["self"] sp) (hr:bE (k + 2) X.A) (hb:aE X.K fd ["self"] []):bF X (.type "str") (aDE C sp):=by
  intro pins s σ H xs us Q I r ⟨p,dx,fs,e,ea,q⟩
  subst e
  obtain ⟨u,rfl,ru⟩:=iC r
  cases ru
  obtain ⟨od,J⟩:=mS I ea
  refine W.kso_call hr.in2.units0 I.kIn J M.at_ M.fn (thn (wV (dvs:=[]) (ds:=[]) (vs:=[.ref p]) F hr.in2 I.env0.in1.in1 hb .nil xX I (.cons rfl .nil) q) fun v s' ⟨x,H',I',rx,y,e,q'⟩=>?_)
  subst e
  obtain ⟨t,rfl⟩:=rx
  exact ⟨.str y,H',I',⟨_,rfl⟩,q'⟩
theorem aLY {A':Around} {pins:List (Addr×Obj)} {σ:St} {H:Hp} {s:Shared} {p dx:Addr} {fs:List (Str×V)} {Q:Bool→Hp→Prop} (hB:W.findIn X.K (.ref C) "__bool__"=some none) (M:lL X.K C "__len__" f)
    (F:bS X.prog X.w X.K X.mg X.base CX0 k f fd ["self"] sp) (hr:bE k A'.in1) (e0:uM X.prog X.w X.K X.mg X.base A'.in1 X.stack s H) (hb:aE X.K fd ["self"] []) (I:Inv X pins σ H s) (ea:H p=some (.ins C dx fs))
    (q:sp [.ref p] H (fun v H'=>∃ n,v= .int n∧0≤n∧n < 2 ^ 63∧Q (n != 0) H') E0):wpAny (model X.prog X.w) A' (truthy (.ref p)) (TP X pins σ Q) X.xe s:=by
  obtain ⟨od,J⟩:=mS I ea
  have XK:=I.kIn
  unfold truthy
  refine wpAny_bind (m:=callSpecial? (.ref p) (Str.ofString "__bool__")) (wpAny_bind (wpAny_bind (J.type.here ((W.looks_findIn XK hB).here (wpAny_pure ?_)))))
  refine wpAny_bind (wpAny_bind (J.type.here ((W.looks_findIn XK M.at_).here ?_)))
  show wpAny _ _ (if (some (Value.ref f)).isNone=true then _ else _) _ _ _
  rw [if_neg (by simp)]
  refine wpAny_bind (wpAny_mono (Q:=fun r s'=>∃ n t,r=Value.int n t∧TP X pins σ Q (n != 0) s') ?_ (fun r s' h'=>?_) fun _ _ e=>e)
  · refine wpAny_runValue (codeAny_builtin entry_len ?_)
    rw [Around.under_plainId plain_len _]
    show wpAny _ _ (Builtin.«len» ⟨[.ref p],[]⟩) _ _ _
    unfold Builtin.«len»
    refine wpAny_bind (m:=oneArg "len" _) (wpAny_pure ?_)
    refine wpAny_bind (m:=callSpecial? (.ref p) (Str.ofString "__len__")) (W.special_fn XK J M.at_ (beq_iff_eq.mp M.fn) (thn (wV (dvs:=[]) (ds:=[]) (vs:=[.ref p]) F hr e0 hb .nil xX I (.cons rfl .nil) q) fun v s' ⟨x,H',I',rx,n,e,h0,h1,q'⟩=>?_))
    subst e
    obtain ⟨t,rfl⟩:=rx
    refine wpAny_bind (wpAny_holding (wpAny_pure ?_))
    refine wpAny_bind (wpAny_letGo ?_)
    show wpAny _ _ (if n < 0 then _ else _) _ _ _
    rw [if_neg (by omega)]
    show wpAny _ _ (if n ≥ 2 ^ 63 then _ else _) _ _ _
    rw [if_neg (by omega)]
    exact wpAny_bind (wpAny_mkInt (wpAny_pure ⟨n,_,rfl,H',I'.tok _,q'⟩))
  · obtain ⟨n,t,rfl,q'⟩:=h'
    exact wpAny_pure q'
theorem GA {prog:Program} {w:World} (p:Addr):MeetsIn prog w (Builtin.«bool.__new__» ⟨[.type "bool",.ref p],[]⟩) (fun A R s=>wpAny (model prog w) A.in1 (truthy (.ref p)) (fun b s'=>R (.ok (.ret (.bool b))) s') (fun e s'=>R (.error e) s') s) :=
  fun A R s h=>by
    obtain ⟨hp,g,d,tk,os⟩:=s
    have f1:=PySem.F.conv_sub_bool
    have tr:∀ (Q:Bool→Shared→Prop),(∀ b s',R (.ok (.ret (.bool b))) s'→Q b s')→wpAny (model prog w) A.in1 (truthy (.ref p)) Q (fun e s'=>R (.error e) s') ⟨hp,g,d,tk,os⟩:=fun Q hq=>wpAny_mono h hq fun _ _ e=>e
    repeat (any_goals (first | assumption | with_reducible apply tr | wp_step))
    all_goals (intro b s' q; repeat (any_goals (first | assumption | wp_step)))
theorem JY (hB:W.findIn X.K (.ref C) "__bool__"=some none) (M:lL X.K C "__len__" f) (F:bS X.prog X.w X.K X.mg X.base CX0 k f fd ["self"] sp) (hr:bE (k + 3) X.A) (hb:aE X.K fd ["self"] []) :
    bF X (.type "bool") (fun xs H Q=>∃ p dx fs,xs=[.ref p]∧H p=some (.ins C dx fs)∧sp [.ref p] H (fun v H'=>∃ n,v= .int n∧0≤n∧n < 2 ^ 63∧Q (.bl (n != 0)) H') E0):=by
  intro pins s σ H xs us Q I r ⟨p,dx,fs,e,ea,q⟩
  subst e
  obtain ⟨u,rfl,ru⟩:=iC r
  cases ru
  refine callType_newIn PySem.F.called_bool PySem.F.newNe_bool (PySem.F.typeCall_bool_1 _) (PySem.F.newCall_bool_1 _) (fun obj=>PySem.F.args_object_init_2 obj _) PySem.F.entry_bool_new (GA p) ?_
  refine thn (aLY (A':=X.A.in1.in1) (Q:=fun b H'=>Q (.bl b) H') hB M F hr.in1.in1.in1 I.env0.in1.in1.in1 hb I ea q) fun b s2 ⟨H2,I2,q2⟩=>?_
  exact ⟨PySem.typeIs_bool _ _,.bl b,H2,I2,rfl,q2⟩
end
section
variable {X:Cx} {e:Expr} {es:List Expr} {te:TE} {pos:Pos}
noncomputable def PJ (X:Cx) (parts:List Expr) (t:Str→TE):Prop :=
  ∀ (out:Str) (pins:List (Addr×Obj)) (s:Shared) (σ:St) (H:Hp) (Q:VK),Inv X pins σ H s→t out σ H Q→wpAny (model X.prog X.w) X.A (joinParts out (evalEach parts X.env)) (EP X pins σ Q) X.xe s
noncomputable def tJ0:Str→TE:=fun out _ H Q=>out.length≤sizeLine∧Q (.str out) H
noncomputable def tJ1 (te:TE) (t:Str→TE):Str→TE:=fun out σ H Q=>te σ H fun x H1=>∃ y,x= .str y∧(out ++ y).length≤sizeLine∧t (out ++ y) σ H1 Q
theorem aFM:PJ X [] tJ0:=fun out pins s σ H Q I h=>joinParts_nil ⟨.str out,H,I.tok _,⟨_,rfl⟩,h.2⟩ h.1
theorem MZ {t:Str→TE} (he:PE X e te) (hr:PJ X es t) (hs:evalEach (e :: es) X.env=eval e X.env :: evalEach es X.env:=by rfl):PJ X (e :: es) (tJ1 te t):=by
  intro out pins s σ H Q I h
  rw [hs]
  refine joinParts_cons (thn (he pins s σ H _ I h) fun v s1 ⟨x,H1,I1,r1,y,ex,hz,q⟩=>?_)
  subst ex
  obtain ⟨t',rfl⟩:=r1
  exact ⟨hz,hr (out ++ y) pins s1 σ H1 Q I1 q⟩
noncomputable def tFv (te:TE):TE:=fun σ H Q=>te σ H fun x H1=>∃ y,x= .str y∧y.length≤sizeLine∧Q (.str y) H1
theorem aJm (he:PE X e te):PE X (.FormattedValue e (-1) none pos) (tFv te):=by
  intro pins s σ H Q I h
  refine FormattedValue_plain (thn (he pins s σ H _ I h) fun v s1 ⟨x,H1,I1,r1,y,ex,hz,q⟩=>?_)
  subst ex
  obtain ⟨t',rfl⟩:=r1
  exact formatField_str (fun t2 tk=>⟨.str y,H1,I1.tok tk,⟨_,rfl⟩,q⟩) hz
theorem aBj {v₁ v₂:Expr} {dC:List Expr} {t:Str→TE} (h:PJ X (v₁ :: v₂ :: dC) t):PE X (.JoinedStr (v₁ :: v₂ :: dC) pos) (t Str.empty):=fun pins s σ H Q I q=>JoinedStr_many (h Str.empty pins s σ H Q I q)
theorem NU:∀ {ys:List Str} {us:List Value},aI (ys.map V.str) us→StrsAre us ys
  | [],_,r=>by cases r; exact .nil
  | y :: ys,_,r=>by
    cases r with
    | cons r1 r2 =>
      obtain ⟨t,rfl⟩:=r1
      exact .cons _ _ (NU r2)
noncomputable def aKk:V→List V→Hp→VK→Prop:=fun x xs H Q=>∃ sep p ys,x= .str sep∧xs=[.ref p]∧H p=some (.lst (ys.map V.str))∧(ys.map (·.length)).sum + ys.length * sep.length≤16777216∧Q (.str (Txt.join sep ys)) H
theorem aBm:MtR X "str.join" aKk:=by
  intro pins s σ H x xs v us Q I r rs ⟨sep,p,ys,e1,e2,e3,hz,q⟩
  subst e1 e2
  obtain ⟨t,rfl⟩:=r
  obtain ⟨u,rfl,ru⟩:=iC rs
  cases ru
  obtain ⟨_,its,n,rv,hl⟩:=I.hok _ _ e3
  exact join_list (items:=its.toArray) ⟨_,hl,rfl,n,rfl⟩ (by simpa using NU rv) hz fun t' k=>⟨.str _,H,I.tok k,⟨_,rfl⟩,q⟩
theorem wD {α β:Type} {f g:α→Option β}:∀ (l:List α),(∀ x∈l,f x=g x)→l.filterMap f=l.filterMap g
  | [],_=>rfl
  | x :: r,h=>by
    rw [List.filterMap_cons,List.filterMap_cons,h x (List.mem_cons_self ..),wD r fun y hy=>h y (List.mem_cons_of_mem _ hy)]
theorem nW {α:Type}:∀ m:List α,(List.range m.length).filterMap (fun k=>m[k]?)=m
  | []=>rfl
  | x :: r=>by
    rw [List.length_cons,List.range_succ_eq_map,List.filterMap_cons]
    simp only [List.getElem?_cons_zero,List.filterMap_map]
    have e:((fun k=>(x :: r)[k]?) ∘ Nat.succ)=fun k=>r[k]? :=by funext k; rfl
    rw [e,nW r]
theorem ZP (its:List Value):slicePick its.toArray none none (some (-1))=its.reverse.toArray:=by
  unfold slicePick
  congr 1
  have e:sliceRange (sliceBounds none none (some (-1)) its.toArray.size).1 (sliceBounds none none (some (-1)) its.toArray.size).2.1 (sliceBounds none none (some (-1)) its.toArray.size).2.2=(List.range its.length).map fun k=>its.length - 1 - k:=by
    simp only [sliceBounds,Option.getD_some,List.size_toArray]
    rw [if_neg (by decide),if_neg (by decide)]
    unfold sliceRange
    dsimp only
    rw [if_neg (by decide)]
    have c:(if (its.length:Int) - 1 > -1 then ((its.length:Int) - 1 - -1 - -1 - 1) / (- -1) else 0).toNat=its.length:=by
      rw [show (- -1:Int)=1 from rfl,Int.ediv_one]
      split <;> omega
    rw [c]
    refine List.map_congr_left fun k hk=>?_
    omega
  rw [e,List.filterMap_map]
  have e2:(List.range its.length).filterMap ((fun x=>its.toArray[x]?) ∘ fun k=>its.length - 1 - k)=(List.range its.reverse.length).filterMap (fun k=>its.reverse[k]?):=by
    rw [List.length_reverse]
    refine wD _ fun k hk=>?_
    have hk':k < its.length:=List.mem_range.mp hk
    show its.toArray[its.length - 1 - k]? =_
    rw [List.getElem?_reverse hk']
    simp
  rw [e2,nW]
end
end L2
namespace LE
open PySem PyProof.Rows
open AutoSeq1 (wpAny_loadPart')
end LE
namespace L2
open PySem PySem.Spec PyProof.Rows
section
variable {X:Cx} {CX:CXT} {k:Nat} {f C:Addr} {fd:FuncData} {ps ks:List Str} {sp:Sp} {E:XK} {x:Str} {p pos:Pos} {kws:List Keyword} {tk:TA} {g:List Value→List Value→List Value} {gV:List V→List V→List V}
end
section
variable {X:Cx} {C:Addr} {f x:Str} {pos pos':Pos} {e o value:Expr} {ta tv:TE} {i:Int}
theorem PE.imp {t t':TE} (h:PE X e t) (g:∀ σ H Q,t' σ H Q→t σ H Q):PE X e t':=fun pins s σ H Q I q=>h pins s σ H Q I (g _ _ _ q)
theorem PS.imp {st:Stmt} {t t':TS} (h:PS X st t) (g:∀ D σ H,t' D σ H→t D σ H):PS X st t':=fun pins s σ H D I q=>h pins s σ H D I (g _ _ _ q)
end
section
variable {X:Cx} {es:List Expr} {te:TE} {t:TA} {pos:Pos}
end
end L2
namespace LZ
open PySem PyProof.Rows
open AutoSeq1 (wpAny_loadPart')
open Builtin
structure Zr where
  it:Addr
  l:Addr
  b:Bool
  xs:Array Value
noncomputable def ZIt (h:Heap) (r:Zr) (k:Nat):Prop:=if r.b=true then h.IsTupleIter r.it r.l k else h.IsListIter r.it r.l k
noncomputable def ZAt (h:Heap) (r:Zr):Prop:=if r.b=true then h.IsTuple r.l r.xs else h.IsList r.l r.xs
theorem ZIt.keep {h h':Heap} {r:Zr} {k:Nat} (a:ZIt h r k) (q:∀ o,h.get? r.it=some o→h'.get? r.it=some o):ZIt h' r k:=by
  unfold ZIt at *
  split
  · rename_i e; rw [if_pos e] at a; exact a.at fun o z=>q o z
  · rename_i e; rw [if_neg e] at a; exact a.at fun o z=>q o z
theorem ZAt.keep {h h':Heap} {r:Zr} (a:ZAt h r) (q:∀ o,h.get? r.l=some o→h'.get? r.l=some o):ZAt h' r:=by
  unfold ZAt at *
  split
  · rename_i e; rw [if_pos e] at a; obtain ⟨o,z,t⟩:=a; exact ⟨o,q o z,t⟩
  · rename_i e; rw [if_neg e] at a; obtain ⟨o,z,t⟩:=a; exact ⟨o,q o z,t⟩
theorem ZIt.lt {h:Heap} {r:Zr} {k:Nat} (a:ZIt h r k):∃ o,h.get? r.it=some o:=by
  unfold ZIt at a
  split at a
  · obtain ⟨o,z,_⟩:=a; exact ⟨o,z⟩
  · obtain ⟨o,z,_⟩:=a; exact ⟨o,z⟩
section
variable {prog:Program} {w:World} {A:Around} {E:Value→Shared→Prop} {s:Shared}
end
structure Ap (z TI TO:Addr) (rs:List Zr):Prop where
  nd:(rs.map Zr.it).Nodup
  zi:∀ r∈rs,r.it≠z∧r.it≠TO∧r.it≠TI
  zl:∀ r∈rs,r.l≠z∧r.l≠TO
  li:∀ r∈rs,∀ t∈rs,r.l≠t.it
  zo:TO≠z
  zt:TI≠z
  ot:TI≠TO
noncomputable def IsT (h:Heap) (a:Addr) (ys:Array Value):Prop:=h.get? a=some { cls:=.type "tuple",data:=.seq ys }
structure Zs (h:Heap) (z TI TO:Addr) (rs:List Zr) (k:Nat):Prop where
  z:IsZip h z TI TO .none
  ti:IsT h TI (rs.map fun r=>Value.ref r.it).toArray
  to_:∃ ys,ys.size=rs.length∧IsT h TO ys
  it:∀ r∈rs,ZIt h r k
end LZ
namespace LZ
open PySem PyProof.Rows
open Builtin
section
variable {prog:Program} {w:World} {A:Around} {E:Value→Shared→Prop} {s:Shared}
structure Mid (h:Heap) (z TI TO:Addr) (rs:List Zr) (k:Nat) (vs:List Value) (j:Nat) (g:Heap):Prop where
  zz:IsZip g z TI TO .ellipsis
  to_:∃ ys,ys.size=rs.length∧IsT g TO ys∧∀ i,i < j→ys[i]? =vs[i]?
  lo:∀ i r,rs[i]? =some r→i < j→ZIt g r (k + 1)
  hi:∀ i r,rs[i]? =some r→j≤i→ZIt g r k
  at_:∀ r∈rs,ZAt g r
  sz:g.objs.size=h.objs.size
  fr:∀ c o,c≠z→c≠TO→(∀ r∈rs,c≠r.it)→h.get? c=some o→g.get? c=some o
end
end LZ
namespace LZ
open PySem PyProof.Rows
open Builtin
section
variable {prog:Program} {w:World} {A:Around} {E:Value→Shared→Prop}
end
end LZ
namespace L2
open PySem PySem.Spec PyProof.Rows LZ
section
variable {X:Cx} {pins:List (Addr×Obj)} {σ:St} {H:Hp} {s:Shared} {h':Heap}
noncomputable def aDT (K:W.Frag) (H:Hp) (b:Bool) (l:Addr) (xs:List V):Prop:=if b=true then SqT K H l xs else SqL K H l xs
theorem aI.mk {f:Nat→Option Value}:∀ {vs:List V},(∀ (j:Nat) (v:V),vs[j]? =some v→∃ u,f j=some u∧aL v u)→∃ us,aI vs us∧us.length=vs.length∧∀ (j:Nat),j < vs.length→us[j]? =f j
  | [],_=>⟨[],.nil,rfl,fun j hj=>absurd hj (Nat.not_lt_zero _)⟩
  | v :: vs,h=>by
    obtain ⟨u,e,r⟩:=h 0 v rfl
    obtain ⟨us,a,b,c⟩:=aI.mk (f:=fun j=>f (j + 1)) (vs:=vs) fun j w hw=>h (j + 1) w hw
    refine ⟨u :: us,.cons r a,by rw [List.length_cons,List.length_cons,b],fun j hj=>?_⟩
    cases j with
    | zero=>exact e.symm
    | succ j=>exact c j (by simpa using hj)
end
section
variable {X:Cx} {pins:List (Addr×Obj)} {σ:St} {H:Hp} {s:Shared} {h':Heap}
end
end L2
namespace L2
open PySem PySem.Spec PyProof.Rows
section
variable {X:Cx}
theorem FV:∀ {bs:List Bool} {us:List Value} {i:Nat} {v:Value},aI (bs.map V.bl) us→us[i]? =some v→∃ b,bs[i]? =some b∧v= .bool b
  | [],_,_,_,r,h=>by cases r; simp at h
  | b :: bs,_,0,v,r,h=>by
    cases r with
    | cons r1 r2 =>
      simp at h; subst h
      exact ⟨b,rfl,r1⟩
  | b :: bs,_,i + 1,v,r,h=>by
    cases r with
    | cons r1 r2 =>
      obtain ⟨c,e,q⟩:=FV (i:=i) r2 (by simpa using h)
      exact ⟨c,by simpa using e,q⟩
theorem NK {s:Shared} {h':Heap} {o:Obj} (hk:∀ b x,b∉ [s.heap.objs.size]→(s.heap.push o).get? b=some x→h'.get? b=some x):∀ b x,s.heap.get? b=some x→h'.get? b=some x :=
  fun b x e=>hk b x (fun hm=>by rw [List.mem_singleton.mp hm] at e; exact Nat.lt_irrefl _ (Heap.lt_size e)) (Heap.get?_push_of_some _ e)
theorem RX (bs:List Bool):((List.range bs.length).all fun i=>(bs[i]?).getD true)=bs.all id:=by
  rw [Bool.eq_iff_iff,List.all_eq_true,List.all_eq_true]
  constructor
  · intro h b hb
    obtain ⟨i,hi,rfl⟩:=List.getElem_of_mem hb
    have:=h i (List.mem_range.mpr hi)
    simp only [List.getElem?_eq_getElem hi,Option.getD_some] at this
    exact this
  · intro h i hi
    have hi':=List.mem_range.mp hi
    simp only [List.getElem?_eq_getElem hi',Option.getD_some]
    exact h _ (List.getElem_mem hi')
theorem PL (hc:X.calm=true):bF X (.builtin "all") (fun xs H Q=>∃ (p:Addr) (bs:List Bool),xs=[.ref p]∧H p=some (.lst (bs.map V.bl))∧Q (.bl (bs.all id)) H):=by
  intro pins s σ H xs us Q I r ⟨p,bs,e,hp,q⟩
  subst e
  obtain ⟨u,rfl,ru⟩:=iC r
  cases ru
  obtain ⟨_,its,n,rv,ho⟩:=I.hok _ _ hp
  have hl:s.heap.IsList p its.toArray:=⟨_,ho,rfl,n,rfl⟩
  have hlt:p < s.heap.objs.size:=Heap.lt_size ho
  refine call_all_walk (wpAny_pyIter_list hl ?_)
  refine ⟨s.heap.objs.size,[s.heap.objs.size,p],[s.heap.objs.size],its.toArray.size,_,_,fun i=>(bs[i]?).getD true,rfl,Walks.list (A:=X.A.in1) (I.ok.hd hc) _ p (Nat.ne_of_lt hlt) its.toArray,
    ⟨⟨_,Heap.get?_push_size _ rfl,rfl,rfl⟩,hl.push _⟩,fun i v s' Q' E' hP hQ=>?_,fun h' tk hk=>?_⟩
  · obtain ⟨b,e,rfl⟩:=FV rv (i:=i) (v:=v) (by simpa using hP)
    simp only [e,Option.getD_some] at hQ
    exact wpAny_truthy_bool hQ
  · have e:((List.range its.toArray.size).all fun i=>(bs[i]?).getD true)=bs.all id:=by
      have:=rv.length
      rw [List.length_map] at this
      rw [List.size_toArray,←this]; exact RX bs
    rw [e]
    exact ⟨.bl _,H,I.kept (t':=tk) (NK hk),rfl,q⟩
end
end L2
namespace LX
open PySem PyProof.Rows
section
variable {prog:Program} {w:World} {A:Around} {E:Value→Shared→Prop} {s:Shared}
theorem aD5 {it t:Addr} {items:Array Value} (hne:t≠it):∀ (n i:Nat) (s:Shared) (Q:List Value→Shared→Prop),s.heap.IsListIter it t i→s.heap.IsList t items→i + n≤items.size→
    (∀ h',h'.IsListIter it t (i + n)→Heap.SameBut it s.heap h'→Q ((items.toList.drop i).take n) { s with heap:=h' })→wpAny (model prog w) A (draw (.ref it) n) Q E s
  | 0,i,s,Q,hit,_,_,hQ=>by
    show wpAny _ _ (pure []) Q E s
    exact wpAny_pure (by simpa using hQ s.heap hit (Heap.SameBut.refl ..))
  | n + 1,i,s,Q,hit,ht,hle,hQ=>by
    have hlt:i < items.size:=by omega
    show wpAny _ _ (pyNext (.ref it) >>= _) Q E s
    refine wpAny_bind (wpAny_pyNext_list_item hit ht (x:=items[i]) (by simp [hlt]) fun h1 hit1 hs1=>?_)
    refine wpAny_bind (wpAny_holding (aD5 hne n (i + 1) _ _ hit1 (ht.extBut hs1.extBut hne) (by omega) fun h2 hit2 hs2=>wpAny_pure ?_))
    have hd:items.toList.drop i=items[i] :: items.toList.drop (i + 1):=by simp [List.drop_eq_getElem_cons,hlt]
    have:=hQ h2 (by rw [show i + (n + 1)=i + 1 + n by omega]; exact hit2) (hs1.trans hs2)
    rw [hd,List.take_succ_cons] at this
    exact this
theorem aCM {t:Addr} {items:Array Value} {Q:List Value→Shared→Prop} (hh:A.handled=none) (ht:s.heap.IsList t items)
    (hQ:∀ h',Heap.ExtBut s.heap.objs.size s.heap h'→Q items.toList { s with heap:=h' }):wpAny (model prog w) A (unpackItems (.ref t) items.size none) Q E s:=by
  have hlt:t≠s.heap.objs.size:=by obtain ⟨o,ho,_⟩:=ht; exact Nat.ne_of_lt (Heap.lt_size ho)
  unfold unpackItems
  refine wpAny_bind ?_
  unfold notIterableAtAll
  refine wpAny_bind (wpAny_specialOf ht.typeIs slot_list_iter.lookup ?_)
  refine wpAny_pure ?_
  simp only [Bool.false_eq_true,if_false]
  refine wpAny_bind (wpAny_holding (wpAny_pyIter_list ht ?_))
  refine wpAny_bind (wpAny_holding (aD5 hlt items.size 0 _ _ ⟨_,Heap.get?_push_size _ rfl,rfl,rfl⟩ (ht.push _) (by omega) fun h1 hit1 hs1=>?_))
  have hall:List.take items.size (List.drop 0 items.toList)=items.toList:=by
    rw [List.drop_zero]; exact List.take_of_length_le (by simp)
  rw [hall]
  rw [if_neg (by simp)]
  have ht1:h1.IsList t items:=(ht.push _).extBut hs1.extBut hlt
  refine wpAny_bind (wpAny_holding (wpAny_pyNext_list_end hh hit1 ht1 (by simp) fun h2 he2=>?_))
  simp only [Option.isSome_none,Bool.false_eq_true,if_false]
  refine wpAny_pure (hQ h2 fun b o hb e=>he2 b o hb (hs1.extBut b o hb (Heap.get?_push_of_some _ e)))
theorem aLG {env:Env} {elts:List Expr} {x1:Nat} {pos:Pos} {t:Addr} {items:Array Value} {Q:Unit→Shared→Prop} (hh:A.handled=none) (ht:s.heap.IsList t items)
    (hn:(assignEach elts env).length=items.size) (hstar:(assignEach elts env).findIdx? (·.1)=none)
    (h:∀ h',Heap.ExtBut s.heap.objs.size s.heap h'→wpAny (model prog w) A (assignInOrder ((assignEach elts env).map (·.2)) items.toList) Q E { s with heap:=h' }) :
    wpAny (model prog w) A (assign (.Tuple elts x1 pos) env (.ref t)) Q E s:=by
  rw [assign_Tuple]
  refine wpAny_bind (wpAny_standAt ?_)
  unfold unpack
  rw [hn,hstar]
  exact wpAny_bind (wpAny_holding (aCM hh ht h))
end
end LX
namespace L2
open PySem PySem.Spec PyProof.Rows
section
variable {X:Cx} {pos:Pos}
noncomputable def aLQ (n:Nat) (t:TGs):TG:=fun v σ H Q=>∃ a xs,v= .ref a∧H a=some (.lst xs)∧xs.length=n∧t xs σ H Q
theorem aGE {es:List Expr} {k:Nat} {t:TGs} {n:Nat} (hc:X.calm=true) (h:PGs X es t)
    (hn:(assignEach es X.env).length=n) (hst:(assignEach es X.env).findIdx? (·.1)=none):PG X (.Tuple es k pos) (aLQ n t):=by
  intro pins s σ H v u Q I r hw
  obtain ⟨a,xs,e1,hq,hl,hw⟩:=hw
  subst e1
  cases r
  obtain ⟨_,its,nn,rv,ho⟩:=I.hok _ _ hq
  have ht:s.heap.IsList a its.toArray:=⟨_,ho,rfl,nn,rfl⟩
  refine LX.aLG (I.ok.hd hc) ht (by simp [hn,←hl,rv.length]) hst fun h' hx=>?_
  have I1:Inv X pins σ H { s with heap:=h' }:=I.kept (t':=s.toks) fun b o e=>hx b o (Nat.ne_of_lt (Heap.lt_size e)) e
  exact h pins _ σ H xs _ Q I1 (by simpa using rv) hw
variable {a b c d:Expr} {ta tb tc td:TE}
theorem QM (hc:X.calm=true):bF X (.builtin "max") (fun xs H Q=>∃ (p:Addr) (ns:List Int),xs=[.ref p]∧SqT X.K H p (ns.map V.int)∧ns≠ []∧∀ m,m∈ns→(∀ x∈ns,x≤m)→Q (.int m) H):=by
  intro pins s σ H xs us Q I r ⟨p,ns,e,hp,hne,q⟩
  subst e
  obtain ⟨u,rfl,ru⟩:=iC r
  cases ru
  obtain ⟨its,rv,ht,_⟩:=I.tuple hp
  have hl:s.heap.IsTuple p its.toArray:=ht
  have hi:IntsAre its ns:=IM rv
  obtain ⟨xs,hx⟩:=hi.allInts.items
  have hl':s.heap.IsTuple p (intItems xs):=hx▸hl
  obtain ⟨o,ho,hcl,n,hd⟩:=id hl'
  have hlt:p < s.heap.objs.size:=Heap.lt_size ho
  have e1:ns=xs.toList.map (·.1):=by
    rw [←nums_intItems,←hx]
    exact (show numsOf its.toArray.toList=ns from hi.numsOf).symm
  have hsz:ns.length=xs.size:=by rw [e1]; simp
  have hpos:0 < xs.size:=by
    rw [←hsz]; exact List.length_pos_iff.mpr hne
  refine call_max_walk (wpAny_pyIter_tuple hl' ?_)
  refine ⟨s.heap.objs.size,[s.heap.objs.size,p],[s.heap.objs.size],_,_,_,_,rfl,Walks.tuple (A:=X.A.in1) (I.ok.hd hc) _ p (Nat.ne_of_lt hlt) (intItems xs),
    ⟨⟨_,Heap.get?_push_size _ rfl,rfl,rfl⟩,hl'.push _⟩,fun d hd=>?_,by simpa [intItems] using hpos,CmpOf.ints_gt (numAt xs) (fun _ _=>intItems_at),fun v h' tk hP hk=>?_⟩
  · rcases List.mem_cons.mp hd with rfl | hd
    · exact Heap.lt_size (Heap.get?_push_size _ rfl)
    · obtain rfl:=List.mem_singleton.mp hd
      exact Heap.lt_size (Heap.get?_push_of_some _ ho)
  · have hP':(intItems xs)[argBest (fun i j=>decide (numAt xs i > numAt xs j)) (xs.size - 1)]? =some v:=by simpa [intItems] using hP
    obtain ⟨t,rfl⟩:=intItems_at hP'
    obtain ⟨b1,b2⟩:=argBest_gt (numAt xs) (xs.size - 1)
    have num:∀ j (hj:j < xs.size),∃ h:j < ns.length,numAt xs j=ns[j]:=fun j hj=>⟨by omega,by subst e1; simp [numAt,hj]⟩
    refine ⟨.int _,H,I.kept (t':=tk) (NK hk),⟨_,rfl⟩,q _ ?_ fun x hx'=>?_⟩
    · obtain ⟨h1,h2⟩:=num _ (show argBest (fun i j=>decide (numAt xs i > numAt xs j)) (xs.size - 1) < xs.size by omega)
      rw [h2]; exact List.getElem_mem h1
    · obtain ⟨j,hj,rfl⟩:=List.getElem_of_mem hx'
      obtain ⟨h1,h2⟩:=num j (by omega)
      rw [←h2]; exact b2 j (by omega)
end
section
variable {X:Cx}
end
section
variable {X:Cx} {pos:Pos}
end
end L2
namespace LE
open PySem PyProof.Rows
open AutoSeq1 (wpAny_loadPart')
open MeetsSeq MeetsSeq2 MeetsSeq3 SeqRoads2
end LE
namespace L2
open PySem PySem.Spec PyProof.Rows
section
variable {X:Cx}
end
section
variable {κ:Type} [DecidableEq κ]
noncomputable def valV (kvs:List (κ×V)) (k:κ):Option V:=(kvs.find? fun kv=>decide (kv.1=k)).map (·.2)
noncomputable def ER (kvs:List (κ×V)) (k:κ) (v:V):List (κ×V) :=
  if (kvs.any fun kv=>decide (kv.1=k))=true then kvs.map (fun kv=>if kv.1=k then (kv.1,v) else kv) else kvs ++ [(k,v)]
noncomputable def aEV (kvs:List (κ×V)) (k:κ):List (κ×V):=kvs.filter fun kv=>decide (kv.1≠k)
theorem aJx {k:κ}:valV ([]:List (κ×V)) k=none:=rfl
theorem pX {p:κ×V} {r:List (κ×V)} {k:κ} (e:p.1=k):valV (p :: r) k=some p.2:=by simp [valV,List.find?_cons,e]
theorem pQ {p:κ×V} {r:List (κ×V)} {k:κ} (e:¬p.1=k):valV (p :: r) k=valV r k:=by simp [valV,List.find?_cons,e]
theorem EX (k:κ):∀ kvs:List (κ×V),(kvs.any fun kv=>decide (kv.1=k))=(valV kvs k).isSome
  | []=>rfl
  | p :: r=>by
    rw [List.any_cons]
    by_cases e:p.1=k
    · simp only [pX e,decide_eq_true e,Bool.true_or,Option.isSome_some]
    · rw [pQ e,decide_eq_false e,Bool.false_or]; exact EX k r
theorem nZ.isSome_eq {o:Option V} {u:Option Value} (r:nZ o u):o.isSome=u.isSome:=by
  cases o with
  | none=>cases u with
    | none=>rfl
    | some _=>exact (show False from r).elim
  | some _=>cases u with
    | none=>exact (show False from r).elim
    | some _=>rfl
theorem nZ.getD {o:Option V} {u:Option Value} {d:V} {d':Value} (r:nZ o u) (rd:aL d d'):aL (o.getD d) (u.getD d'):=by
  cases o with
  | none=>cases u with
    | none=>exact rd
    | some _=>exact (show False from r).elim
  | some _=>cases u with
    | none=>exact (show False from r).elim
    | some _=>exact r
theorem KV.val {kvs:List (κ×V)} {vs:List (κ×Value)} (r:KV kvs vs) (k:κ):nZ (valV kvs k) (valueAt vs k):=by
  unfold KV at r
  induction r with
  | nil=>exact True.intro
  | @cons p q ps qs h t ih =>
    obtain ⟨h1,h2⟩:=h
    by_cases e:p.1=k
    · have e':q.1=k:=h1.symm.trans e
      have b:valueAt (q :: qs) k=some q.2:=by simp [valueAt,List.find?_cons,e']
      rw [pX e,b]; exact h2
    · have e':¬q.1=k:=fun z=>e (h1.trans z)
      have b:valueAt (q :: qs) k=valueAt qs k:=by simp [valueAt,List.find?_cons,e']
      rw [pQ e,b]; exact ih
theorem KV.any {kvs:List (κ×V)} {vs:List (κ×Value)} (r:KV kvs vs) (k:κ):(kvs.any fun kv=>decide (kv.1=k))=vs.any fun kv=>decide (kv.1=k):=by
  unfold KV at r
  induction r with
  | nil=>rfl
  | cons h t ih=>rw [List.any_cons,List.any_cons,ih,h.1]
theorem KV.repl {kvs:List (κ×V)} {vs:List (κ×Value)} (r:KV kvs vs) (k:κ) {y:V} {u:Value} (ry:aL y u) :
    KV (kvs.map fun kv=>if kv.1=k then (kv.1,y) else kv) (vs.map fun kv=>if kv.1=k then (kv.1,u) else kv):=by
  unfold KV at r ⊢
  induction r with
  | nil=>exact .nil
  | @cons p q ps qs h t ih =>
    rw [List.map_cons,List.map_cons]
    refine .cons ?_ ih
    obtain ⟨h1,h2⟩:=h
    by_cases e:p.1=k
    · rw [if_pos e,if_pos (h1.symm.trans e)]; exact ⟨h1,ry⟩
    · rw [if_neg e,if_neg (fun z=>e (h1.trans z))]; exact ⟨h1,h2⟩
theorem KV.put {kvs:List (κ×V)} {vs:List (κ×Value)} (r:KV kvs vs) (k:κ) {y:V} {u:Value} (ry:aL y u):KV (ER kvs k y) (stored vs k u):=by
  unfold ER stored
  rw [r.any k]
  by_cases e:(vs.any fun kv=>decide (kv.1=k))=true
  · rw [if_pos e,if_pos e]; exact r.repl k ry
  · rw [if_neg e,if_neg e]; exact Paired.snoc r ⟨rfl,ry⟩
theorem KV.drop {kvs:List (κ×V)} {vs:List (κ×Value)} (r:KV kvs vs) (k:κ):KV (aEV kvs k) (without vs k):=by
  unfold KV at r ⊢
  unfold aEV without
  induction r with
  | nil=>exact .nil
  | @cons p q ps qs h t ih =>
    obtain ⟨h1,h2⟩:=h
    rw [List.filter_cons,List.filter_cons]
    by_cases e:p.1=k
    · have a:¬decide (p.1≠k)=true:=by simp [e]
      have b:¬decide (q.1≠k)=true:=by simp [h1.symm.trans e]
      rw [if_neg a,if_neg b]; exact ih
    · have e':¬q.1=k:=fun z=>e (h1.trans z)
      have a:decide (p.1≠k)=true:=by simp [e]
      have b:decide (q.1≠k)=true:=by simp [e']
      rw [if_pos a,if_pos b]; exact .cons ⟨h1,h2⟩ ih
theorem KV.keys {kvs:List (κ×V)} {vs:List (κ×Value)} (r:KV kvs vs):kvs.map (·.1)=vs.map (·.1):=by
  unfold KV at r
  induction r with
  | nil=>rfl
  | cons h t ih=>rw [List.map_cons,List.map_cons,ih,h.1]
theorem KV.length {kvs:List (κ×V)} {vs:List (κ×Value)} (r:KV kvs vs):kvs.length=vs.length:=Paired.length r
end
theorem aD6 {P:Program} {w:World} {k:Key} {u:Value} (r:aL (kV k) u):(eO P w).is k u=true:=by
  cases k with
  | inl i=>obtain ⟨t,e⟩:=(show ∃ t,u=Value.int i t from r); subst e; exact FN P w i t
  | inr x=>obtain ⟨t,e⟩:=(show ∃ t,u=Value.str x t from r); subst e; exact HP P w x t
theorem AM {P:Program} {w:World}:∀ {ks:List Key} {us:List Value},aI (ks.map kV) us→ItemsAre (eO P w) ks us
  | [],_,r=>by rw [List.map_nil] at r; cases r; exact .nil
  | k :: ks,_,r=>by
    rw [List.map_cons] at r
    cases r with
    | cons h t=>exact .cons (aD6 h) (AM t)
noncomputable abbrev KT (H:Hp):List (List Key×V)→List (List Key×Addr×Value)→Prop:=Paired fun p q=>p.1=q.1∧H q.2.1=some (.tup (p.1.map kV))∧aL p.2 q.2.2
theorem KT.val {H:Hp} {kvs:List (List Key×V)} {xs:List (List Key×Addr×Value)} (r:KT H kvs xs) (k:List Key):nZ (valV kvs k) ((atKey xs k).map (·.2)):=by
  induction r with
  | nil=>exact True.intro
  | @cons p q ps qs h t ih =>
    obtain ⟨h1,_,h2⟩:=h
    by_cases e:p.1=k
    · have e':q.1=k:=h1.symm.trans e
      have b:atKey (q :: qs) k=some q.2:=by simp [atKey,List.find?_cons,e']
      rw [pX e,b]; exact h2
    · have e':¬q.1=k:=fun z=>e (h1.trans z)
      have b:atKey (q :: qs) k=atKey qs k:=by simp [atKey,List.find?_cons,e']
      rw [pQ e,b]; exact ih
theorem KT.repl {H:Hp} {kvs:List (List Key×V)} {xs:List (List Key×Addr×Value)} (r:KT H kvs xs) (k:List Key) {y:V} {u:Value} (ry:aL y u) :
    KT H (kvs.map fun kv=>if kv.1=k then (kv.1,y) else kv) (xs.map (putAt k u)):=by
  induction r with
  | nil=>exact .nil
  | @cons p q ps qs h t ih =>
    rw [List.map_cons,List.map_cons]
    refine .cons ?_ ih
    obtain ⟨h1,h2,h3⟩:=h
    unfold putAt
    by_cases e:p.1=k
    · rw [if_pos e,if_pos (h1.symm.trans e)]; exact ⟨h1,h2,ry⟩
    · rw [if_neg e,if_neg (fun z=>e (h1.trans z))]; exact ⟨h1,h2,h3⟩
theorem KT.put {H:Hp} {kvs:List (List Key×V)} {xs:List (List Key×Addr×Value)} (r:KT H kvs xs) (k:List Key) {b:Addr} {y:V} {u:Value} (hb:H b=some (.tup (k.map kV))) (ry:aL y u) :
    KT H (ER kvs k y) (storedH xs k b u):=by
  have e:(kvs.any fun kv=>decide (kv.1=k))=(atKey xs k).isSome:=by
    rw [EX,(r.val k).isSome_eq,Option.isSome_map]
  unfold ER storedH
  rw [e]
  by_cases q:(atKey xs k).isSome=true
  · rw [if_pos q,if_pos q]; exact r.repl k ry
  · rw [if_neg q,if_neg q]; exact Paired.snoc r ⟨rfl,hb,ry⟩
theorem KT.keeps {H H':Hp} {kvs:List (List Key×V)} {xs:List (List Key×Addr×Value)} (r:KT H kvs xs) (ht:∀ b ys,H b=some (.tup ys)→H' b=some (.tup ys)):KT H' kvs xs :=
  Paired.mapP r fun _ _ z=>⟨z.1,ht _ _ z.2.1,z.2.2⟩
section
variable {P:Program} {w:World} {H:Hp} {h:Heap} {a:Addr}
theorem aDv {u:HO} (ok:HOk P w H h) (e:Rd H a u):dA P w H h a u:=e.ok ok
theorem aDW {kvs:List (Key×V)} (ok:HOk P w H h) (e:Rd H a (.dK kvs)):kvs.length≤sizeLine∧(a == sysModules)=false∧∃ vs,KV kvs vs∧h.DictOf (eO P w) a vs :=
  show dA P w H h a (.dK kvs) from aDv ok e
theorem aAS {ks:List Key} (ok:HOk P w H h) (e:H a=some (.tup (ks.map kV))):(tupleKind (eO P w)).is h ks a:=by
  obtain ⟨_,its,r,⟨o,h1,h2,n,h3⟩,_⟩:=(show dA P w H h a (.tup (ks.map kV)) from ok a _ e)
  exact ⟨o,its.toArray,n,h1,h2,h3,by simpa using AM r⟩
theorem aEi {kvs:List (List Key×V)} (ok:HOk P w H h) (e:Rd H a (.dT kvs)):kvs.length≤sizeLine∧(a == sysModules)=false∧
    ∃ xs,KT H kvs xs∧h.DictOfH (tupleKind (eO P w)) a xs:=by
  obtain ⟨z,y,xs,r,o,es,ep,h1,h2,h3,h4,h5⟩:=(show dA P w H h a (.dT kvs) from aDv ok e)
  refine ⟨z,y,xs,r,o,es,ep,h1,h2,h3,h4,fun x hx=>?_,h5⟩
  have all:∀ {l:List (List Key×V)} {m:List (List Key×Addr×Value)},KT H l m→∀ x∈m,(tupleKind (eO P w)).is h x.1 x.2.1:=by
    intro l m q
    induction q with
    | nil=>intro x hx; exact nomatch hx
    | @cons p q ps qs hq t ih =>
      intro x hx
      rcases List.mem_cons.mp hx with e | hx
      · subst e
        exact aAS ok (by rw [←hq.1]; exact hq.2.1)
      · exact ih x hx
  exact all r x hx
end
noncomputable def IQ (H:Hp) (a:Addr) (y:V) (r:Option V):Prop :=
  (∃ kvs k,Rd H a (.dK kvs)∧y=kV k∧r=valV kvs k)∨∃ kvs k b,Rd H a (.dT kvs)∧y= .ref b∧H b=some (.tup (k.map kV))∧r=valV kvs k
noncomputable def aDu (H:Hp) (a:Addr) (y v:V) (H':Hp):Prop :=
  (∃ kvs k,H a=some (.dK kvs)∧y=kV k∧kvs.length < sizeLine∧H'=upd H a (.dK (ER kvs k v)))∨
  ∃ kvs k b,H a=some (.dT kvs)∧y= .ref b∧H b=some (.tup (k.map kV))∧kvs.length < sizeLine∧H'=upd H a (.dT (ER kvs k v))
theorem IQ.k {H:Hp} {a:Addr} {kvs:List (Key×V)} {k:Key} (e:H a=some (.dK kvs)):IQ H a (kV k) (valV kvs k):=.inl ⟨kvs,k,.inl e,rfl,rfl⟩
theorem IQ.t {H:Hp} {a b:Addr} {kvs:List (List Key×V)} {k:List Key} (e:H a=some (.dT kvs)) (eb:H b=some (.tup (k.map kV))):IQ H a (.ref b) (valV kvs k):=.inr ⟨kvs,k,b,.inl e,rfl,eb,rfl⟩
theorem aDu.k {H:Hp} {a:Addr} {kvs:List (Key×V)} {k:Key} {v:V} (e:H a=some (.dK kvs)) (hl:kvs.length < sizeLine):aDu H a (kV k) v (upd H a (.dK (ER kvs k v))):=.inl ⟨kvs,k,e,rfl,hl,rfl⟩
theorem aDu.t {H:Hp} {a b:Addr} {kvs:List (List Key×V)} {k:List Key} {v:V} (e:H a=some (.dT kvs)) (eb:H b=some (.tup (k.map kV))) (hl:kvs.length < sizeLine) :
    aDu H a (.ref b) v (upd H a (.dT (ER kvs k v))):=.inr ⟨kvs,k,b,e,rfl,eb,hl,rfl⟩
section
variable {X:Cx} {pins:List (Addr×Obj)} {σ:St} {H:Hp} {s:Shared} {a:Addr} {y v:V} {u r:Value} {o:Option V} {A:Around} {E:Value→Shared→Prop}
theorem Inv.big (I:Inv X pins σ H s):sysModules < s.heap.objs.size:=by
  have h:mainGlobals < s.heap.objs.size:=(I.mod.glob.keeps I.bk).lt
  exact Nat.lt_trans (by decide) h
theorem SR {Q:Value→Shared→Prop} (hu:A.units + 1 < cLine) (I:Inv X pins σ H s) (g:IQ H a y (some v)) (ry:aL y u) (h:∀ w' s',Inv X pins σ H s'→aL v w'→Q w' s') :
    wpAny (model X.prog X.w) A (getItem (.ref a) u) Q E s:=by
  rcases g with ⟨kvs,k,e,ey,l⟩ | ⟨kvs,k,b,e,ey,eb,l⟩
  · subst ey
    obtain ⟨z,hd,vs,rel,dd⟩:=aDW I.hok e
    obtain ⟨w',hw,rw'⟩:=nZ.some_of (v:=v) (o:=valueAt vs k) (by rw [l]; exact rel.val k)
    exact wpAny_getItem_of (aD6 ry) dd.mapOf hw (h w' _ (I.tok _) rw')
  · subst ey
    cases (show u=Value.ref b from ry)
    obtain ⟨z,hd,xs,rel,dd⟩:=aEi I.hok e
    obtain ⟨w',hw,rw'⟩:=nZ.some_of (v:=v) (o:=(atKey xs k).map (·.2)) (by rw [l]; exact rel.val k)
    obtain ⟨p,hp,hp2⟩:=Option.map_eq_some_iff.mp hw
    refine wpAny_getItem_heap (tupleKind_room_in1 hu) (aAS I.hok eb) dd hp ?_
    rw [hp2]
    exact h w' _ (I.tok _) rw'
end
section
variable {X:Cx} {pins:List (Addr×Obj)} {σ:St} {H:Hp} {s:Shared} {a:Addr} {kvs:List (Key×V)} {k:Key} {u:Value} {A:Around} {E:Value→Shared→Prop}
end
theorem FC {X:Cx} {pins:List (Addr×Obj)} {σ:St} {H:Hp} {s:Shared} {a:Addr} {y:V} {o:Option V} (I:Inv X pins σ H s) (g:IQ H a y o):s.TypeIs (.ref a) "dict":=by
  rcases g with ⟨kvs,k,e,_,_⟩ | ⟨kvs,k,b,e,_,_,_⟩
  · obtain ⟨_,_,vs,_,dd⟩:=aDW I.hok e
    exact dd.typeIs
  · obtain ⟨_,_,xs,_,dd⟩:=aEi I.hok e
    exact dd.typeIs
section
variable {X:Cx} {o i e value:Expr} {pos pos' tpos:Pos} {td ty tv:TE}
end
section
variable {X:Cx} {pos:Pos}
end
noncomputable abbrev VV:List (V×V)→List (Value×Value)→Prop:=Paired fun p q=>aL p.1 q.1∧aL p.2 q.2
noncomputable abbrev TD:=St→Hp→(List (V×V)→Hp→Prop)→Prop
noncomputable def PD (X:Cx) (pos:Pos) (keys:List (Option Expr)) (values:List Expr) (t:TD):Prop :=
  ∀ (pins:List (Addr×Obj)) (s:Shared) (σ:St) (H:Hp) (Q:List (V×V)→Hp→Prop),Inv X pins σ H s→t σ H Q→
    wpAny (model X.prog X.w) X.A (evalPairs (pairTrees keys values X.env pos)) (fun vs s'=>∃ ps H',Inv X pins σ H' s'∧VV ps vs∧Q ps H') X.xe s
theorem PD.imp {X:Cx} {pos:Pos} {ks:List (Option Expr)} {vs:List Expr} {t t':TD} (h:PD X pos ks vs t) (g:∀ σ H Q,t' σ H Q→t σ H Q):PD X pos ks vs t':=fun pins s σ H Q I q=>h pins s σ H Q I (g _ _ _ q)
noncomputable def aLC:R2:=fun x y H Q=>∃ a v,x= .ref a∧IQ H a y (some v)∧Q v H
theorem aDr {X:Cx} {k:Nat} (hr:bE k X.A):IxR X aLC:=by
  intro value slice pins s σ H x y v u Q I rx ry ⟨a,z,ex,g,q⟩ hs
  subst ex
  cases rx
  exact tail_any (FC I g) slot_dict_getitem.lookup (SR (by have:=hr.units; omega) I g ry fun w' s' I' r'=>⟨z,H,I',r',q⟩) hs
end L2
namespace LE
open PySem PySem.W PySem.Calls PyProof.Rows Builtin
section
variable {prog:Program} {w:World} {A:Around} {E:Value→Shared→Prop} {s:Shared} {K:Frag} {x C L f:Addr} {h₀:Heap} {m:Str→Option Value} {ox:Obj} {od:Option Obj} {b tb:Value}
theorem OL {M:Model} {T id:String} {name:Str} {args:List Value} {Q:Option Value→Shared→Prop} (X:K.In s.heap) (I:InstAt s.heap x ox C od) (hs:findIn K (.ref C) name=some (some (.builtin id))) (S:Slot T name id)
    (h:wpAny M A (call (.builtin id) (.ref x :: args)) (fun v=>Q (some v)) E s):wpAny M A (callSpecialIfBound? (.ref x) name args) Q E s:=by
  simp only [callSpecialIfBound?,bindSpecialIfBound?]
  refine wpAny_holding (wpAny_bind (wpAny_bind (wpAny_bind (I.type.here ((looks_findIn X hs).here ?_)))))
  simp only [S.bind]
  refine wpAny_bind (wpAny_askSetting (wpAny_ite ?_))
  have fin:wpAny M A (call (.builtin id) ([.ref x] ++ args) >>= fun v=>pure (some v)) Q E s:=wpAny_bind (wpAny_mono h (fun v s' h'=>wpAny_pure h') fun _ _ h'=>h')
  split
  · exact wpAny_bind (wpAny_pure (wpAny_pure fin))
  · exact wpAny_tryCatch (wpAny_bind (wpAny_pure (wpAny_pure fin)))
theorem YA {M:Model} {Q:Unit→Shared→Prop} (X:K.In s.heap) (I:InstAt s.heap x ox C od) (hob:subIn K (.ref C) (.type "object")=some true) (hq:Q () s) :
    wpAny M A (checkBuiltinCall "object.__ne__" ⟨[.ref x,b],[]⟩) Q E s:=by
  have ha:=PySem.F.cmpArgs_ne (.ref x) b
  simp only [checkBuiltinCall,PySem.F.cmpKind_ne,PySem.F.cmpSplit_ne]
  refine wpAny_bind ?_
  unfold isInstance
  refine wpAny_bind (I.type.here ((looks_subIn X hob).here ?_))
  simp only [Bool.not_true,Bool.false_eq_true,if_false]
  cases hsig:Manifest.signature? "object.__ne__" with
  | none=>exact wpAny_pure hq
  | some sig =>
    simp only [argsOk,hsig] at ha
    have h2:Bind.checkArgs "object.__ne__" sig ⟨[.ref x,b],[]⟩=pure ():=ha
    show wpAny M A (Bind.checkArgs "object.__ne__" sig ⟨[.ref x,b],[]⟩) Q E _
    rw [h2]; exact wpAny_pure hq
theorem aMw {Q:Value→Shared→Prop} (hu:A.units + 1 < cLine) (X:K.In s.heap) (I:InstAt s.heap x ox C od) (hb:Looks (model prog w) s.heap (typeOf b) tb) (hn:notFirst K C tb=true) (hne:findIn K (.ref C) "__ne__"=some (some (.builtin "object.__ne__")))
    (hob:subIn K (.ref C) (.type "object")=some true) (hs:findIn K (.ref C) "__eq__"=some (some (.ref f))) (hf:isFn K (.ref f)=true)
    (h:wpAny (model prog w) A.in1 (call (.ref f) [.ref x,b]) (fun v s'=>∃ r,v= .bool r∧Q (.bool (!r)) s') E s):wpAny (model prog w) A (richCompare .NotEq (.ref x) b) Q E s:=by
  have one:wpAny (model prog w) A (tryCompare (.ref x) (cmpInfo .NotEq).2.1 b) (fun r s'=>∃ v,r=some v∧Q v s') E s:=by
    unfold tryCompare
    refine wpAny_bind (OL (T:="object") X I hne PySem.F.cmp_object.ne ?_)
    refine wpAny_call (codeAny_call_builtin PySem.F.cmp_object.ne.plain PySem.F.cmpEntry_ne (YA X I hob ?_))
    unfold Builtin.«object.__ne__»
    refine wpAny_bind (m:=slotArgs "__ne__" 1 _) (wpAny_pure ?_)
    refine wpAny_bind (wpAny_cRoomFor (by show A.units + 1 < cLine; exact hu) ?_)
    refine wpAny_bind (ifBound_K X I hs hf (wpAny_mono h (fun v s' hv=>?_) fun _ _ e=>e))
    obtain ⟨r,rfl,q⟩:=hv
    refine wpAny_bind (wpAny_truthy_bool ?_)
    refine wpAny_pure ?_
    exact wpAny_pure ⟨_,rfl,q⟩
  unfold richCompare
  simp only [oneThing_ref]
  refine wpAny_holding (wpAny_bind (wpAny_cRoomFor (by omega) ?_))
  refine wpAny_bind (I.type.here (wpAny_bind (hb.here ?_)))
  split
  · rename_i q
    have e:subIn K tb (.ref C)=some false:=by
      rcases Bool.or_eq_true_iff.mp hn with e | e
      · rw [beq_iff_eq.mp e] at q; simp at q
      · exact beq_iff_eq.mp e
    refine wpAny_bind ((looks_subIn X e).here ?_)
    simp only [Bool.false_eq_true,if_false]
    refine wpAny_bind (wpAny_mono one (fun r s' z=>?_) fun _ _ e=>e)
    obtain ⟨v,rfl,hq⟩:=z
    exact wpAny_pure hq
  · refine wpAny_bind (wpAny_pure ?_)
    simp only [Bool.false_eq_true,if_false]
    refine wpAny_bind (wpAny_mono one (fun r s' z=>?_) fun _ _ e=>e)
    obtain ⟨v,rfl,hq⟩:=z
    exact wpAny_pure hq
end
end LE
namespace L2
open PySem PySem.Spec PyProof.Rows
section
variable {X:Cx}
structure NeC (K:W.Frag) (C:Addr):Prop where
  ne:W.findIn K (.ref C) "__ne__"=some (some (.builtin "object.__ne__"))
  ob:W.subIn K (.ref C) (.type "object")=some true
  bo:W.findIn K (.ref C) "__bool__"=some none
noncomputable def aLs (C:Addr) (sp:Sp):R2:=fun x y H Q=>∃ p dx fs p' dx' fs',x= .ref p∧y= .ref p'∧H p=some (.ins C dx fs)∧H p'=some (.ins C dx' fs')∧sp [.ref p,.ref p'] H (fun v H'=>∃ b,v= .bl b∧Q (.bl (!b)) H') E0
theorem aGB {k:Nat} {f C:Addr} {fd:FuncData} {sp:Sp} (N:NeC X.K C) (M:lL X.K C "__eq__" f) (F:bS X.prog X.w X.K X.mg X.base CX0 k f fd ["self","other"] sp) (hr:bE (k + 1) X.A) (hb:aE X.K fd ["self","other"] []) :
    OpR X (compareOp .NotEq) (aLs C sp):=by
  intro pins s σ H x y v u Q I rx ry ⟨p,dx,fs,p',dx',fs',e1,e2,ea,eb,q⟩
  subst e1 e2
  cases rx
  cases ry
  obtain ⟨od,J⟩:=mS I ea
  obtain ⟨od',J'⟩:=mS I eb
  refine W.cmp_ofNotEq (LE.aMw (by have:=hr.units; omega) I.kIn J J'.type (by unfold W.notFirst; simp) N.ne N.ob M.at_ M.fn
    (thn (wV (dvs:=[]) (ds:=[]) (vs:=[.ref p,.ref p']) F hr.in1 I.env0.in1 hb .nil xX I (.cons rfl (.cons rfl .nil)) q) fun v s' ⟨x,H',I',rx,b,e,q'⟩=>?_))
  subst e
  cases rx
  exact ⟨b,rfl,.bl (!b),H',I',rfl,q'⟩
end
end L2
namespace LE
open PySem PyProof.Rows
open AutoSeq1 (wpAny_loadPart')
open MeetsSeq MeetsSeq2 MeetsSeq3 SeqRoads2 SeqAt
end LE
namespace HT
open PySem PySem.Spec PyProof.Rows
section
variable {prog:Program} {w:World} {A:Around} {E:Value→Shared→Prop} {s:Shared}
theorem sK {sl:Addr} {vs:Value} {n:Nat} {Q:Int×Int×Nat→Shared→Prop} (hs:s.heap.IsSliceOf sl .none .none vs) (ps:IsPart vs (some (-1)))
    (h:Q ((n:Int) - 1,-1,n) s):wpAny (model prog w) A (Builtin.Slice.sliceApplied (.ref sl) (pure (n:Int))) Q E s:=by
  obtain ⟨os,hos,hcs,hds⟩:=id hs
  unfold Builtin.Slice.sliceApplied Builtin.Slice.sliceFields
  refine wpAny_bind (wpAny_bind (wpAny_field hos hds (x:=.none) rfl (wpAny_bind (wpAny_field hos hds (x:=.none) rfl (wpAny_bind (wpAny_field hos hds (x:=vs) rfl (wpAny_pure ?_)))))))
  refine wpAny_bind (oQ ps ?_)
  show wpAny _ _ (if ((-1:Int) == 0)=true then _ else _) _ _ s
  rw [if_neg (by decide)]
  refine wpAny_bind (slicePart_none (wpAny_bind (slicePart_none (wpAny_bind (wpAny_pure ?_)))))
  have e1:Builtin.Slice.sliceAdjust none none (-1) (n:Int)=((n:Int) - 1,-1):=rfl
  have e2:Builtin.Slice.slicePlaces ((n:Int) - 1) (-1) (-1)=n:=by
    unfold Builtin.Slice.slicePlaces
    rw [if_neg (by decide)]
    split
    · rw [show (- -1:Int)=1 from rfl,Int.ediv_one]; omega
    · omega
  show wpAny _ _ (match Builtin.Slice.sliceAdjust none none (-1) (n:Int) with | (lo,hi)=>pure (lo,(-1:Int),Builtin.Slice.slicePlaces lo hi (-1))) _ _ s
  rw [e1]
  show wpAny _ _ (pure ((n:Int) - 1,(-1:Int),Builtin.Slice.slicePlaces ((n:Int) - 1) (-1) (-1))) _ _ s
  rw [e2]
  exact wpAny_pure h
theorem PH (its:List Value):((List.range its.toArray.size).filterMap fun (m:Nat)=>its.toArray[((its.toArray.size:Int) - 1 + (m:Int) * -1).toNat]?).toArray=its.reverse.toArray:=by
  congr 1
  have e2:(List.range its.toArray.size).filterMap (fun (m:Nat)=>its.toArray[((its.toArray.size:Int) - 1 + (m:Int) * -1).toNat]?)=(List.range its.reverse.length).filterMap (fun k=>its.reverse[k]?):=by
    rw [List.length_reverse,List.size_toArray]
    refine L2.wD _ fun k hk=>?_
    have hk':k < its.length:=List.mem_range.mp hk
    rw [List.getElem?_reverse hk']
    have:((its.length:Int) - 1 + (k:Int) * -1).toNat=its.length - 1 - k:=by omega
    rw [this]; simp
  rw [e2,L2.nW]
theorem pV {t sl:Addr} {its:List Value} {vs:Value} {Q:Value→Shared→Prop} (ht:IsTup s.heap t its.toArray) (hs:s.heap.IsSliceOf sl .none .none vs) (ps:IsPart vs (some (-1)))
    (h:Q (.ref s.heap.objs.size) { s with heap:=s.heap.push { cls:=.type "tuple",data:=.seq its.reverse.toArray } })
    (hsz:its.length≤sizeLine):wpAny (model prog w) A (getItem (.ref t) (.ref sl)) Q E s:=by
  have htake:sizeOk (.seq its.reverse.toArray):=by
    show its.reverse.toArray.size≤sizeLine
    rw [List.size_toArray,List.length_reverse]; exact hsz
  obtain ⟨os,hos,hcs,hds⟩:=id hs
  have hTs:s.TypeIs (.ref sl) "slice":=⟨os,hos,hcs⟩
  unfold getItem
  try with_reducible refine wpAny_holding ?_
  first | refine wpAny_bind (wpAny_pure ?_) | skip
  refine wpAny_bind (wpAny_sequenceKey ht.typeIs (by decide) ?_)
  refine wpAny_bind (wpAny_callSpecial?_slot (name:=Str.ofString "__getitem__") ht.typeIs PyProof.Rows.slot_tuple_getitem
    (wpAny_call_entry PyProof.Rows.slot_tuple_getitem ht.typeIs entry_tuple_getitem ?_ (args_tuple_getitem _ _)))
  show wpAny _ _ (Builtin.Tuple.tupleItemsOf (.ref t) >>= _) _ _ s
  refine wpAny_bind (tupleItemsOf_ ht ?_)
  refine wpAny_bind (wpAny_typeOf hTs ?_)
  rw [if_pos (by decide)]
  refine wpAny_bind (sK hs ps ?_)
  have hno:¬((((its.toArray.size:Int) - 1 == 0) && (-1:Int) == 1 && its.toArray.size == its.toArray.size)=true):=by
    rw [show ((-1:Int) == 1)=false from rfl,Bool.and_false,Bool.false_and]; exact Bool.false_ne_true
  show wpAny _ _ (if (((its.toArray.size:Int) - 1 == 0) && (-1:Int) == 1 && its.toArray.size == its.toArray.size)=true then _ else _) _ _ s
  rw [if_neg hno,PH]
  first
    | exact wpAny_bind (m:=Builtin.Tuple.tupleExact _) (wpAny_newObj_type (wpAny_pure ⟨_,rfl,wpAny_pure h⟩) htake)
    | exact wpAny_bind (m:=Builtin.Tuple.tupleExact _) (wpAny_newObj_type (wpAny_bind (wpAny_pure (wpAny_pure ⟨_,rfl,wpAny_pure h⟩))) htake)
    | exact wpAny_bind (wpAny_bind (m:=Builtin.Tuple.tupleExact _) (wpAny_newObj_type (wpAny_pure (wpAny_pure ⟨_,rfl,wpAny_pure h⟩)) htake))
    | exact wpAny_bind (wpAny_bind (m:=Builtin.Tuple.tupleExact _) (wpAny_newObj_type (wpAny_pure ⟨_,rfl,wpAny_pure h⟩) htake))
end
end HT
namespace L2
open PySem PySem.Spec PyProof.Rows
section
variable {X:Cx} {pins:List (Addr×Obj)} {σ:St} {H:Hp} {s:Shared} {a:Addr} {xs:List V}
end
section
variable {X:Cx} {o e:Expr} {to te:TE} {pos apos:Pos}
noncomputable def aKM (K:W.Frag) (te:TE):TE:=fun σ H Q=>te σ H fun x H1=>∃ p xs,x= .ref p∧((H1 p=some (.lst xs)∧∀ q,H1 q=none→Q (.ref q) (upd H1 q (.lst xs.reverse)))∨(SqT K H1 p xs∧∀ q,H1 q=none→Q (.ref q) (upd H1 q (.tup xs.reverse))))
theorem aBS {p1 p2 p3:Pos} {k1} (he:PE X e te):PE X (.Subscript e (.Slice none none (some (.UnaryOp .USub (.Constant (.int 1) k1 p1) p2)) p3) pos) (aKM X.K te):=by
  intro pins s σ H Q I h
  refine Subscript_ (thn (he pins s σ H _ I h) fun v s1 ⟨x,H1,I1,r1,p,xs,ex,hq⟩=>?_)
  subst ex
  cases r1
  refine wpAny_Slice ?_
  rw [evalPart_none]
  refine wpAny_pure ?_
  refine wpAny_pure ?_
  refine thn ((MV (aEr XM (aA1 (X:=X)))) pins s1 σ H1 (fun o H2=>o=some (-1)∧H2=H1) I1 ⟨_,rfl,_,rfl,rfl,rfl⟩) fun vs s2 ⟨o,H2,I2,ps,eo,eH⟩=>?_
  subst eo eH
  have I3:Inv X pins σ H2 { s2 with heap:=s2.heap.push { cls:=.type "slice",data:=.fields #[.none,.none,vs] } }:=I2.kept (t':=s2.toks) fun b ob q=>Heap.get?_push_of_some _ q
  rcases hq with ⟨hp,q⟩ | ⟨hp,q⟩
  · obtain ⟨its,rv,ht,hz⟩:=I3.list (SqL.of hp)
    have hlen:=rv.length
    refine tail_any (ops:=[.ref p,.ref s2.heap.objs.size]) ht.isList.typeIs slot_list_getitem.lookup ?_ (by with_unfolding_all rfl)
    refine wpAny_getItem_list_slice (lo:=none) (hi:=none) ht.isList (Heap.IsSliceOf.new ..) .none .none ps (by decide) ?_ (by rw [List.size_toArray] <;> omega)
    rw [ZP]
    refine ⟨.ref _,_,I3.laid (t':=s2.toks) (o:=.lst xs.reverse) (fun b ob q=>Heap.get?_push_of_some _ q) (Nat.le_refl _) ?_,rfl,q _ (I3.hok.fresh (Nat.le_refl _))⟩
    exact ⟨by rw [List.length_reverse]; exact hz,_,0,rv.reverse,Heap.get?_push_size _ rfl⟩
  · obtain ⟨its,rv,ht,hz⟩:=I3.tuple hp
    have hlen:=rv.length
    refine tail_any (ops:=[.ref p,.ref s2.heap.objs.size]) ht.typeIs PyProof.Rows.slot_tuple_getitem.lookup ?_ (by with_unfolding_all rfl)
    refine HT.pV ht (Heap.IsSliceOf.new ..) ps ?_ (by omega)
    refine ⟨.ref _,_,I3.laid (t':=s2.toks) (o:=.tup xs.reverse) (fun b ob q=>Heap.get?_push_of_some _ q) (Nat.le_refl _) ?_,rfl,q _ (I3.hok.fresh (Nat.le_refl _))⟩
    exact ⟨by rw [List.length_reverse]; exact hz,_,rv.reverse,iH.new _ _⟩
end
section
variable {X:Cx} {a:Addr} {es:Array DictEntry} {n:Nat}
noncomputable def aMt (a:Addr) (es:Array DictEntry):R2:=fun x y H Q=>∃ z w v,x= .ref a∧y= .str z∧findBy Value.isStrOf es z=some w∧aL v w∧Q v H
theorem aKj (hl:X.K.lookup a=some ⟨.type "dict",none,.dict es n, #[]⟩) (hk:W.KeysLit X.w.params es.toList):IxR X (aMt a es):=by
  intro value slice pins s σ H x y v u Q I rx ry ⟨z,w,v',ex,ey,ef,rv,q⟩ hs
  subst ex ey
  cases rx
  obtain ⟨t,rfl⟩:=ry
  have hm:=W.mapOf_K (prog:=X.prog) I.kIn hl hk
  exact tail_any hm.typeIs slot_dict_getitem.lookup (wpAny_getItem_of (strKind_is X.prog X.w z t) hm ef ⟨v',H,I.tok _,rv,q⟩) hs
noncomputable def aHN (a:Addr) (es:Array DictEntry) (neg:Bool):R2:=fun x y H Q=>∃ z,x= .str z∧y= .ref a∧Q (.bl (if neg then !(findBy Value.isStrOf es z).isSome else (findBy Value.isStrOf es z).isSome)) H
theorem aFs (hl:X.K.lookup a=some ⟨.type "dict",none,.dict es n, #[]⟩) (hk:W.KeysLit X.w.params es.toList) (hn:(a == sysModules)=false):OpR X (compareOp .In) (aHN a es false):=by
  intro pins s σ H x y v u Q I rx ry ⟨z,ex,ey,q⟩
  subst ex ey
  cases ry
  obtain ⟨t,rfl⟩:=rx
  exact wpAny_in_of (strKind_is X.prog X.w z t) hn (W.mapOf_K (prog:=X.prog) I.kIn hl hk) ⟨.bl _,H,I.tok _,rfl,q⟩
theorem RT (hl:X.K.lookup a=some ⟨.type "dict",none,.dict es n, #[]⟩) (hk:W.KeysLit X.w.params es.toList) (hn:(a == sysModules)=false):OpR X (compareOp .NotIn) (aHN a es true):=by
  intro pins s σ H x y v u Q I rx ry ⟨z,ex,ey,q⟩
  subst ex ey
  cases ry
  obtain ⟨t,rfl⟩:=rx
  exact wpAny_notIn_of (strKind_is X.prog X.w z t) hn (W.mapOf_K (prog:=X.prog) I.kIn hl hk) ⟨.bl _,H,I.tok _,rfl,q⟩
theorem GL {P:Params} (l:List (Str×Tok×Value)) (x:Str):findBy Value.isStrOf (l.map fun p=>(⟨PyData.keyHash P p.1,.str p.1 p.2.1,p.2.2⟩:DictEntry)).toArray x=(l.find? fun p=>p.1 == x).map (·.2.2):=by
  unfold findBy
  rw [List.find?_toArray,List.find?_map]
  have e:((fun e:DictEntry=>Value.isStrOf x e.key) ∘ fun p:Str×Tok×Value=>(⟨PyData.keyHash P p.1,.str p.1 p.2.1,p.2.2⟩:DictEntry))=fun p=>p.1 == x:=by
    funext p
    show Value.isStrOf x (.str p.1 p.2.1)=_
    unfold Value.isStrOf
    first
      | rfl
      | (dsimp only; rw [Bool.eq_iff_iff]; simp [eq_comm])
  rw [e]
  cases l.find? fun p=>p.1 == x <;> rfl
theorem xC {P:Params}:∀ (l:List (Str×Tok×Value)),W.KeysLit P (l.map fun p=>(⟨PyData.keyHash P p.1,.str p.1 p.2.1,p.2.2⟩:DictEntry))
  | []=>trivial
  | p :: r=>⟨⟨p.1,p.2.1,rfl,rfl⟩,xC r⟩
theorem NX {ks:List (Str×Str)} {g:Str→Addr} {l:List (Str×Tok×Value)} (z:Str) (e:(l.map fun p=>(p.1,p.2.2))=ks.map fun q=>(q.1,Value.ref (g q.2))):(l.find? fun p=>p.1 == z).map (·.2.2)=(ks.lookup z).map fun f=>.ref (g f):=by
  induction l generalizing ks with
  | nil =>
    cases ks with
    | nil=>rfl
    | cons q r=>cases e
  | cons p l ih =>
    cases ks with
    | nil=>cases e
    | cons q r =>
      rw [List.map_cons,List.map_cons] at e
      injection e with e1 e2
      injection e1 with e3 e4
      rw [List.find?_cons,List.lookup_cons,e3]
      by_cases h:q.1=z
      · rw [show (q.1 == z)=true from beq_iff_eq.mpr h,show (z == q.1)=true from beq_iff_eq.mpr h.symm]
        simp only [Option.map_some,e4]
      · rw [show (q.1 == z)=false from beq_eq_false_iff_ne.mpr h,show (z == q.1)=false from beq_eq_false_iff_ne.mpr (Ne.symm h)]
        exact ih e2
end
section
variable {X:Cx} {pos:Pos}
noncomputable def aIW (i j l:Nat) (ta:TA):TS:=fun D σ H=>ta σ H fun vs H1=>∃ v w u,vs=[v,w,u]∧D.nx (((σ.set i (some v)).set j (some w)).set l (some u)) H1
theorem aCl {i j l:Nat} {x y z:Str} {a b c:Expr} {ta:TA} {px py pz pt:Pos} {kt k2 pt2} (hc:X.calm=true) (hN:X.N.Nodup) (hi:X.N[i]? =some x) (hj:X.N[j]? =some y) (hl:X.N[l]? =some z) (hij:i≠j) (hil:i≠l) (hjl:j≠l)
    (hx:X.env.scope.names.lookup x=some .local) (hy:X.env.scope.names.lookup y=some .local) (hz:X.env.scope.names.lookup z=some .local) (ha:PA X [a,b,c] ta)
    (hw:swappedStores [.Tuple [.Name x px,.Name y py,.Name z pz] kt pt] (.Tuple [a,b,c] k2 pt2) X.env=pure (some [x,y,z]))
    (hs:swapsWithSole [.Tuple [.Name x px,.Name y py,.Name z pz] kt pt] (.Tuple [a,b,c] k2 pt2) pos.line X.env=pure false:=by rfl) :
    PS X (.Assign [.Tuple [.Name x px,.Name y py,.Name z pz] kt pt] (.Tuple [a,b,c] k2 pt2) pos) (aIW i j l ta):=by
  intro pins s σ H D I h
  rw [exec_Assign_arm]
  refine wpAny_bind (wpAny_standAt ?_)
  rw [hs]
  refine wpAny_bind (wpAny_pure ?_)
  rw [if_neg (by decide)]
  refine wpAny_bind (Tuple_ (thn (ha _ pins s σ H _ I h) fun us s1 ⟨vs,H1,I1,r1,q1⟩=>?_))
  obtain ⟨v,w,v3,e1,q1⟩:=q1
  subst e1
  obtain ⟨u1,u2,u3,rfl,rv,rw',ru⟩:∃ u1 u2 u3,us=[u1,u2,u3]∧aL v u1∧aL w u2∧aL v3 u3:=by
    cases r1 with
    | cons p q =>
      cases q with
      | cons p' q' =>
        cases q' with
        | cons p2 q2 =>
          cases q2
          exact ⟨_,_,_,rfl,p,p',p2⟩
  refine wpAny_newObj_type ?_ (by show 3≤sizeLine; decide)
  have I2:Inv X pins σ H1 { s1 with heap:=s1.heap.push { cls:=.type "tuple",data:=.seq [u1,u2,u3].toArray } }:=I1.kept (t':=s1.toks) fun b o e=>Heap.get?_push_of_some _ e
  rw [hw]
  refine wpAny_bind (wpAny_pure ?_)
  show wpAny (model X.prog X.w) X.A (do rule "assign.swapped-stores"; let items ←unpackItems (.ref s1.heap.objs.size) 3 none; assignInOrder [fun v=>bindName X.env z v,fun v=>bindName X.env y v,fun v=>bindName X.env x v] items.reverse; pure Flow.next) _ _ _
  refine wpAny_bind (wpAny_rule (wpAny_bind (unpackItems_tuple (items:= #[u1,u2,u3]) (I.ok.hd hc) (IsTup.new s1.heap _) fun h' hx'=>?_)))
  have I3:=I2.kept (h':=h') (t':=s1.toks) fun b o e=>hx' b o (Nat.ne_of_lt (Heap.lt_size e)) e
  show wpAny _ _ (assignInOrder [fun v=>bindName X.env z v,fun v=>bindName X.env y v,fun v=>bindName X.env x v] [u3,u2,u1] >>= fun _=>pure Flow.next) _ _ _
  refine wpAny_bind (assignInOrder_cons (wpAny_bindName (jL I3 hN hl (.inl hz) ru (fun s2 I4=>?_) (.inr hz))))
  refine assignInOrder_cons (wpAny_bindName (jL I4 hN hj (.inl hy) rw' (fun s2 I4=>?_) (.inr hy)))
  refine assignInOrder_cons (wpAny_bindName (jL I4 hN hi (.inl hx) rv (fun s3 I5=>assignInOrder_nil (wpAny_pure ?_)) (.inr hx)))
  rw [List.set_comm _ _ (Ne.symm hij),List.set_comm _ _ (Ne.symm hil),List.set_comm _ _ (Ne.symm hjl)] at I5
  exact ⟨_,H1,I5,q1⟩
end
end L2
namespace HT
open PySem PySem.Spec PyProof PyProof.Rows
section
variable {prog:Program} {w:World} {A:Around} {E:Value→Shared→Prop} {s:Shared}
theorem nF {t sl:Addr} {items:Array Value} {vl vu:Value} {lo hi:Option Int} {Q:Value→Shared→Prop} (ht:IsTup s.heap t items) (hs:s.heap.IsSliceOf sl vl vu .none) (pl:IsPart vl lo) (pu:IsPart vu hi)
    (hw:sIx items.size 0 lo=0∧sIx items.size items.size hi=items.size)
    (h:Q (.ref t) s):wpAny (model prog w) A (getItem (.ref t) (.ref sl)) Q E s:=by
  obtain ⟨os,hos,hcs,hds⟩:=id hs
  have hTs:s.TypeIs (.ref sl) "slice":=⟨os,hos,hcs⟩
  unfold getItem
  try with_reducible refine wpAny_holding ?_
  first | refine wpAny_bind (wpAny_pure ?_) | skip
  refine wpAny_bind (wpAny_sequenceKey ht.typeIs (by decide) ?_)
  refine wpAny_bind (wpAny_callSpecial?_slot (name:=Str.ofString "__getitem__") ht.typeIs PyProof.Rows.slot_tuple_getitem
    (wpAny_call_entry PyProof.Rows.slot_tuple_getitem ht.typeIs entry_tuple_getitem ?_ (args_tuple_getitem _ _)))
  show wpAny _ _ (Builtin.Tuple.tupleItemsOf (.ref t) >>= _) _ _ s
  refine wpAny_bind (tupleItemsOf_ ht ?_)
  refine wpAny_bind (wpAny_typeOf hTs ?_)
  rw [if_pos (by decide)]
  refine wpAny_bind (jB hs pl pu ?_)
  have hno:(((sIx items.size 0 lo:Nat):Int) == 0 && (1:Int) == 1 && (sIx items.size items.size hi - sIx items.size 0 lo) == items.size)=true:=by
    rw [hw.1,hw.2]; simp
  show wpAny _ _ (if (((sIx items.size 0 lo:Nat):Int) == 0 && (1:Int) == 1 && (sIx items.size items.size hi - sIx items.size 0 lo) == items.size)=true then _ else _) _ _ s
  rw [if_pos hno]
  unfold Builtin.Tuple.tupleIsExact
  refine wpAny_bind (wpAny_bind (wpAny_typeOf ht.typeIs (wpAny_pure ?_)))
  rw [if_pos (by decide)]
  refine wpAny_bind (wpAny_rule ?_)
  first
    | exact wpAny_bind (wpAny_pure ⟨_,rfl,wpAny_pure h⟩)
    | exact wpAny_bind (wpAny_pure (wpAny_pure ⟨_,rfl,wpAny_pure h⟩))
    | exact wpAny_pure ⟨_,rfl,wpAny_pure h⟩
end
end HT
namespace L2
open PySem PySem.Spec PyProof.Rows
section
variable {X:Cx}
noncomputable def aLk (K:W.Frag):V→Option Int→Option Int→Hp→VK→Prop:=fun x lo hi H Q=>∃ a xs,x= .ref a∧SqT K H a xs∧
  (HT.sIx xs.length 0 lo=0∧HT.sIx xs.length xs.length hi=xs.length)∧Q (.ref a) H
theorem aBT:SlR X (aLk X.K):=by
  intro pins s σ H x v vl vu lo hi sl Q I rx hs pl pu h
  obtain ⟨a,xs,rfl,hx,hw,q⟩:=h
  cases rx
  obtain ⟨its,r,ht,hz⟩:=I.tuple hx
  have hlen:its.toArray.size=xs.length:=by rw [List.size_toArray]; exact r.length.symm
  refine ⟨"tuple",_,PyProof.Rows.slot_tuple_getitem.lookup,ht.typeIs, ?_⟩
  exact HT.nF ht hs pl pu (by rw [hlen]; exact hw) ⟨.ref a,_,I,rfl,q⟩
end
end L2
namespace L3
open PySem PySem.Spec
open PyProof.Rows hiding St
open L2
inductive PV where
  | non | bl (b:Bool) | int (i:Int) | str (x:Str) | tup (xs:List PV) | lst (xs:List PV) | scr (ns:List Int)
  | ob (c:String) (ns:List Str) (xs:List PV) | ref (a:Addr) | ty (n:String) | cl (c:String) | fn (f:Str) | emp | dct (ks:List Key) (xs:List PV)
structure Ev where
  K:W.Frag
  cls:String→Addr
  fna:Str→Addr:=fun _=>0
mutual
noncomputable def RP (E:Ev) (Z:Hp):PV→V→Prop
  | .non=>fun v=>v= .non
  | .bl b=>fun v=>v= .bl b
  | .int i=>fun v=>v= .int i
  | .str x=>fun v=>v= .str x
  | .ty n=>fun v=>v= .ty n
  | .ref a=>fun v=>v= .ref a
  | .cl c=>fun v=>v= .ref (E.cls c)
  | .fn f=>fun v=>v= .ref (E.fna f)
  | .emp=>fun v=>∃ a,v= .ref a∧Z a=some (.dK [])
  | .scr ns=>fun v=>∃ a,v= .ref a∧SqL E.K Z a (ns.map V.int)
  | .tup xs=>fun v=>∃ a vs,v= .ref a∧SqT E.K Z a vs∧RPs E Z xs vs
  | .lst xs=>fun v=>∃ a vs,v= .ref a∧Z a=some (.lst vs)∧RPs E Z xs vs
  | .dct ks xs=>fun v=>∃ a vs,v= .ref a∧Z a=some (.dK (ks.zip vs))∧ks.length=vs.length∧RPs E Z xs vs
  | .ob c ns xs=>fun v=>∃ a dx vs,v= .ref a∧Z a=some (.ins (E.cls c) dx (ns.zip vs))∧ns.length=vs.length∧RPs E Z xs vs
noncomputable def RPs (E:Ev) (Z:Hp):List PV→List V→Prop
  | []=>fun vs=>vs=[]
  | x :: xs=>fun vs=>∃ v r,vs=v :: r∧RP E Z x v∧RPs E Z xs r
end
theorem eL {K:W.Frag} {Z Z':Hp} {a:Addr} {xs:List V} (e:aQ Z Z') (h:SqT K Z a xs):SqT K Z' a xs:=by
  rcases h with (h | ⟨o,h⟩) | h
  · exact .inl (.inl (e _ _ h))
  · exact .inl (.inr ⟨o,e _ _ h⟩)
  · exact .inr h
section
variable {E:Ev} {Z Z' Z1 Z2 H H':Hp}
mutual
theorem RP.mono (e:aQ Z Z'):∀ {x:PV} {v:V},RP E Z x v→RP E Z' x v
  | .non,_,h=>h
  | .bl _,_,h=>h
  | .int _,_,h=>h
  | .str _,_,h=>h
  | .ty _,_,h=>h
  | .ref _,_,h=>h
  | .cl _,_,h=>h
  | .fn _,_,h=>h
  | .emp,_,⟨a,e1,h⟩=>⟨a,e1,e _ _ h⟩
  | .scr _,_,⟨a,e1,h⟩=>⟨a,e1,e.seq h⟩
  | .tup _,_,⟨a,vs,e1,h,r⟩=>⟨a,vs,e1,eL e h,RPs.mono e r⟩
  | .lst _,_,⟨a,vs,e1,h,r⟩=>⟨a,vs,e1,e _ _ h,RPs.mono e r⟩
  | .dct _ _,_,⟨a,vs,e1,h,l,r⟩=>⟨a,vs,e1,e _ _ h,l,RPs.mono e r⟩
  | .ob _ _ _,_,⟨a,dx,vs,e1,h,l,r⟩=>⟨a,dx,vs,e1,e _ _ h,l,RPs.mono e r⟩
theorem RPs.mono (e:aQ Z Z'):∀ {xs:List PV} {vs:List V},RPs E Z xs vs→RPs E Z' xs vs
  | [],_,h=>h
  | _ :: _,_,⟨v,r,e1,h,t⟩=>⟨v,r,e1,RP.mono e h,RPs.mono e t⟩
end
theorem RPs.length:∀ {xs:List PV} {vs:List V},RPs E Z xs vs→xs.length=vs.length
  | [],_,h=>by cases h; rfl
  | _ :: _,_,⟨v,r,e1,_,t⟩=>by subst e1; rw [List.length_cons,List.length_cons,RPs.length t]
theorem RPs.get:∀ {xs:List PV} {vs:List V} {i:Nat} {x:PV},RPs E Z xs vs→xs[i]? =some x→∃ v,vs[i]? =some v∧RP E Z x v
  | [],_,_,_,_,e=>by simp at e
  | y :: _,_,0,x,⟨v,r,e1,h,t⟩,e=>by
    subst e1
    have:y=x:=by simpa using e
    subst this
    exact ⟨v,rfl,h⟩
  | _ :: _,_,i + 1,x,⟨v,r,e1,h,t⟩,e=>by
    subst e1
    obtain ⟨u,a,b⟩:=RPs.get (i:=i) t (by simpa using e)
    exact ⟨u,by simpa using a,b⟩
theorem RPs.append:∀ {xs ys:List PV} {vs us:List V},RPs E Z xs vs→RPs E Z ys us→RPs E Z (xs ++ ys) (vs ++ us)
  | [],_,_,_,h,q=>by cases h; exact q
  | _ :: _,_,_,us,⟨v,r,e1,h,t⟩,q=>by subst e1; exact ⟨v,r ++ us,rfl,h,RPs.append t q⟩
theorem RPs.set {y:PV} {u:V} (q:RP E Z y u):∀ {xs:List PV} {vs:List V} (i:Nat),RPs E Z xs vs→RPs E Z (xs.set i y) (vs.set i u)
  | [],_,_,h=>by cases h; exact rfl
  | _ :: _,_,0,⟨v,r,e1,h,t⟩=>by subst e1; exact ⟨u,r,rfl,q,t⟩
  | _ :: _,_,i + 1,⟨v,r,e1,h,t⟩=>by subst e1; exact ⟨v,r.set i u,rfl,h,RPs.set q i t⟩
theorem RPs.take:∀ {xs:List PV} {vs:List V} (n:Nat),RPs E Z xs vs→RPs E Z (xs.take n) (vs.take n)
  | _,_,0,_=>rfl
  | [],_,_ + 1,h=>by cases h; exact rfl
  | _ :: _,_,n + 1,⟨v,r,e1,h,t⟩=>by subst e1; exact ⟨v,r.take n,rfl,h,RPs.take n t⟩
theorem RPs.drop:∀ {xs:List PV} {vs:List V} (n:Nat),RPs E Z xs vs→RPs E Z (xs.drop n) (vs.drop n)
  | _,_,0,h=>h
  | [],_,_ + 1,h=>by cases h; exact rfl
  | _ :: _,_,n + 1,⟨v,r,e1,h,t⟩=>by subst e1; exact RPs.drop n t
theorem RPs.ints:∀ {ns:List Int} {vs:List V},RPs E Z (ns.map PV.int) vs→vs=ns.map V.int
  | [],_,h=>h
  | _ :: _,_,⟨v,r,e1,h,t⟩=>by
    have h':v=V.int _:=h
    subst e1 h'; rw [RPs.ints t]; rfl
theorem RPs.ofInts:∀ (ns:List Int),RPs E Z (ns.map PV.int) (ns.map V.int)
  | []=>rfl
  | n :: r=>⟨.int n,r.map V.int,rfl,rfl,RPs.ofInts r⟩
theorem RPs.reverse:∀ {xs:List PV} {vs:List V},RPs E Z xs vs→RPs E Z xs.reverse vs.reverse
  | [],_,h=>by cases h; exact rfl
  | x :: xs,_,⟨v,r,e1,h,t⟩=>by
    subst e1
    rw [List.reverse_cons,List.reverse_cons]
    exact RPs.append (RPs.reverse t) ⟨v,[],rfl,h,rfl⟩
end
inductive GO where
  | lst (xs:List PV) | ins (c:String) (ns:List Str) (xs:List PV)
noncomputable abbrev Gh:=Addr→Option GO
noncomputable def gup (G:Gh) (a:Addr) (o:GO):Gh:=fun b=>if b=a then some o else G b
noncomputable def SC (G:Gh) (a:Addr):Gh:=fun b=>if b=a then none else G b
theorem aU {G:Gh} {a:Addr} {o:GO}:gup G a o a=some o:=if_pos rfl
theorem cU {G:Gh} {a b:Addr} {o:GO} (h:b≠a):gup G a o b=G b:=if_neg h
theorem mW {G:Gh} {a:Addr} {o u:GO}:gup (gup G a o) a u=gup G a u:=by funext b; unfold gup; split <;> rfl
theorem BN {G:Gh} {a b:Addr} (h:b≠a):SC G a b=G b:=if_neg h
theorem QY {G:Gh} {a:Addr}:SC G a a=none:=if_pos rfl
theorem aAZ {G:Gh} {a:Addr} {o:GO} (h:G a=none):SC (gup G a o) a=G:=by
  funext b; unfold SC gup
  split
  · rename_i e; rw [e]; exact h.symm
  · rfl
noncomputable def RO (E:Ev) (Z:Hp):GO→HO→Prop
  | .lst xs,o=>∃ vs,o= .lst vs∧RPs E Z xs vs
  | .ins c ns xs,o=>∃ dx vs,o= .ins (E.cls c) dx (ns.zip vs)∧ns.length=vs.length∧RPs E Z xs vs
theorem RO.mono {E:Ev} {Z Z':Hp} (e:aQ Z Z'):∀ {o:GO} {o':HO},RO E Z o o'→RO E Z' o o'
  | .lst _,_,⟨vs,a,b⟩=>⟨vs,a,b.mono e⟩
  | .ins _ _ _,_,⟨dx,vs,a,l,b⟩=>⟨dx,vs,a,l,b.mono e⟩
structure Sim (E:Ev) (F H Z:Hp) (G:Gh):Prop where
  z:aQ Z H
  f:∀ a o,F a=some o→H a=some o∧Z a=none∧G a=none
  g:∀ a o,G a=some o→Z a=none∧∃ o',H a=some o'∧RO E Z o o'
section
variable {E:Ev} {F H Z:Hp} {G G':Gh} {p:Addr} {o:HO} {go:GO}
theorem Sim.zn (S:Sim E F H Z G) (n:H p=none):Z p=none:=by
  cases e:Z p with
  | none=>rfl
  | some u=>rw [S.z _ _ e] at n; cases n
theorem Sim.gn (S:Sim E F H Z G) (n:H p=none):G p=none:=by
  cases e:G p with
  | none=>rfl
  | some u=>obtain ⟨_,o',e',_⟩:=S.g _ _ e; rw [e'] at n; cases n
theorem Sim.fn (S:Sim E F H Z G) (n:H p=none):F p=none:=by
  cases e:F p with
  | none=>rfl
  | some u=>rw [(S.f _ _ e).1] at n; cases n
theorem Sim.fz (S:Sim E F H Z G) (n:H p=none):Sim E F (upd H p o) (upd Z p o) G:=by
  have zn:=S.zn n
  have sub:aQ Z (upd Z p o):=dG zn o
  refine ⟨fun a u q=>?_,fun a u q=>?_,fun a u q=>?_⟩
  · by_cases e:a=p
    · subst e; rw [aZ] at q ⊢; exact q
    · rw [aH e] at q ⊢; exact S.z _ _ q
  · obtain ⟨h1,h2,h3⟩:=S.f a u q
    have e:a≠p:=aO h1 n
    exact ⟨by rw [aH e]; exact h1,by rw [aH e]; exact h2,h3⟩
  · obtain ⟨a1,o',a2,r⟩:=S.g a u q
    have e:a≠p:=aO a2 n
    exact ⟨by rw [aH e]; exact a1,o',by rw [aH e]; exact a2,r.mono sub⟩
theorem Sim.new (S:Sim E F H Z G) (n:H p=none) (r:RO E Z go o):Sim E F (upd H p o) Z (gup G p go):=by
  refine ⟨fun a u q=>iA (S.z _ _ q) n,fun a u q=>?_,fun a u q=>?_⟩
  · obtain ⟨h1,h2,h3⟩:=S.f a u q
    have e:a≠p:=aO h1 n
    exact ⟨by rw [aH e]; exact h1,h2,by rw [cU e]; exact h3⟩
  by_cases e:a=p
  · subst e; rw [aU] at q; cases q; exact ⟨S.zn n,o,aZ,r⟩
  · rw [cU e] at q
    obtain ⟨a1,o',a2,r'⟩:=S.g a u q
    exact ⟨a1,o',by rw [aH e]; exact a2,r'⟩
theorem Sim.other (S:Sim E F H Z G) (n:H p=none):Sim E F (upd H p o) Z G:=by
  refine ⟨fun a u q=>iA (S.z _ _ q) n,fun a u q=>⟨iA (S.f a u q).1 n,(S.f a u q).2⟩,fun a u q=>?_⟩
  obtain ⟨a1,o',a2,r'⟩:=S.g a u q
  exact ⟨a1,o',iA a2 n,r'⟩
theorem Sim.set {u:GO} (S:Sim E F H Z G) (n:G p=some u) (r:RO E Z go o):Sim E F (upd H p o) Z (gup G p go):=by
  obtain ⟨z,_,_,_⟩:=S.g _ _ n
  refine ⟨fun a u q=>?_,fun a u' q=>?_,fun a u q=>?_⟩
  · have e:a≠p:=aO q z
    rw [aH e]; exact S.z _ _ q
  · obtain ⟨h1,h2,h3⟩:=S.f a u' q
    have e:a≠p:=fun e=>by subst e; rw [n] at h3; cases h3
    exact ⟨by rw [aH e]; exact h1,h2,by rw [cU e]; exact h3⟩
  · by_cases e:a=p
    · subst e; rw [aU] at q; cases q; exact ⟨z,o,aZ,r⟩
    · rw [cU e] at q
      obtain ⟨a1,o',a2,r'⟩:=S.g a u q
      exact ⟨a1,o',by rw [aH e]; exact a2,r'⟩
theorem Sim.frz {u:GO} (S:Sim E F H Z G) (n:G p=some u) (h:H p=some o):Sim E F H (upd Z p o) (SC G p):=by
  obtain ⟨z,_,_,_⟩:=S.g _ _ n
  refine ⟨fun a u q=>?_,fun a u' q=>?_,fun a u q=>?_⟩
  · by_cases e:a=p
    · subst e; rw [aZ] at q; rw [←q]; exact h
    · rw [aH e] at q; exact S.z _ _ q
  · obtain ⟨h1,h2,h3⟩:=S.f a u' q
    have e:a≠p:=fun e=>by subst e; rw [n] at h3; cases h3
    exact ⟨h1,by rw [aH e]; exact h2,by rw [BN e]; exact h3⟩
  · by_cases e:a=p
    · subst e; rw [QY] at q; cases q
    · rw [BN e] at q
      obtain ⟨a1,o',a2,r'⟩:=S.g a u q
      exact ⟨by rw [aH e]; exact a1,o',a2,r'.mono (dG z o)⟩
theorem Sim.weak (S:Sim E F H Z G) (h:∀ a o,G' a=some o→G a=some o):Sim E F H Z G':=⟨S.z,fun a o q=>⟨(S.f a o q).1,(S.f a o q).2.1,by
  cases e:G' a with
  | none=>rfl
  | some u=>exact absurd (h _ _ e) (by rw [(S.f a o q).2.2]; intro z; cases z)⟩,fun a o q=>S.g a o (h a o q)⟩
theorem Sim.mine (S:Sim E F H Z G) (n:H p=none):Sim E (upd F p o) (upd H p o) Z G:=by
  refine ⟨fun a u q=>iA (S.z _ _ q) n,fun a u q=>?_,fun a u q=>?_⟩
  · by_cases e:a=p
    · subst e; rw [aZ] at q ⊢; exact ⟨q,S.zn n,S.gn n⟩
    · rw [aH e] at q ⊢; exact S.f a u q
  · obtain ⟨a1,o',a2,r'⟩:=S.g a u q
    exact ⟨a1,o',iA a2 n,r'⟩
theorem Sim.turn {u:HO} (S:Sim E (upd F p u) H Z G):Sim E (upd F p o) (upd H p o) Z G:=by
  obtain ⟨h1,h2,h3⟩:=S.f p u aZ
  refine ⟨fun a v q=>?_,fun a v q=>?_,fun a v q=>?_⟩
  · have e:a≠p:=aO q h2
    rw [aH e]; exact S.z _ _ q
  · by_cases e:a=p
    · subst e; rw [aZ] at q ⊢; exact ⟨q,h2,h3⟩
    · rw [aH e] at q ⊢
      exact S.f a v (by rw [aH e]; exact q)
  · obtain ⟨a1,o',a2,r'⟩:=S.g a v q
    have e:a≠p:=fun e=>by subst e; rw [h3] at q; cases q
    exact ⟨a1,o',by rw [aH e]; exact a2,r'⟩
theorem Sim.mineZ (S:Sim E (upd F p o) H Z G) (n:F p=none):Sim E F H (upd Z p o) G:=by
  obtain ⟨h1,h2,h3⟩:=S.f p o aZ
  have sub:aQ Z (upd Z p o):=dG h2 o
  refine ⟨fun a v q=>?_,fun a v q=>?_,fun a v q=>?_⟩
  · by_cases e:a=p
    · subst e; rw [aZ] at q; rw [←q]; exact h1
    · rw [aH e] at q; exact S.z _ _ q
  · have e:a≠p:=aO q n
    obtain ⟨b1,b2,b3⟩:=S.f a v (by rw [aH e]; exact q)
    exact ⟨b1,by rw [aH e]; exact b2,b3⟩
  · obtain ⟨a1,o',a2,r'⟩:=S.g a v q
    have e:a≠p:=fun e=>by subst e; rw [h3] at q; cases q
    exact ⟨by rw [aH e]; exact a1,o',a2,r'.mono sub⟩
theorem Sim.mineG (S:Sim E (upd F p o) H Z G) (n:F p=none) (r:RO E Z go o):Sim E F H Z (gup G p go):=by
  obtain ⟨h1,h2,h3⟩:=S.f p o aZ
  refine ⟨S.z,fun a v q=>?_,fun a v q=>?_⟩
  · have e:a≠p:=aO q n
    obtain ⟨b1,b2,b3⟩:=S.f a v (by rw [aH e]; exact q)
    exact ⟨b1,b2,by rw [cU e]; exact b3⟩
  · by_cases e:a=p
    · subst e; rw [aU] at q; cases q; exact ⟨h2,o,h1,r⟩
    · rw [cU e] at q; exact S.g a v q
end
noncomputable abbrev PSt:=List (Option PV)
noncomputable def RSl (E:Ev) (Z:Hp):Option PV→Option V→Prop
  | none,_=>True
  | some x,o=>∃ v,o=some v∧RP E Z x v
inductive RSt (E:Ev) (Z:Hp):PSt→St→Prop
  | nil:RSt E Z [] []
  | cons {o:Option PV} {u:Option V} {σ':PSt} {σ:St}:RSl E Z o u→RSt E Z σ' σ→RSt E Z (o :: σ') (u :: σ)
section
variable {E:Ev} {Z Z':Hp}
theorem RSl.mono (e:aQ Z Z'):∀ {o:Option PV} {u:Option V},RSl E Z o u→RSl E Z' o u
  | none,_,_=>trivial
  | some _,_,⟨v,a,r⟩=>⟨v,a,r.mono e⟩
theorem RSt.mono (e:aQ Z Z'):∀ {σ':PSt} {σ:St},RSt E Z σ' σ→RSt E Z' σ' σ
  | _,_,.nil=>.nil
  | _,_,.cons a b=>.cons (a.mono e) (RSt.mono e b)
theorem RSt.get:∀ {σ':PSt} {σ:St} {i:Nat} {x:PV},RSt E Z σ' σ→σ'[i]? =some (some x)→∃ v,σ[i]? =some (some v)∧RP E Z x v
  | _,_,_,_,.nil,e=>by simp at e
  | _,_,0,x,.cons a _,e=>by
    simp at e; subst e
    obtain ⟨v,e1,r⟩:=a
    subst e1
    exact ⟨v,rfl,r⟩
  | _,_,i + 1,x,.cons _ b,e=>by
    obtain ⟨v,e1,r⟩:=RSt.get (i:=i) b (by simpa using e)
    exact ⟨v,by simpa using e1,r⟩
theorem RSt.set {x:PV} {v:V} (r:RP E Z x v):∀ {σ':PSt} {σ:St} (i:Nat),RSt E Z σ' σ→RSt E Z (σ'.set i (some x)) (σ.set i (some v))
  | _,_,_,.nil=>.nil
  | _,_,0,.cons _ b=>.cons ⟨v,rfl,r⟩ b
  | _,_,i + 1,.cons a b=>.cons a (RSt.set r i b)
theorem RSt.nones:∀ (n:Nat),RSt E Z (List.replicate n none) (List.replicate n none)
  | 0=>.nil
  | n + 1=>.cons trivial (RSt.nones n)
theorem RSt.append:∀ {a b:PSt} {c d:St},RSt E Z a c→RSt E Z b d→RSt E Z (a ++ b) (c ++ d)
  | _,_,_,_,.nil,h=>h
  | _,_,_,_,.cons r t,h=>.cons r (RSt.append t h)
theorem RSt.vals:∀ {xs:List PV} {vs:List V},RPs E Z xs vs→RSt E Z (xs.map some) (vs.map some)
  | [],_,h=>by cases h; exact .nil
  | _ :: _,_,⟨v,r,e,h,t⟩=>by subst e; exact .cons ⟨v,rfl,h⟩ (RSt.vals t)
noncomputable def aC (n:Nat) (xs:List PV):PSt:=xs.map some ++ List.replicate (n - xs.length) none
theorem RSt.start {N:List Str} {xs:List PV} {vs:List V} (r:RPs E Z xs vs):RSt E Z (aC N.length xs) (L2.start N vs):=by
  unfold aC L2.start
  rw [r.length]
  exact RSt.append (RSt.vals r) (RSt.nones _)
end
noncomputable abbrev PK1:=PV→Gh→Prop
noncomputable abbrev PTE:=PSt→Gh→PK1→Prop
noncomputable abbrev PTT:=PSt→Gh→(Bool→Gh→Prop)→Prop
noncomputable abbrev PTA:=PSt→Gh→(List PV→Gh→Prop)→Prop
structure dF where
  nx:PSt→Gh→Prop
  rt:PK1
  bk:PSt→Gh→Prop
  ct:PSt→Gh→Prop
noncomputable abbrev PTS:=dF→PSt→Gh→Prop
noncomputable def Kq (E:Ev) (F Z:Hp) (Q':PK1) (Q:VK):Prop:= ∀ x v Z1 G1 H1,aQ Z Z1→Sim E F H1 Z1 G1→RP E Z1 x v→Q' x G1→Q v H1
noncomputable def KA (E:Ev) (F:Hp) (n:Nat) (Z:Hp) (Q':List PV→Gh→Prop) (Q:List V→Hp→Prop):Prop:= ∀ xs vs Z1 G1 H1,xs.length=n→aQ Z Z1→Sim E F H1 Z1 G1→RPs E Z1 xs vs→Q' xs G1→Q vs H1
noncomputable def KT (E:Ev) (F Z:Hp) (Q':Bool→Gh→Prop) (Q:Bool→Hp→Prop):Prop:= ∀ b Z1 G1 H1,aQ Z Z1→Sim E F H1 Z1 G1→Q' b G1→Q b H1
noncomputable def KSt (E:Ev) (F Z:Hp) (Q':PSt→Gh→Prop) (Q:St→Hp→Prop):Prop:= ∀ σ' σ Z1 G1 H1,aQ Z Z1→Sim E F H1 Z1 G1→RSt E Z1 σ' σ→Q' σ' G1→Q σ H1
structure KD (E:Ev) (F Z:Hp) (D':dF) (D:HH):Prop where
  nx:KSt E F Z D'.nx D.nx
  rt:Kq E F Z D'.rt D.rt
  bk:KSt E F Z D'.bk D.bk
  ct:KSt E F Z D'.ct D.ct
theorem Kq.mono {E:Ev} {F Z Z2:Hp} {Q':PK1} {Q:VK} (e:aQ Z Z2) (k:Kq E F Z Q' Q):Kq E F Z2 Q' Q:=fun x v Z1 G1 H1 s=>k x v Z1 G1 H1 (e.trans s)
theorem KA.mono {E:Ev} {F Z Z2:Hp} {n:Nat} {Q':List PV→Gh→Prop} {Q:List V→Hp→Prop} (e:aQ Z Z2) (k:KA E F n Z Q' Q):KA E F n Z2 Q' Q:=fun x v Z1 G1 H1 l s=>k x v Z1 G1 H1 l (e.trans s)
theorem KT.mono {E:Ev} {F Z Z2:Hp} {Q':Bool→Gh→Prop} {Q:Bool→Hp→Prop} (e:aQ Z Z2) (k:KT E F Z Q' Q):KT E F Z2 Q' Q:=fun x Z1 G1 H1 s=>k x Z1 G1 H1 (e.trans s)
theorem KSt.mono {E:Ev} {F Z Z2:Hp} {Q':PSt→Gh→Prop} {Q:St→Hp→Prop} (e:aQ Z Z2) (k:KSt E F Z Q' Q):KSt E F Z2 Q' Q:=fun x v Z1 G1 H1 s=>k x v Z1 G1 H1 (e.trans s)
theorem KD.mono {E:Ev} {F Z Z2:Hp} {D':dF} {D:HH} (e:aQ Z Z2) (k:KD E F Z D' D):KD E F Z2 D' D:=⟨k.nx.mono e,k.rt.mono e,k.bk.mono e,k.ct.mono e⟩
noncomputable def low (E:Ev) (F:Hp) (t:PTE):TE:=fun σ H Q=>∃ σ' Z G Q',RSt E Z σ' σ∧Sim E F H Z G∧t σ' G Q'∧Kq E F Z Q' Q
noncomputable def BM (E:Ev) (F:Hp) (t:PTT):TT:=fun σ H Q=>∃ σ' Z G Q',RSt E Z σ' σ∧Sim E F H Z G∧t σ' G Q'∧KT E F Z Q' Q
noncomputable def GG (E:Ev) (F:Hp) (n:Nat) (t:PTA):TA:=fun σ H Q=>∃ σ' Z G Q',RSt E Z σ' σ∧Sim E F H Z G∧t σ' G Q'∧KA E F n Z Q' Q
noncomputable def aFD (E:Ev) (F:Hp) (t:PTS):TS:=fun D σ H=>∃ σ' Z G D',RSt E Z σ' σ∧Sim E F H Z G∧t D' σ' G∧KD E F Z D' D
noncomputable def cY (G:Gh):PV→Option (List PV)
  | .lst xs=>some xs
  | .ref a=>match G a with
    | some (.lst xs)=>some xs
    | _=>none
  | _=>none
section
variable {E:Ev} {F H Z:Hp} {G:Gh} {x:PV} {v:V} {xs:List PV}
theorem eR (S:Sim E F H Z G) (r:RP E Z x v) (h:cY G x=some xs):∃ a vs,v= .ref a∧H a=some (.lst vs)∧RPs E Z xs vs:=by
  cases x with
  | lst ys =>
    cases h
    obtain ⟨a,vs,e,q,t⟩:=r
    exact ⟨a,vs,e,S.z _ _ q,t⟩
  | ref a =>
    have e:v= .ref a:=r
    subst e
    unfold cY at h
    dsimp only at h
    split at h
    · rename_i ys e
      cases h
      obtain ⟨_,o',q,vs,e',t⟩:=S.g _ _ e
      subst e'
      exact ⟨a,vs,rfl,q,t⟩
    · cases h
  | _=>cases h
theorem gJ (S:Sim E F H Z G) (r:RP E Z (.tup xs) v):∃ a vs,v= .ref a∧SqT E.K H a vs∧RPs E Z xs vs:=by
  obtain ⟨a,vs,e,q,t⟩:=r
  exact ⟨a,vs,e,eL S.z q,t⟩
theorem Kq.here {Q':PK1} {Q:VK} (k:Kq E F Z Q' Q) (S:Sim E F H Z G) (q:Q' x G) (r:RP E Z x v):Q v H:=k x v Z G H (aQ.refl Z) S r q
theorem bI {i:Int}:RP E Z (.int i) (.int i):=rfl
theorem iY {i:Str}:RP E Z (.str i) (.str i):=rfl
theorem bW {i:Bool}:RP E Z (.bl i) (.bl i):=rfl
theorem tF:RP E Z .non .non:=rfl
theorem Kq.newZ {Q':PK1} {Q:VK} {p:Addr} {o:HO} (k:Kq E F Z Q' Q) (S:Sim E F H Z G) (n:H p=none) (r:RP E (upd Z p o) x (.ref p)) (q:Q' x G):Q (.ref p) (upd H p o) :=
  k x (.ref p) (upd Z p o) G _ (dG (S.zn n) o) (S.fz n) r q
theorem mU {vs:List V} {p:Addr} (n:Z p=none) (r:RPs E Z xs vs):RP E (upd Z p (.tup vs)) (.tup xs) (.ref p):=⟨p,vs,rfl,SqT.of aZ,r.mono (dG n _)⟩
theorem jZ {vs:List V} {p:Addr} (n:Z p=none) (r:RPs E Z xs vs):RP E (upd Z p (.lst vs)) (.lst xs) (.ref p):=⟨p,vs,rfl,aZ,r.mono (dG n _)⟩
end
noncomputable abbrev P2:=PV→PV→Gh→PK1→Prop
noncomputable def iM (E:Ev) (F:Hp) (p:P2):R2:=fun v u H Q=>∃ x y Z G Q',RP E Z x v∧RP E Z y u∧Sim E F H Z G∧p x y G Q'∧Kq E F Z Q' Q
noncomputable def pI (C:Int→Int→Prop) (g:Int→Int→PV):P2:=fun x y G Q=>match x,y with
  | .int i,.int j=>C i j∧Q (g i j) G
  | _,_=>False
theorem jV {E:Ev} {F:Hp} {C:Int→Int→Prop} {g:Int→Int→V} {g':Int→Int→PV} (hg:∀ Z i j,RP E Z (g' i j) (g i j)) {v u:V} {H:Hp} {Q:VK} (h:iM E F (pI C g') v u H Q):rI C g v u H Q:=by
  obtain ⟨x,y,Z,G,Q',r1,r2,S,q,k⟩:=h
  unfold pI at q
  split at q
  · obtain ⟨c,q⟩:=q
    exact ⟨_,_,r1,r2,c,k.here S q (hg _ _ _)⟩
  · exact q.elim
noncomputable def EE (x y:PV) (G:Gh) (Q:PK1):Prop:=match x,y with
  | .int i,.int j=>Q (.int (i + j)) G
  | .str i,.str j=>i.length + j.length≤sizeLine∧Q (.str (i ++ j)) G
  | .tup xs,.tup ys=>xs≠ []∧ys≠ []∧xs.length + ys.length≤sizeLine∧Q (.tup (xs ++ ys)) G
  | x,y=>∃ xs ys,cY G x=some xs∧cY G y=some ys∧xs.length + ys.length≤sizeLine∧Q (.lst (xs ++ ys)) G
theorem aCU {E:Ev} {x y:PV} {xs ys:List PV} {v u:V} {F H Z:Hp} {G:Gh} {Q':PK1} {Q:VK} (r1:RP E Z x v) (r2:RP E Z y u) (S:Sim E F H Z G) (hx:cY G x=some xs) (hy:cY G y=some ys) (hz:xs.length + ys.length≤sizeLine) (q:Q' (.lst (xs ++ ys)) G) (k:Kq E F Z Q' Q):aJQ v u H Q:=by
  obtain ⟨a,vs,rfl,ha,ta⟩:=eR S r1 hx
  obtain ⟨b,us,rfl,hb,tb⟩:=eR S r2 hy
  exact ⟨a,b,vs,us,rfl,rfl,ha,hb,by rw [←ta.length,←tb.length]; exact hz,fun p n=>k.newZ S n (jZ (S.zn n) (ta.append tb)) q⟩
section
variable {X:Cx} {E:Ev} {F:Hp}
theorem aBO (hK:E.K=X.K):OpR X (binaryOp .Add) (iM E F EE):=by
  refine (aFn.or (KO.or (aCh.or aGz))).imp fun v u H Q h=>?_
  obtain ⟨x,y,Z,G,Q',r1,r2,S,q,k⟩:=h
  unfold EE at q
  split at q
  · exact .inl ⟨_,_,r1,r2,k.here S q bI⟩
  · exact .inr (.inl ⟨_,_,r1,r2,q.1,k.here S q.2 iY⟩)
  · obtain ⟨a,vs,rfl,ha,ta⟩:=gJ S r1
    obtain ⟨b,us,rfl,hb,tb⟩:=gJ S r2
    obtain ⟨ne,ne2,hz,q⟩:=q
    refine .inr (.inr (.inl ⟨a,b,vs,us,rfl,rfl,hK▸ha,hK▸hb, ?_,by rw [←ta.length,←tb.length]; exact hz,fun e=>?_,fun _ p n=>k.newZ S n (mU (S.zn n) (ta.append tb)) q⟩))
    · intro e
      subst e
      have:=ta.length
      exact ne (List.eq_nil_of_length_eq_zero this)
    · subst e
      have:=tb.length
      exact absurd (List.eq_nil_of_length_eq_zero this) ne2
  · obtain ⟨xs,ys,hx,hy,hz,q⟩:=q
    exact .inr (.inr (.inr (aCU r1 r2 S hx hy hz q k)))
noncomputable def zJ (_ j:Int):Prop:=0 < j
noncomputable def aFz (x y:PV) (G:Gh) (Q:PK1):Prop:=match x,y with
  | .int i,.int j=>AS i j∧Q (.int (i * j)) G
  | _,_=>False
noncomputable def EK:Operator→P2
  | .Add=>EE
  | .Sub=>pI (fun _ _=>True) fun i j=>.int (i - j)
  | .Mult=>aFz
  | .FloorDiv=>pI AX fun i j=>.int (i / j)
  | .Mod=>pI zJ fun i j=>.int (i % j)
  | .Pow=>pI CM fun i j=>.int (i ^ j.toNat)
  | .LShift=>pI CM fun i j=>.int (i * 2 ^ j.toNat)
  | _=>fun _ _ _ _=>False
theorem xF {g:Int→Int→V} {v u:V} {H:Hp} {Q:VK} (h:rI (fun _ _=>True) g v u H Q):rI0 g v u H Q:=by
  obtain ⟨i,j,a,b,_,q⟩:=h
  exact ⟨i,j,a,b,q⟩
theorem aCG (hK:E.K=X.K):∀ (op:Operator),OpR X (binaryOp op) (iM E F (EK op))
  | .Add=>aBO hK
  | .Sub=>aHW.imp fun _ _ _ _ h=>xF (jV (fun _ _ _=>bI) h)
  | .Mult=>aBD.imp fun v u H Q h=>by
    obtain ⟨x,y,Z,G,Q',r1,r2,S,q,k⟩:=h
    replace q:aFz x y G Q':=q
    unfold aFz at q
    split at q
    · exact ⟨_,_,r1,r2,q.1,k.here S q.2 bI⟩
    · exact q.elim
  | .FloorDiv=>VE.imp fun _ _ _ _ h=>jV (fun _ _ _=>bI) h
  | .Mod=>aGf.imp fun _ _ _ _ h=>jV (fun _ _ _=>bI) h
  | .Pow=>aGp.imp fun _ _ _ _ h=>jV (fun _ _ _=>bI) h
  | .LShift=>aGK.imp fun _ _ _ _ h=>jV (fun _ _ _=>bI) h
  | .Div=>fun _ _ _ _ _ _ _ _ _ _ _ _ h=>(by obtain ⟨_,_,_,_,_,_,_,_,q,_⟩:=h; exact q.elim)
  | .RShift=>fun _ _ _ _ _ _ _ _ _ _ _ _ h=>(by obtain ⟨_,_,_,_,_,_,_,_,q,_⟩:=h; exact q.elim)
  | .BitOr=>fun _ _ _ _ _ _ _ _ _ _ _ _ h=>(by obtain ⟨_,_,_,_,_,_,_,_,q,_⟩:=h; exact q.elim)
  | .BitXor=>fun _ _ _ _ _ _ _ _ _ _ _ _ h=>(by obtain ⟨_,_,_,_,_,_,_,_,q,_⟩:=h; exact q.elim)
  | .BitAnd=>fun _ _ _ _ _ _ _ _ _ _ _ _ h=>(by obtain ⟨_,_,_,_,_,_,_,_,q,_⟩:=h; exact q.elim)
  | .MatMult=>fun _ _ _ _ _ _ _ _ _ _ _ _ h=>(by obtain ⟨_,_,_,_,_,_,_,_,q,_⟩:=h; exact q.elim)
end
mutual
noncomputable def peq:PV→PV→Bool
  | .non,y=>match y with | .non=>true | _=>false
  | .bl a,y=>match y with | .bl b=>a == b | .int j=>(if a then 1 else 0) == j | _=>false
  | .int i,y=>match y with | .int j=>i == j | .bl b=>i == (if b then 1 else 0) | _=>false
  | .str a,y=>match y with | .str b=>a == b | _=>false
  | .tup xs,y=>match y with | .tup ys=>rE xs ys | _=>false
  | .lst xs,y=>match y with | .lst ys=>rE xs ys | _=>false
  | _,_=>false
noncomputable def rE:List PV→List PV→Bool
  | [],ys=>match ys with | []=>true | _=>false
  | x :: xs,ys=>match ys with | y :: r=>peq x y && rE xs r | []=>false
end
mutual
noncomputable def dat:PV→Option PyData
  | .non=>some .none
  | .bl b=>some (.bool b)
  | .int i=>some (.int i)
  | .str x=>some (.str x)
  | .tup xs=>match lX xs with | some ds=>some (.tuple ds) | none=>none
  | .lst xs=>match lX xs with | some ds=>some (.list ds) | none=>none
  | _=>none
noncomputable def lX:List PV→Option (List PyData)
  | []=>some []
  | x :: xs=>match dat x,lX xs with | some d,some ds=>some (d :: ds) | _,_=>none
end
mutual
theorem KY:∀ {x y:PV} {d e:PyData},dat x=some d→dat y=some e→PyData.eqv d e=peq x y
  | .non,y,d,e,h,q=>by
    simp only [dat] at h; cases h
    cases y <;> simp only [dat] at q <;> (try split at q) <;> cases q <;> simp only [PyData.eqv,peq]
  | .bl _,y,d,e,h,q=>by
    simp only [dat] at h; cases h
    cases y <;> simp only [dat] at q <;> (try split at q) <;> cases q <;> simp only [PyData.eqv,peq]
  | .int _,y,d,e,h,q=>by
    simp only [dat] at h; cases h
    cases y <;> simp only [dat] at q <;> (try split at q) <;> cases q <;> simp only [PyData.eqv,peq]
  | .str _,y,d,e,h,q=>by
    simp only [dat] at h; cases h
    cases y <;> simp only [dat] at q <;> (try split at q) <;> cases q <;> simp only [PyData.eqv,peq]
  | .tup xs,y,d,e,h,q=>by
    simp only [dat] at h
    split at h
    · rename_i ds hd
      cases h
      cases y with
      | tup ys =>
        simp only [dat] at q
        split at q
        · rename_i es he
          cases q
          simp only [PyData.eqv,peq]; exact peqs_ok hd he
        · cases q
      | _=>simp only [dat] at q <;> (try split at q) <;> cases q <;> simp only [PyData.eqv,peq]
    · cases h
  | .lst xs,y,d,e,h,q=>by
    simp only [dat] at h
    split at h
    · rename_i ds hd
      cases h
      cases y with
      | lst ys =>
        simp only [dat] at q
        split at q
        · rename_i es he
          cases q
          simp only [PyData.eqv,peq]; exact peqs_ok hd he
        · cases q
      | _=>simp only [dat] at q <;> (try split at q) <;> cases q <;> simp only [PyData.eqv,peq]
    · cases h
  | .scr _,y,d,e,h,q=>by simp [dat] at h
  | .ob _ _ _,y,d,e,h,q=>by simp [dat] at h
  | .ref _,y,d,e,h,q=>by simp [dat] at h
  | .ty _,y,d,e,h,q=>by simp [dat] at h
  | .cl _,y,d,e,h,q=>by simp [dat] at h
  | .fn _,y,d,e,h,q=>by simp [dat] at h
  | .emp,y,d,e,h,q=>by simp [dat] at h
  | .dct _ _,y,d,e,h,q=>by simp [dat] at h
theorem peqs_ok:∀ {xs ys:List PV} {ds es:List PyData},lX xs=some ds→lX ys=some es→PyData.eqvAll ds es=rE xs ys
  | [],[],_,_,h,q=>by simp only [lX] at h q; cases h; cases q; simp only [PyData.eqvAll,rE]
  | [],y :: ys,_,_,h,q=>by
    simp only [lX] at h q; cases h
    split at q <;> cases q
    simp only [PyData.eqvAll,rE]
  | x :: xs,[],_,_,h,q=>by
    simp only [lX] at h q; cases q
    split at h <;> cases h
    simp only [PyData.eqvAll,rE]
  | x :: xs,y :: ys,_,_,h,q=>by
    simp only [lX] at h q
    split at h <;> cases h
    rename_i hd hds
    split at q <;> cases q
    rename_i he hes
    simp only [PyData.eqvAll,rE]
    rw [KY hd he,peqs_ok hds hes]
end
section
variable {X:Cx} {E:Ev} {pins:List (Addr×Obj)} {σ:L2.St} {F H Z:Hp} {s:Shared}
mutual
theorem rZ (I:Inv X pins σ H s) (hK:E.K=X.K) (hz:aQ Z H):∀ {x:PV} {v:V} {u:Value} {d:PyData},RP E Z x v→aL v u→dat x=some d→∃ as,Reads s.heap u d as
  | .non,v,u,d,r,rv,h=>by
    simp only [dat] at h; cases h
    cases (show v= .non from r); cases rv; exact ⟨[],.none⟩
  | .bl b,v,u,d,r,rv,h=>by
    simp only [dat] at h; cases h
    cases (show v= .bl b from r); cases rv; exact ⟨[],.bool b⟩
  | .int i,v,u,d,r,rv,h=>by
    simp only [dat] at h; cases h
    cases (show v= .int i from r); obtain ⟨t,rfl⟩:=rv; exact ⟨[],.int i t⟩
  | .str x,v,u,d,r,rv,h=>by
    simp only [dat] at h; cases h
    cases (show v= .str x from r); obtain ⟨t,rfl⟩:=rv; exact ⟨[],.str x t⟩
  | .tup xs,v,u,d,r,rv,h=>by
    simp only [dat] at h
    split at h <;> cases h
    rename_i ds hd
    obtain ⟨a,vs,rfl,q,t⟩:=r
    cases rv
    obtain ⟨its,rv,ht,_⟩:=I.tuple (hK▸eL hz q)
    obtain ⟨o,ho,hc,n,hd'⟩:=ht
    obtain ⟨as,q'⟩:=dats_reads I hK hz t rv hd
    exact ⟨as,.tuple ho hc hd' (by simpa using q')⟩
  | .lst xs,v,u,d,r,rv,h=>by
    simp only [dat] at h
    split at h <;> cases h
    rename_i ds hd
    obtain ⟨a,vs,rfl,q,t⟩:=r
    cases rv
    obtain ⟨_,its,n,rv,ho⟩:=I.hok _ _ (hz _ _ q)
    obtain ⟨as,q'⟩:=dats_reads I hK hz t rv hd
    exact ⟨_ :: as,.list ho rfl rfl (by simpa using q')⟩
  | .scr _,v,u,d,r,rv,h=>by simp [dat] at h
  | .ob _ _ _,v,u,d,r,rv,h=>by simp [dat] at h
  | .ref _,v,u,d,r,rv,h=>by simp [dat] at h
  | .ty _,v,u,d,r,rv,h=>by simp [dat] at h
  | .cl _,v,u,d,r,rv,h=>by simp [dat] at h
  | .fn _,v,u,d,r,rv,h=>by simp [dat] at h
  | .emp,v,u,d,r,rv,h=>by simp [dat] at h
  | .dct _ _,v,u,d,r,rv,h=>by simp [dat] at h
theorem dats_reads (I:Inv X pins σ H s) (hK:E.K=X.K) (hz:aQ Z H):∀ {xs:List PV} {vs:List V} {us:List Value} {ds:List PyData},RPs E Z xs vs→aI vs us→lX xs=some ds→∃ as,ReadsAll s.heap us ds as
  | [],_,_,_,r,rv,h=>by
    simp only [lX] at h; cases h
    cases r; cases rv; exact ⟨[],.nil⟩
  | x :: xs,_,_,_,r,rv,h=>by
    simp only [lX] at h
    split at h <;> cases h
    rename_i hd hds
    obtain ⟨v,r',rfl,r1,r2⟩:=r
    cases rv with
    | cons q1 q2 =>
      obtain ⟨as,a⟩:=rZ I hK hz r1 q1 hd
      obtain ⟨bs,b⟩:=dats_reads I hK hz r2 q2 hds
      exact ⟨as ++ bs,.cons a b⟩
end
noncomputable def pur (G:Gh):PV→PV
  | .ref a=>match G a with
    | some (.lst xs)=>.lst xs
    | _=>.ref a
  | x=>x
noncomputable def shp (x:PV):Bool:=match dat x with | some d=>SeqAt.shaped d | none=>false
theorem mZ {G:Gh} (I:Inv X pins σ H s) (hK:E.K=X.K) (S:Sim E F H Z G) {x:PV} {v:V} {u:Value} {d:PyData} (r:RP E Z x v) (rv:aL v u) (h:dat (pur G x)=some d):∃ as,Reads s.heap u d as:=by
  by_cases hx:∃ a,x= .ref a
  · obtain ⟨a,rfl⟩:=hx
    have e:v= .ref a:=r
    subst e
    cases rv
    unfold pur at h
    dsimp only at h
    split at h
    · rename_i xs e
      obtain ⟨_,o',q,vs,e',t⟩:=S.g _ _ e
      subst e'
      simp only [dat] at h
      split at h <;> cases h
      rename_i ds hd
      obtain ⟨_,its,n,rv,ho⟩:=I.hok _ _ q
      obtain ⟨as,q'⟩:=dats_reads I hK S.z t rv hd
      exact ⟨_ :: as,.list ho rfl rfl (by simpa using q')⟩
    · simp [dat] at h
  · have e:pur G x=x:=by
      unfold pur
      split
      · rename_i a; exact absurd ⟨a,rfl⟩ hx
      · rfl
    rw [e] at h
    exact rZ I hK S.z r rv h
noncomputable def pEq (neg:Bool) (x y:PV) (G:Gh) (Q:PK1):Prop:=shp (pur G x)=true∧shp (pur G y)=true∧Q (.bl (if neg then !peq (pur G x) (pur G y) else peq (pur G x) (pur G y))) G
theorem BE {x:PV} (h:shp x=true):∃ d,dat x=some d∧SeqAt.shaped d=true:=by
  unfold shp at h
  split at h
  · rename_i d e; exact ⟨d,e,h⟩
  · cases h
theorem aH7 {k:Nat} (hr:bE k X.A) (hK:E.K=X.K):OpR X (compareOp .Eq) (iM E F (pEq false)):=by
  intro pins s σ H v w u u' Q I rx ry ⟨x,y,Z,G,Q',r1,r2,S,⟨hx,hy,q⟩,kq⟩
  obtain ⟨d,e1,a1⟩:=BE hx
  obtain ⟨e,e2,a2⟩:=BE hy
  obtain ⟨as,q1⟩:=mZ I hK S r1 rx e1
  obtain ⟨bs,q2⟩:=mZ I hK S r2 ry e2
  refine eq_dataH q1 q2 a1 a2 hr.units ⟨.bl _,H,I,rfl, ?_⟩
  rw [KY e1 e2]
  exact kq.here S q bW
theorem UQ {k:Nat} (hr:bE k X.A) (hK:E.K=X.K):OpR X (compareOp .NotEq) (iM E F (pEq true)):=by
  intro pins s σ H v w u u' Q I rx ry ⟨x,y,Z,G,Q',r1,r2,S,⟨hx,hy,q⟩,kq⟩
  obtain ⟨d,e1,a1⟩:=BE hx
  obtain ⟨e,e2,a2⟩:=BE hy
  obtain ⟨as,q1⟩:=mZ I hK S r1 rx e1
  obtain ⟨bs,q2⟩:=mZ I hK S r2 ry e2
  refine ne_dataH q1 q2 a1 a2 hr.units ⟨.bl _,H,I,rfl, ?_⟩
  rw [KY e1 e2]
  exact kq.here S q bW
end
section
variable {E:Ev} {F H Z:Hp} {G:Gh} {X:Cx}
theorem VU {xs:List PV} {vs:List V} {i:Int} {x:PV} (r:RPs E Z xs vs) (h:atI xs i=some x):∃ v,atI vs i=some v∧RP E Z x v:=by
  unfold atI at *
  rw [←r.length]
  cases e:ixN xs.length i with
  | none=>rw [e] at h; cases h
  | some j=>rw [e] at h; exact r.get h
noncomputable def AO:List Key→List PV→Key→Option PV
  | j :: ks,x :: xs,k=>if j=k then some x else AO ks xs k
  | _,_,_=>none
noncomputable def wB (x y:PV) (G:Gh) (Q:PK1):Prop:=match x,y with
  | .tup xs,.int i=>∃ v,atI xs i=some v∧Q v G
  | .scr ns,.int i=>∃ n,atI ns i=some n∧Q (.int n) G
  | .str z,.int i=>z.length≤sizeLine∧∃ c,atI z.cps.toList i=some c∧Q (.str ⟨#[c]⟩) G
  | .dct ks xs,.int i=>∃ v,AO ks xs (.inl i)=some v∧Q v G
  | .dct ks xs,.str z=>∃ v,AO ks xs (.inr z)=some v∧Q v G
  | x,.int i=>∃ xs v,cY G x=some xs∧atI xs i=some v∧Q v G
  | _,_=>False
theorem xS {k:Key} {x:PV}:∀ {ks:List Key} {xs:List PV} {vs:List V},RPs E Z xs vs→AO ks xs k=some x→∃ v,valV (ks.zip vs) k=some v∧RP E Z x v
  | [],_,_,_,h=>by cases h
  | _ :: _,[],_,_,h=>by cases h
  | j :: ks,y :: ys,_,⟨v,r,e,r1,r2⟩,h=>by
    subst e
    unfold AO at h
    rw [List.zip_cons_cons]
    split at h
    · rename_i ej; cases h; exact ⟨v,pX ej,r1⟩
    · rename_i ej
      rw [pQ ej]
      exact xS (ks:=ks) r2 h
theorem aCn {α β:Type} {f:α→β} {xs:List α} {i:Int} {x:α} (h:atI xs i=some x):atI (xs.map f) i=some (f x):=by
  unfold atI at *
  rw [List.length_map]
  cases e:ixN xs.length i with
  | none=>rw [e] at h; cases h
  | some j =>
    rw [e] at h
    have h':xs[j]? =some x:=h
    show (xs.map f)[j]? =some (f x)
    rw [List.getElem?_map,h']; rfl
theorem aF9 {k:Nat} (hr:bE k X.A) (hK:E.K=X.K):IxR X (iM E F wB):=by
  refine (aHO.or (aDr hr)).imp fun v u H Q h=>?_
  obtain ⟨x,y,Z,G,Q',r1,r2,S,q,k⟩:=h
  unfold wB at q
  split at q
  · obtain ⟨y,e,q⟩:=q
    obtain ⟨a,vs,rfl,ha,ta⟩:=gJ S r1
    obtain ⟨w,e',rw'⟩:=VU ta e
    exact .inl (.inr (.inl ⟨a,vs,_,w,rfl,r2,hK▸ha,e',k.here S q rw'⟩))
  · obtain ⟨n,e,q⟩:=q
    obtain ⟨a,rfl,ha⟩:=r1
    exact .inl (.inl ⟨a,_,_,_,rfl,r2,hK▸S.z.seq ha,aCn e,k.here S q bI⟩)
  · obtain ⟨hz,c,e,q⟩:=q
    exact .inl (.inr (.inr ⟨_,_,c,r1,r2,hz,e,k.here S q iY⟩))
  · obtain ⟨y,e,q⟩:=q
    obtain ⟨a,vs,rfl,ha,_,ta⟩:=r1
    obtain ⟨w,e',rw'⟩:=xS ta e
    have r2:u=kV (.inl _):=r2
    rw [r2]
    refine .inr ⟨a,w,rfl, ?_,k.here S q rw'⟩
    rw [←e']; exact .k (S.z _ _ ha)
  · obtain ⟨y,e,q⟩:=q
    obtain ⟨a,vs,rfl,ha,_,ta⟩:=r1
    obtain ⟨w,e',rw'⟩:=xS ta e
    have r2:u=kV (.inr _):=r2
    rw [r2]
    refine .inr ⟨a,w,rfl, ?_,k.here S q rw'⟩
    rw [←e']; exact .k (S.z _ _ ha)
  · obtain ⟨xs,y,e0,e,q⟩:=q
    obtain ⟨a,vs,rfl,ha,ta⟩:=eR S r1 e0
    obtain ⟨w,e',rw'⟩:=VU ta e
    exact .inl (.inl ⟨a,vs,_,w,rfl,r2,SqL.of ha,e',k.here S q rw'⟩)
  · exact q.elim
noncomputable def aC5 (o i v:PV) (G:Gh) (Q:Gh→Prop):Prop:= ∃ a xs k j,o= .ref a∧i= .int k∧G a=some (.lst xs)∧ixN xs.length k=some j∧Q (gup G a (.lst (xs.set j v)))
noncomputable def aFQ (E:Ev) (F:Hp) (p:PV→PV→PV→Gh→(Gh→Prop)→Prop):aBG:=fun o i v H Q=>∃ o' i' v' Z G Q',RP E Z o' o∧RP E Z i' i∧RP E Z v' v∧Sim E F H Z G∧p o' i' v' G Q'∧∀ G1 H1,Sim E F H1 Z G1→Q' G1→Q H1
theorem aDq:aFS X (aFQ E F aC5):=by
  intro pins s σ H o i v ov iv u Q I ro ri rv ⟨o',i',v',Z,G,Q',r1,r2,r3,S,⟨a,xs,k,j,e1,e2,hG,ix,q⟩,kq⟩
  subst e1 e2
  have e1:o= .ref a:=r1
  have e2:i= .int k:=r2
  subst e1 e2
  obtain ⟨_,o',hH,vs,e,t⟩:=S.g _ _ hG
  subst e
  exact VN pins s σ H (.ref a) (.int k) v ov iv u Q I ro ri rv ⟨a,vs,k,j,rfl,rfl,hH,by rw [←t.length]; exact ix,kq _ _ (S.set (go:=.lst (xs.set j v')) hG ⟨_,rfl,t.set r3 j⟩) q⟩
noncomputable def pO (xs:List PV) (lo hi:Option Int):List PV:=(xs.drop (HT.sIx xs.length 0 lo)).take (HT.sIx xs.length xs.length hi - HT.sIx xs.length 0 lo)
theorem IK {xs:List PV} {vs:List V} {lo hi:Option Int} (r:RPs E Z xs vs):RPs E Z (pO xs lo hi) (GJ vs lo hi):=by
  unfold pO GJ
  rw [r.length]
  exact (r.drop _).take _
noncomputable def VY (x:PV) (lo hi:Option Int) (G:Gh) (Q:PK1):Prop:=match x with
  | .tup xs=>Q (.tup (pO xs lo hi)) G
  | .scr ns=>Q (.lst (pO (ns.map .int) lo hi)) G
  | x=>∃ xs,cY G x=some xs∧Q (.lst (pO xs lo hi)) G
noncomputable def aJs (E:Ev) (F:Hp) (p:PV→Option Int→Option Int→Gh→PK1→Prop):V→Option Int→Option Int→Hp→VK→Prop:=fun v lo hi H Q=>∃ x Z G Q',RP E Z x v∧Sim E F H Z G∧p x lo hi G Q'∧Kq E F Z Q' Q
theorem SlR.imp {r r':V→Option Int→Option Int→Hp→VK→Prop} (h:SlR X r) (f:∀ x l u H Q,r' x l u H Q→r x l u H Q):SlR X r':=fun pins s σ H x v vl vu lo hi sl Q I rx hs pl pu q=>h pins s σ H x v vl vu lo hi sl Q I rx hs pl pu (f _ _ _ _ _ q)
theorem aGn (hK:E.K=X.K):SlR X (aJs E F VY):=by
  refine SlR.imp (SlR.or (SlR.or aFd aBT) aCy) fun v lo hi H Q h=>?_
  obtain ⟨x,Z,G,Q',r1,S,q,k⟩:=h
  unfold VY at q
  split at q
  · rename_i xs
    have r0:=r1
    obtain ⟨a,vs,rfl,ha,ta⟩:=gJ S r1
    by_cases w:HT.sIx vs.length 0 lo=0∧HT.sIx vs.length vs.length hi=vs.length
    · refine .inl (.inr ⟨a,vs,rfl,hK▸ha,w, ?_⟩)
      have e:pO xs lo hi=xs:=by
        unfold pO
        rw [ta.length,w.1,w.2,List.drop_zero,Nat.sub_zero,←ta.length,List.take_length]
      rw [e] at q
      exact k _ _ _ _ _ (aQ.refl _) S r0 q
    · exact .inl (.inl ⟨a,vs,rfl,hK▸ha,w,fun p n=>k.newZ S n (mU (S.zn n) (IK ta)) q⟩)
  · obtain ⟨a,rfl,ha⟩:=r1
    exact .inr ⟨a,_,rfl,hK▸S.z.seq ha,fun p n=>k.newZ S n (jZ (S.zn n) (IK (RPs.ofInts _))) q⟩
  · obtain ⟨xs,e0,q⟩:=q
    obtain ⟨a,vs,rfl,ha,ta⟩:=eR S r1 e0
    exact .inr ⟨a,vs,rfl,SqL.of ha,fun p n=>k.newZ S n (jZ (S.zn n) (IK ta)) q⟩
noncomputable def CU (x:PV) (G:Gh) (Q:Bool→Gh→Prop):Prop:=match x with
  | .non=>Q false G
  | .bl b=>Q b G
  | .int i=>Q (i != 0) G
  | .str y=>y.length≤sizeLine∧Q ((y.length:Int) != 0) G
  | .tup xs=>Q (!xs.isEmpty) G
  | x=>∃ xs,cY G x=some xs∧Q (!xs.isEmpty) G
theorem zN {xs:List PV} {vs:List V} (r:RPs E Z xs vs):xs.isEmpty=vs.isEmpty:=by
  cases xs with
  | nil=>cases r; rfl
  | cons x xs=>obtain ⟨_,_,e,_,_⟩:=r; subst e; rfl
theorem vL {x:PV} {v:V} {Q':Bool→Gh→Prop} (hK:E.K=X.K) (S:Sim E F H Z G) (r:RP E Z x v) (q:CU x G Q'):∃ b,PX X.K v H b∧Q' b G:=by
  unfold CU at q
  split at q
  · cases (show v= .non from r); exact ⟨_,rfl,q⟩
  · cases (show v= .bl _ from r); exact ⟨_,rfl,q⟩
  · cases (show v= .int _ from r); exact ⟨_,rfl,q⟩
  · cases (show v= .str _ from r); exact ⟨_,⟨q.1,rfl⟩,q.2⟩
  · obtain ⟨a,vs,rfl,ha,ta⟩:=gJ S r
    exact ⟨_,.inr (.inl ⟨vs,hK▸ha,by rw [zN ta]⟩),q⟩
  · obtain ⟨xs,e0,q⟩:=q
    obtain ⟨a,vs,rfl,ha,ta⟩:=eR S r e0
    exact ⟨_,.inl ⟨vs,SqL.of ha,by rw [zN ta]⟩,q⟩
inductive Bn where
  | len | abs | max | min | int | str | isi | tuple | list | all | any | sum | bool | repr | divmod
  deriving DecidableEq
noncomputable abbrev Sp3:=List PV→Gh→PK1→Prop
noncomputable def RA (E:Ev) (F:Hp) (p:List PV→Gh→PK1→Prop):List V→Hp→VK→Prop:=fun vs H Q=>∃ xs Z G Q',RPs E Z xs vs∧Sim E F H Z G∧p xs G Q'∧Kq E F Z Q' Q
noncomputable def sY:PV→Gh→Option String
  | .non,_=>some "NoneType"
  | .bl _,_=>some "bool"
  | .int _,_=>some "int"
  | .str _,_=>some "str"
  | .tup _,_=>some "tuple"
  | .lst _,_=>some "list"
  | .emp,_=>some "dict"
  | .dct _ _,_=>some "dict"
  | .ref a,G=>match G a with
    | some (.lst _)=>some "list"
    | _=>none
  | _,_=>none
noncomputable def RH:PV→Gh→Option String
  | .ob c _ _,_=>some c
  | .ref a,G=>match G a with
    | some (.ins c _ _)=>some c
    | _=>none
  | _,_=>none
structure VX (E:Ev) (cs:List String):Prop where
  own:∀ c∈cs,aCN E.K (E.cls c)
  plain:∀ c∈cs,∀ n∈ZT,W.kitOne E.K (.type n) (.ref (E.cls c))=some false
  other:∀ c∈cs,∀ T∈nH,W.kitOne E.K (.ref (E.cls c)) (.type T)=some false
  apart:∀ c∈cs,∀ c'∈cs,c≠c'→W.kitOne E.K (.ref (E.cls c)) (.ref (E.cls c'))=some false
noncomputable def PB:List PV→Option Bool
  | []=>some true
  | .bl b :: r=>(PB r).map (b && ·)
  | _ :: _=>none
theorem NA:∀ {xs:List PV} {b:Bool},PB xs=some b→∃ bs:List Bool,xs=bs.map PV.bl∧b=bs.all id
  | [],b,h=>by cases h; exact ⟨[],rfl,rfl⟩
  | x :: r,b,h=>by
    cases x with
    | bl c =>
      unfold PB at h
      cases e:PB r with
      | none=>rw [e] at h; cases h
      | some d =>
        rw [e] at h; cases h
        obtain ⟨bs,e1,e2⟩:=NA e
        exact ⟨c :: bs,by rw [e1]; rfl,by rw [e2]; rfl⟩
    | _=>cases h
theorem RPs.bools:∀ {bs:List Bool} {vs:List V},RPs E Z (bs.map PV.bl) vs→vs=bs.map V.bl
  | [],_,h=>h
  | _ :: _,_,⟨v,r,e1,h,t⟩=>by
    have h':v=V.bl _:=h
    subst e1 h'; rw [RPs.bools t]; rfl
noncomputable def eI (cs:List String):Bn→List PV→Gh→PK1→Prop
  | .len,[x],G,Q=>(∃ xs,x= .tup xs∧Q (.int xs.length) G)∨(∃ ns,x= .scr ns∧Q (.int ns.length) G)∨(∃ z,x= .str z∧z.length≤sizeLine∧Q (.int z.length) G)∨∃ xs,cY G x=some xs∧Q (.int xs.length) G
  | .abs,[.int i],G,Q=>Q (.int (i.natAbs:Int)) G
  | .max,[.int i,.int j],G,Q=>Q (.int (max i j)) G
  | .max,[.tup xs],G,Q=>∃ ns:List Int,xs=ns.map PV.int∧ns≠ []∧∀ m,m∈ns→(∀ x∈ns,x≤m)→Q (.int m) G
  | .min,[.int i,.int j],G,Q=>Q (.int (min i j)) G
  | .int,[.int i],G,Q=>Q (.int i) G
  | .int,[.bl b],G,Q=>Q (.int (if b then 1 else 0)) G
  | .str,[.int i],G,Q=>i.natAbs.log2 < 1920∧Q (.str (toString i)) G
  | .isi,[x,.ty T],G,Q=>T∈nH∧((∃ n,sY x G=some n∧Q (.bl (pA n T)) G)∨∃ c,RH x G=some c∧c∈cs∧Q (.bl false) G)
  | .isi,[x,.cl c],G,Q=>c∈cs∧((∃ n,sY x G=some n∧Q (.bl false) G)∨∃ c',RH x G=some c'∧c'∈cs∧Q (.bl (decide (c'=c))) G)
  | .tuple,[x],G,Q=>(∃ xs,x= .tup xs∧Q x G)∨∃ xs,cY G x=some xs∧Q (.tup xs) G
  | .all,[x],G,Q=>∃ xs b,cY G x=some xs∧PB xs=some b∧Q (.bl b) G
  | _,_,_,_=>False
noncomputable def UU:Bn→Value
  | .len=>.builtin "len"
  | .abs=>.builtin "abs"
  | .max=>.builtin "max"
  | .min=>.builtin "min"
  | .int=>.type "int"
  | .str=>.type "str"
  | .isi=>.builtin "isinstance"
  | .tuple=>.type "tuple"
  | .list=>.type "list"
  | .all=>.builtin "all"
  | .any=>.builtin "any"
  | .sum=>.builtin "sum"
  | .bool=>.type "bool"
  | .repr=>.builtin "repr"
  | .divmod=>.builtin "divmod"
theorem yT {x:PV} {vs:List V} (r:RPs E Z [x] vs):∃ v,vs=[v]∧RP E Z x v:=by
  obtain ⟨v,t,e,r1,r2⟩:=r
  have e2:t=[]:=r2
  subst e2
  exact ⟨v,e,r1⟩
theorem aBU {x y:PV} {vs:List V} (r:RPs E Z [x,y] vs):∃ v u,vs=[v,u]∧RP E Z x v∧RP E Z y u:=by
  obtain ⟨v,t,e,r1,u,t',e',r2,r3⟩:=r
  have e2:t'=[]:=r3
  subst e2 e'
  exact ⟨v,u,e,r1,r2⟩
theorem CI {x:PV} {v:V} {n:String} (S:Sim E F H Z G) (r:RP E Z x v) (h:sY x G=some n):n∈ZT∧(tyN H v=some n∨(n="tuple"∧∃ a vs,v= .ref a∧SqT E.K H a vs)):=by
  cases x with
  | non=>cases h; cases (show v= .non from r); exact ⟨by decide,.inl rfl⟩
  | bl b=>cases h; cases (show v= .bl b from r); exact ⟨by decide,.inl rfl⟩
  | int b=>cases h; cases (show v= .int b from r); exact ⟨by decide,.inl rfl⟩
  | str b=>cases h; cases (show v= .str b from r); exact ⟨by decide,.inl rfl⟩
  | tup xs =>
    cases h
    obtain ⟨a,vs,rfl,ha,_⟩:=gJ S r
    exact ⟨by decide,.inr ⟨rfl,a,vs,rfl,ha⟩⟩
  | lst xs =>
    cases h
    obtain ⟨a,vs,rfl,ha,_⟩:=eR (xs:=xs) S r rfl
    exact ⟨by decide,.inl (by simp only [tyN,ha])⟩
  | emp =>
    cases h
    obtain ⟨a,rfl,ha⟩:=r
    exact ⟨by decide,.inl (by simp only [tyN,S.z _ _ ha])⟩
  | dct ks xs =>
    cases h
    obtain ⟨a,vs,rfl,ha,_,_⟩:=r
    exact ⟨by decide,.inl (by simp only [tyN,S.z _ _ ha])⟩
  | ref a =>
    unfold sY at h
    dsimp only at h
    split at h
    · rename_i xs e
      cases h
      obtain ⟨a',vs,rfl,ha,_⟩:=eR (xs:=xs) S r (by unfold cY; dsimp only; rw [e])
      exact ⟨by decide,.inl (by simp only [tyN,ha])⟩
    · cases h
  | _=>cases h
theorem NJ {pins:List (Addr×Obj)} {σ:L2.St} {s:Shared} {x:PV} {v:V} {u c:Value} {n:String} {b:Bool} {Q:VK} (hK:E.K=X.K) (I:Inv X pins σ H s) (S:Sim E F H Z G) (r:RP E Z x v) (rv:aL v u) (h:sY x G=some n)
    (e:W.kitOne X.K (.type n) c=some b) (q:Q (.bl b) H):wpAny (model X.prog X.w) X.A (call (.builtin "isinstance") [u,c]) (EP X pins σ Q) X.xe s:=by
  obtain ⟨_,t | ⟨hn,a,vs,hv,ha⟩⟩:=CI S r h
  · exact zW I rv (aHD t) e fun tk=>⟨.bl b,H,I.tok tk,rfl,q⟩
  · subst hn hv
    cases rv
    obtain ⟨its,_,⟨o,h1,h2,_⟩,_⟩:=I.tuple (hK▸ha)
    exact W.kia_one W.kitx_tuple I.kIn ⟨o,h1,h2⟩ e (fun z=>nomatch z) fun tk=>⟨.bl b,H,I.tok tk,rfl,q⟩
theorem aBv {x:PV} {v:V} {c:String} (S:Sim E F H Z G) (r:RP E Z x v) (h:RH x G=some c):∃ a dx fs,v= .ref a∧H a=some (.ins (E.cls c) dx fs):=by
  cases x with
  | ob c' ns xs =>
    cases h
    obtain ⟨a,dx,vs,rfl,q,_,_⟩:=r
    exact ⟨a,dx,_,rfl,S.z _ _ q⟩
  | ref a =>
    unfold RH at h
    dsimp only at h
    split at h
    · rename_i c' ns xs e
      cases h
      have e1:v= .ref a:=r
      subst e1
      obtain ⟨_,o',q,dx,vs,e',_,_⟩:=S.g _ _ e
      subst e'
      exact ⟨a,dx,_,rfl,q⟩
    · cases h
  | _=>cases h
theorem BI {pins:List (Addr×Obj)} {σ:L2.St} {s:Shared} {x:PV} {v:V} {u t:Value} {c:String} {b:Bool} {Q:VK} (hK:E.K=X.K) (I:Inv X pins σ H s) (S:Sim E F H Z G) (r:RP E Z x v) (rv:aL v u) (h:RH x G=some c) (O:aCN E.K (E.cls c))
    (e:W.kitOne X.K (.ref (E.cls c)) t=some b) (q:Q (.bl b) H):wpAny (model X.prog X.w) X.A (call (.builtin "isinstance") [u,t]) (EP X pins σ Q) X.xe s:=by
  obtain ⟨a,dx,fs,rfl,ha⟩:=aBv S r h
  have O:aCN X.K (E.cls c):=hK▸O
  exact zW I rv (.ins ha O.cl O.ha O.hn O.htk O.hm) e fun tk=>⟨.bl b,H,I.tok tk,rfl,q⟩
theorem bF.or {f:Value} {r r':List V→Hp→VK→Prop} (h:bF X f r) (h':bF X f r'):bF X f (fun xs H Q=>r xs H Q∨r' xs H Q):=by
  intro pins s σ H xs us Q I rs q
  rcases q with q | q
  · exact h pins s σ H xs us Q I rs q
  · exact h' pins s σ H xs us Q I rs q
theorem noC {f:Value} {p:List PV→Gh→PK1→Prop} (h:∀ xs G Q,¬p xs G Q):bF X f (RA E F p):=fun _ _ _ _ _ _ _ _ _ ⟨_,_,_,_,_,_,q,_⟩=>absurd q (h _ _ _)
theorem NF {cs:List String} (hK:E.K=X.K) (hc:X.calm=true) (C:VX E cs):∀ b,bF X (UU b) (RA E F (eI cs b))
  | .len =>by
    refine (bF.or CC DM).imp fun vs H Q h=>?_
    obtain ⟨xs,Z,G,Q',r,S,q,k⟩:=h
    match xs,q with
    | [x],q =>
      obtain ⟨v,rfl,rr⟩:=yT r
      rcases q with ⟨ys,rfl,q⟩ | ⟨ns,rfl,q⟩ | ⟨z,rfl,hz,q⟩ | ⟨ys,e,q⟩
      · obtain ⟨a,vs,rfl,ha,ta⟩:=gJ S rr
        exact .inl ⟨a,vs,rfl,.inr (hK▸ha),k.here S q (by rw [ta.length]; exact bI)⟩
      · obtain ⟨a,rfl,ha⟩:=rr
        exact .inl ⟨a,_,rfl,.inl (hK▸S.z.seq ha),k.here S q (by rw [List.length_map]; exact bI)⟩
      · exact .inr ⟨z,by rw [show v= .str z from rr],hz,k.here S q bI⟩
      · obtain ⟨a,vs,rfl,ha,ta⟩:=eR S rr e
        exact .inl ⟨a,vs,rfl,.inl (SqL.of ha),k.here S q (by rw [ta.length]; exact bI)⟩
  | .abs=>by
    refine QI.imp fun vs H Q h=>?_
    obtain ⟨xs,Z,G,Q',r,S,q,k⟩:=h
    match xs,q with
    | [.int i],q =>
      obtain ⟨v,rfl,rr⟩:=yT r
      exact ⟨i,by rw [show v= .int i from rr],k.here S q bI⟩
  | .max=>by
    refine (bF.or (TZ hc) (QM hc)).imp fun vs H Q h=>?_
    obtain ⟨xs,Z,G,Q',r,S,q,k⟩:=h
    match xs,q with
    | [.int i,.int j],q =>
      obtain ⟨v,u,rfl,r1,r2⟩:=aBU r
      have e:max i j=if j > i then j else i:=by split <;> omega
      exact .inl ⟨i,j,by rw [show v= .int i from r1,show u= .int j from r2],k.here S q (by rw [e]; exact bI)⟩
    | [.tup ys],q =>
      obtain ⟨v,rfl,rr⟩:=yT r
      obtain ⟨ns,rfl,hne,q⟩:=q
      obtain ⟨a,vs,rfl,ha,ta⟩:=gJ S rr
      exact .inr ⟨a,ns,rfl,by rw [←ta.ints]; exact hK▸ha,hne,fun m h1 h2=>k.here S (q m h1 h2) bI⟩
  | .min=>by
    refine (SJ hc).imp fun vs H Q h=>?_
    obtain ⟨xs,Z,G,Q',r,S,q,k⟩:=h
    match xs,q with
    | [.int i,.int j],q =>
      obtain ⟨v,u,rfl,r1,r2⟩:=aBU r
      have e:min i j=if j < i then j else i:=by split <;> omega
      exact ⟨i,j,by rw [show v= .int i from r1,show u= .int j from r2],k.here S q (by rw [e]; exact bI)⟩
  | .int=>by
    refine ST.imp fun vs H Q h=>?_
    obtain ⟨xs,Z,G,Q',r,S,q,k⟩:=h
    match xs,q with
    | [.int i],q =>
      obtain ⟨v,rfl,rr⟩:=yT r
      exact .inl ⟨i,by rw [show v= .int i from rr],k.here S q bI⟩
    | [.bl i],q =>
      obtain ⟨v,rfl,rr⟩:=yT r
      exact .inr ⟨i,by rw [show v= .bl i from rr],k.here S q bI⟩
  | .str=>by
    refine CA.imp fun vs H Q h=>?_
    obtain ⟨xs,Z,G,Q',r,S,q,k⟩:=h
    match xs,q with
    | [.int i],q =>
      obtain ⟨v,rfl,rr⟩:=yT r
      exact ⟨i,by rw [show v= .int i from rr],q.1,k.here S q.2 iY⟩
  | .isi =>by
    intro pins s σ H vs us Q I rv h
    obtain ⟨xs,Z,G,Q',r,S,q,k⟩:=h
    match xs,q with
    | [x,.ty T],q =>
      obtain ⟨v,w',rfl,r1,r2⟩:=aBU r
      obtain ⟨u,u',rfl,rv1,rv2⟩:=ND rv
      have e:w'= .ty T:=r2
      subst e
      have e2:u'= .type T:=rv2
      subst e2
      obtain ⟨hT,⟨n,hn,q⟩ | ⟨c,hcn,hcs,q⟩⟩:=q
      · exact NJ hK I S r1 rv1 hn (aGZ X.K n (CI S r1 hn).1 T hT) (k.here S q bW)
      · exact BI hK I S r1 rv1 hcn (C.own c hcs) (hK▸C.other c hcs T hT) (k.here S q bW)
    | [x, .cl c],q =>
      obtain ⟨v,w',rfl,r1,r2⟩:=aBU r
      obtain ⟨u,u',rfl,rv1,rv2⟩:=ND rv
      have e:w'= .ref (E.cls c):=r2
      subst e
      have e2:u'= .ref (E.cls c):=rv2
      subst e2
      obtain ⟨hcs,⟨n,hn,q⟩ | ⟨c',hcn,hcs',q⟩⟩:=q
      · exact NJ hK I S r1 rv1 hn (hK▸C.plain c hcs n (CI S r1 hn).1) (k.here S q bW)
      · by_cases e:c'=c
        · subst e
          rw [decide_eq_true rfl] at q
          exact BI hK I S r1 rv1 hcn (C.own _ hcs') (by unfold W.kitOne; rw [if_pos (beq_self_eq_true _)]) (k.here S q bW)
        · rw [decide_eq_false e] at q
          exact BI hK I S r1 rv1 hcn (C.own _ hcs') (hK▸C.apart c' hcs' c hcs e) (k.here S q bW)
  | .tuple=>by
    refine yV.imp fun vs H Q h=>?_
    obtain ⟨xs,Z,G,Q',r,S,q,k⟩:=h
    match xs,q with
    | [x],q =>
      obtain ⟨v,rfl,rr⟩:=yT r
      rcases q with ⟨ys,rfl,q⟩ | ⟨ys,e,q⟩
      · obtain ⟨a,vs,e,ha,ta⟩:=gJ S rr
        subst e
        exact ⟨a,vs,rfl,.inr ⟨hK▸ha,k.here S q rr⟩⟩
      · obtain ⟨a,vs,rfl,ha,ta⟩:=eR S rr e
        exact ⟨a,vs,rfl,.inl ⟨SqL.of ha,fun l n=>k.newZ S n (mU (S.zn n) ta) q⟩⟩
  | .list=>noC fun xs G Q q=>by unfold eI at q; exact q
  | .divmod=>noC fun xs G Q q=>by unfold eI at q; exact q
  | .all=>by
    refine (PL hc).imp fun vs H Q h=>?_
    obtain ⟨xs,Z,G,Q',r,S,q,k⟩:=h
    match xs,q with
    | [x],q =>
      obtain ⟨v,rfl,rr⟩:=yT r
      obtain ⟨ys,b,e,eb,q⟩:=q
      obtain ⟨bs,e1,e2⟩:=NA eb
      subst e1 e2
      obtain ⟨a,vs,rfl,ha,ta⟩:=eR S rr e
      exact ⟨a,bs,rfl,by rw [←ta.bools]; exact ha,k.here S q bW⟩
  | .any=>noC fun xs G Q q=>by unfold eI at q; exact q
  | .sum=>noC fun xs G Q q=>by unfold eI at q; exact q
  | .bool=>noC fun xs G Q q=>by unfold eI at q; exact q
  | .repr=>noC fun xs G Q q=>by unfold eI at q; exact q
end
inductive Ar where
  | arg (i:Nat) | non | bl (b:Bool) | int (i:Int) | str (x:Str)
  deriving DecidableEq
noncomputable def Ar.val (xs:List PV):Ar→PV
  | .arg i=>xs.getD i .non
  | .non=>.non
  | .bl b=>.bl b
  | .int i=>.int i
  | .str x=>.str x
inductive CE where
  | var (i:Nat) | int (i:Int) | bl (b:Bool) | non | str (x:Str) | glo (x:Str)
  | bin (op:Operator) (a b:CE) | neg (a:CE) | no (a:CE)
  | cmp (op:CmpOp) (a b:CE) | chn (op op':CmpOp) (a b c:CE)
  | an (a b:CE) | oo (a b:CE) | tst (a:CE) | tsb (a:CE)
  | tup (es:CE) | lst (m:Bool) (es:CE) | nil | cons (a b:CE)
  | idx (a i:CE) | sli (a lo hi:CE) | rev (a:CE) | att (a:CE) (f:Str)
  | cal (f:Str) (es:CE) | cak (f:Str) (es ks:CE) (ar:List Ar) | blt (b:Bn) (es:CE) | app (a e:CE)
  | cmpr (m:Bool) (tg it ts el:CE) (js:List (Option Nat))
  | isq (e:CE) | irg (es:CE) | ien (e:CE) | izp (es:CE)
  | gn (i:Nat) | gt (n:Nat) (gs:CE)
  | ceq (eqs:List (String×Str)) (a b:CE) | dct (es:CE) | bow (b:Bn) (ls:List (String×Str)) (es:CE) | joi (a e:CE) | fst (es:CE) | cne (eqs:List (String×Str)) (a b:CE) | gl (n:Nat) (gs:CE) | rpr (e:CE) | gix (ks:List (Str×Str)) (e:CE) | gin (neg:Bool) (ks:List (Str×Str)) (e:CE) | cav (fs:List (Str×Nat×List Ar)) (i:Nat) (es:CE)
inductive CS where
  | nil | seq (a b:CS) | ex (e:CE) | asg (g e:CE) | par (i j:Nat) (a b:CE) | par3 (i j l:Nat) (a b c:CE) | sub (o i e:CE) | fld (o:CE) (f:Str) (e:CE)
  | iff (c:CE) (a b:CS) | wh (c:CE) (b:CS) | fr (g it:CE) (b:CS) | ret (e:CE) | retN | nev
structure Tb where
  S:Str→Sp3
  gv:Str→PV
  cs:List String
  fl:List (String×Str)
noncomputable def aFy (x:PV) (G:Gh) (Q:PK1):Prop:=match x with
  | .int i=>Q (.int (-i)) G
  | _=>False
noncomputable def pIs (neg:Bool) (x y:PV) (G:Gh) (Q:PK1):Prop:=match y with
  | .non=>(x= .non∧Q (.bl (!neg)) G)∨(x≠.non∧Q (.bl neg) G)
  | .bl b=>∃ c,x= .bl c∧Q (.bl (if neg then !(c == b) else c == b)) G
  | _=>False
noncomputable def flP:PV→Bool
  | .non=>true
  | .bl _=>true
  | .int _=>true
  | .str _=>true
  | _=>false
noncomputable def pIn (neg:Bool) (x y:PV) (G:Gh) (Q:PK1):Prop:= ∃ xs,(y= .tup xs∨cY G y=some xs)∧flP x=true∧xs.all flP=true∧Q (.bl (if neg=true then !(xs.any fun z=>peq z x) else xs.any fun z=>peq z x)) G
noncomputable def nE:CmpOp→P2
  | .Lt=>pI (fun _ _=>True) fun i j=>.bl (decide (i < j))
  | .LtE=>pI (fun _ _=>True) fun i j=>.bl (decide (i≤j))
  | .Gt=>pI (fun _ _=>True) fun i j=>.bl (decide (j < i))
  | .GtE=>pI (fun _ _=>True) fun i j=>.bl (decide (j≤i))
  | .Eq=>pEq false
  | .NotEq=>pEq true
  | .Is=>pIs false
  | .IsNot=>pIs true
  | .In=>pIn false
  | .NotIn=>pIn true
noncomputable def YB (T:Tb) (x:PV) (f:Str) (G:Gh) (Q:PK1):Prop:= ∃ c ns xs v,(x= .ob c ns xs∨∃ a,x= .ref a∧G a=some (.ins c ns xs))∧(c,f)∈T.fl∧(ns.zip xs).lookup f=some v∧Q v G
noncomputable abbrev PTG:=PV→PSt→Gh→(PSt→Gh→Prop)→Prop
noncomputable abbrev PTI:=PSt→Gh→((Gh→Prop)→List PV→Gh→Prop)→Prop
noncomputable def uJ (js:List (Option Nat)) (σ:PSt):PSt:=js.map fun o=>match o with | none=>none | some j=>(σ[j]?).getD none
noncomputable def iN (chk:Gh→Prop) (g:PTG) (ts:PTT) (te:PTE):List PV→List PV→PSt→Gh→(List PV→Gh→Prop)→Prop
  | [],acc,_,G,Q=>chk G∧Q acc G
  | x :: r,acc,σ,G,Q=>chk G∧g x σ G fun σ2 G2=>ts σ2 G2 fun ok G3=>if ok=true then te σ2 G3 fun y G4=>iN chk g ts te r (acc ++ [y]) σ2 G4 Q else iN chk g ts te r acc σ2 G3 Q
noncomputable def oZ (chk:Gh→Prop) (g:PTG) (tb:PTS) (D:dF):List PV→PSt→Gh→Prop
  | [],σ,G=>chk G∧D.nx σ G
  | x :: r,σ,G=>chk G∧g x σ G fun σ2 G2=>tb { D with nx:=oZ chk g tb D r,ct:=oZ chk g tb D r,bk:=D.nx } σ2 G2
noncomputable def yM (m:Bool) (G:Gh) (xs:List PV) (Q:PK1):Prop:=if m=true then ∀ p,G p=none→Q (.ref p) (gup G p (.lst xs)) else Q (.lst xs) G
noncomputable def uI (lo:Int) (n:Nat):List PV:=(List.range n).map fun (k:Nat)=>PV.int (lo + (k:Int))
noncomputable def yU (xs:List PV):List PV:=xs.zipIdx.map fun p=>PV.tup [.int (p.2:Int),p.1]
noncomputable def aJj:PV→Option (List PV)
  | .tup ys=>some ys
  | .lst ys=>some ys
  | _=>none
noncomputable def aMv (n:Nat) (yss:List (List PV)):List PV:=(List.range n).map fun i=>PV.tup (yss.map fun ys=>ys.getD i .non)
noncomputable def WC (x:PV) (G:Gh) (R:(Gh→Prop)→List PV→Gh→Prop):Prop:=match x with
  | .tup xs=>R (fun _=>True) xs G
  | .lst xs=>R (fun _=>True) xs G
  | .scr ns=>R (fun _=>True) (ns.map .int) G
  | .ref a=>∃ xs,G a=some (.lst xs)∧R (fun G'=>G' a=some (.lst xs)) xs G
  | _=>False
noncomputable def aLB (T:Tb) (eqs:List (String×Str)) (x y:PV) (G:Gh) (Q:PK1):Prop :=
  (∃ c m ns xs ns' ys,(c,m)∈eqs∧x= .ob c ns xs∧y= .ob c ns' ys∧T.S m [x,y] G fun v G'=>∃ b,v= .bl b∧Q (.bl b) G')∨pEq false x y G Q
noncomputable def VW (T:Tb) (eqs:List (String×Str)) (x y:PV) (G:Gh) (Q:PK1):Prop :=
  (∃ c m ns xs ns' ys,(c,m)∈eqs∧x= .ob c ns xs∧y= .ob c ns' ys∧T.S m [x,y] G fun v G'=>∃ b,v= .bl b∧Q (.bl (!b)) G')∨pEq true x y G Q
noncomputable def aJ3 (b:Bn) (v:PV) (G:Gh) (Q:PK1):Prop:=match b with
  | .len=>∃ n:Int,v= .int n∧0≤n∧n < 2 ^ 63∧Q (.int n) G
  | .bool=>∃ n:Int,v= .int n∧0≤n∧n < 2 ^ 63∧Q (.bl (n != 0)) G
  | .str=>∃ x,v= .str x∧Q (.str x) G
  | .repr=>∃ x,v= .str x∧Q (.str x) G
  | _=>False
noncomputable def aBZ (T:Tb) (b:Bn) (ls:List (String×Str)) (xs:List PV) (G:Gh) (Q:PK1):Prop :=
  (∃ c m ns ys,(c,m)∈ls∧xs=[.ob c ns ys]∧T.S m xs G fun v G'=>aJ3 b v G' Q)∨eI T.cs b xs G Q
noncomputable def aHh (x:PV) (G:Gh) (Q:PK1):Prop:= ∃ xs d,x= .tup xs∧dat x=some d∧d.showable=true∧d.depth≤64∧d.shown.length≤sizeLine∧Q (.str d.shown) G
noncomputable def kP:Key→PV
  | .inl i=>.int i
  | .inr x=>.str x
noncomputable def flK:List (Key×PV)→List PV
  | []=>[]
  | p :: r=>kP p.1 :: p.2 :: flK r
mutual
noncomputable def wpE (T:Tb):CE→PTE
  | .var i=>fun σ G Q=>∃ v,σ[i]? =some (some v)∧Q v G
  | .int i=>fun _ G Q=>Q (.int i) G
  | .bl b=>fun _ G Q=>Q (.bl b) G
  | .non=>fun _ G Q=>Q .non G
  | .str x=>fun _ G Q=>Q (.str x) G
  | .glo x=>fun _ G Q=>Q (T.gv x) G
  | .bin op a b=>fun σ G Q=>wpE T a σ G fun x G1=>wpE T b σ G1 fun y G2=>EK op x y G2 Q
  | .neg a=>fun σ G Q=>wpE T a σ G fun x G1=>aFy x G1 Q
  | .no a=>fun σ G Q=>wpE T a σ G fun x G1=>CU x G1 fun b G2=>Q (.bl (!b)) G2
  | .cmp op a b=>fun σ G Q=>wpE T a σ G fun x G1=>wpE T b σ G1 fun y G2=>nE op x y G2 Q
  | .chn op op' a b c=>fun σ G Q=>wpE T a σ G fun x G1=>wpE T b σ G1 fun y G2=>nE op x y G2 fun z G3=>∃ k,z= .bl k∧if k=true then wpE T c σ G3 fun w G4=>nE op' y w G4 Q else Q (.bl false) G3
  | .dct es=>fun σ G Q=>wpL T es σ G fun xs G1=>∃ kvs:List (Key×PV),xs=flK kvs∧(kvs.map (·.1)).Nodup∧kvs.length≤15∧Q (.dct (kvs.map (·.1)) (kvs.map (·.2))) G1
  | .bow b ls es=>fun σ G Q=>wpL T es σ G fun xs G1=>aBZ T b ls xs G1 Q
  | .joi a b=>fun σ G Q=>wpE T a σ G fun x G1=>∃ sep,x= .str sep∧wpE T b σ G1 fun y G2=>∃ ys:List Str,cY G2 y=some (ys.map PV.str)∧(ys.map (·.length)).sum + ys.length * sep.length≤16777216∧Q (.str (Txt.join sep ys)) G2
  | .fst es=>fun σ G Q=>wpJ T es Str.empty σ G Q
  | .cne eqs a b=>fun σ G Q=>wpE T a σ G fun x G1=>wpE T b σ G1 fun y G2=>VW T eqs x y G2 Q
  | .ceq eqs a b=>fun σ G Q=>wpE T a σ G fun x G1=>wpE T b σ G1 fun y G2=>aLB T eqs x y G2 Q
  | .an a b=>fun σ G Q=>wpE T a σ G fun x G1=>CU x G1 fun c G2=>if c=true then wpE T b σ G2 Q else Q x G2
  | .oo a b=>fun σ G Q=>wpE T a σ G fun x G1=>CU x G1 fun c G2=>if c=true then Q x G2 else wpE T b σ G2 Q
  | .tup es=>fun σ G Q=>wpL T es σ G fun xs G1=>xs.length≤sizeLine∧Q (.tup xs) G1
  | .lst m es=>fun σ G Q=>wpL T es σ G fun xs G1=>xs.length≤sizeLine∧yM m G1 xs Q
  | .idx a i=>fun σ G Q=>wpE T a σ G fun x G1=>wpE T i σ G1 fun y G2=>wB x y G2 Q
  | .sli a lo hi=>fun σ G Q=>wpE T a σ G fun x G1=>wpO T lo σ G1 fun l G2=>wpO T hi σ G2 fun h G3=>VY x l h G3 Q
  | .rev a=>fun σ G Q=>wpE T a σ G fun x G1=>(∃ xs,cY G1 x=some xs∧Q (.lst xs.reverse) G1)∨∃ xs,x= .tup xs∧Q (.tup xs.reverse) G1
  | .att a f=>fun σ G Q=>wpE T a σ G fun x G1=>YB T x f G1 Q
  | .cal f es=>fun σ G Q=>wpL T es σ G fun xs G1=>T.S f xs G1 Q
  | .cak f es ks ar=>fun σ G Q=>wpL T es σ G fun xs G1=>wpL T ks σ G1 fun zs G2=>T.S f (ar.map (Ar.val (xs ++ zs))) G2 Q
  | .blt b es=>fun σ G Q=>wpL T es σ G fun xs G1=>eI T.cs b xs G1 Q
  | .app a e=>fun σ G Q=>wpE T a σ G fun x G1=>(∃ ys,cY G1 x=some ys)∧wpE T e σ G1 fun y G2=>∃ p xs,x= .ref p∧G2 p=some (.lst xs)∧xs.length < sizeLine∧Q .non (gup G2 p (.lst (xs ++ [y])))
  | .cmpr m tg it ts el js=>fun σ G Q=>wpI T it σ G fun chk xs G1=>xs.length≤sizeLine∧iN chk (wpG T tg) (wpT T ts) (wpE T el) xs [] (uJ js σ) G1 fun ys G2=>yM m G2 ys Q
  | .rpr e=>fun σ G Q=>wpE T e σ G fun x G1=>aHh x G1 Q
  | .gix ks e=>fun σ G Q=>wpE T e σ G fun y G1=>∃ z f,y= .str z∧ks.lookup z=some f∧Q (.fn f) G1
  | .gin neg ks e=>fun σ G Q=>wpE T e σ G fun y G1=>∃ z,y= .str z∧Q (.bl (if neg=true then !(ks.lookup z).isSome else (ks.lookup z).isSome)) G1
  | .cav fs i es=>fun σ G Q=>∃ f n ar,σ[i]? =some (some (.fn f))∧(f,n,ar)∈fs∧wpL T es σ G fun xs G1=>T.S f (ar.map (Ar.val xs)) G1 Q
  | .tst _=>fun _ _ _=>False
  | .tsb _=>fun _ _ _=>False
  | .nil=>fun _ _ _=>False
  | .cons _ _=>fun _ _ _=>False
  | .isq _=>fun _ _ _=>False
  | .irg _=>fun _ _ _=>False
  | .ien _=>fun _ _ _=>False
  | .izp _=>fun _ _ _=>False
  | .gn _=>fun _ _ _=>False
  | .gt _ _=>fun _ _ _=>False
  | .gl _ _=>fun _ _ _=>False
noncomputable def wpJ (T:Tb):CE→Str→PTE
  | .nil=>fun out _ G Q=>out.length≤sizeLine∧Q (.str out) G
  | .cons a b=>fun out σ G Q=>wpE T a σ G fun x G1=>∃ y,x= .str y∧y.length≤sizeLine∧(out ++ y).length≤sizeLine∧wpJ T b (out ++ y) σ G1 Q
  | _=>fun _ _ _ _=>False
noncomputable def wpL (T:Tb):CE→PTA
  | .nil=>fun _ G Q=>Q [] G
  | .cons a b=>fun σ G Q=>wpE T a σ G fun x G1=>wpL T b σ G1 fun xs G2=>Q (x :: xs) G2
  | _=>fun _ _ _=>False
noncomputable def wpT (T:Tb):CE→PTT
  | .an a b=>fun σ G Q=>wpT T a σ G fun c G1=>if c=true then wpT T b σ G1 Q else Q false G1
  | .oo a b=>fun σ G Q=>wpT T a σ G fun c G1=>if c=true then Q true G1 else wpT T b σ G1 Q
  | .no a=>fun σ G Q=>wpT T a σ G fun c G1=>Q (!c) G1
  | .tst a=>fun σ G Q=>wpE T a σ G fun x G1=>CU x G1 Q
  | .tsb a=>fun σ G Q=>wpE T a σ G fun x G1=>∃ k,x= .bl k∧Q k G1
  | .nil=>fun _ G Q=>Q true G
  | _=>fun _ _ _=>False
noncomputable def wpO (T:Tb):CE→PSt→Gh→(Option Int→Gh→Prop)→Prop
  | .nil=>fun _ G Q=>Q none G
  | .tst e=>fun σ G Q=>wpE T e σ G fun x G1=>∃ i,x= .int i∧Q (some i) G1
  | _=>fun _ _ _=>False
noncomputable def wpI (T:Tb):CE→PTI
  | .isq e=>fun σ G R=>wpE T e σ G fun x G1=>WC x G1 R
  | .irg es=>fun σ G R=>wpL T es σ G fun xs G1=>(∃ j,xs=[.int j]∧ -(2 ^ 62)≤j∧j < 2 ^ 62∧R (fun _=>True) (uI 0 j.toNat) G1)∨(∃ i j,xs=[.int i,.int j]∧(-(2 ^ 62)≤i∧i < 2 ^ 62∧ -(2 ^ 62)≤j∧j < 2 ^ 62)∧R (fun _=>True) (uI i (j - i).toNat) G1)
  | .ien e=>fun σ G R=>wpE T e σ G fun x G1=>∃ xs,x= .tup xs∧R (fun _=>True) (yU xs) G1
  | .izp es=>fun σ G R=>wpL T es σ G fun xs G1=>(xs.length=2∨xs.length=3)∧∃ n yss,xs.map aJj=yss.map some∧(∀ ys∈yss,ys.length=n)∧R (fun _=>True) (aMv n yss) G1
  | _=>fun _ _ _=>False
noncomputable def wpG (T:Tb):CE→PTG
  | .gn i=>fun x σ G Q=>Q (σ.set i (some x)) G
  | .gt n gs=>fun x σ G Q=>(∃ xs,x= .tup xs∧xs.length=n∧eV T gs xs σ G Q)
  | .gl n gs=>fun x σ G Q=>(∃ xs,cY G x=some xs∧xs.length=n∧eV T gs xs σ G Q)
  | _=>fun _ _ _ _=>False
noncomputable def eV (T:Tb):CE→List PV→PSt→Gh→(PSt→Gh→Prop)→Prop
  | .nil=>fun xs σ G Q=>xs=[]∧Q σ G
  | .cons a b=>fun xs σ G Q=>∃ x r,xs=x :: r∧wpG T a x σ G fun σ1 G1=>eV T b r σ1 G1 Q
  | _=>fun _ _ _ _=>False
end
noncomputable def TJ (f:Str):List Str→List Str
  | []=>[f]
  | n :: r=>if n=f then n :: r else n :: TJ f r
noncomputable def yK {α:Type} (f:Str) (v:α):List Str→List α→List α
  | [],_=>[v]
  | n :: r,x :: xs=>if n=f then v :: xs else x :: yK f v r xs
  | _ :: _,[]=>[]
noncomputable def wpS (T:Tb):CS→PTS
  | .nil=>fun D σ G=>D.nx σ G
  | .seq a b=>fun D σ G=>wpS T a { D with nx:=wpS T b D } σ G
  | .ex e=>fun D σ G=>wpE T e σ G fun _ G1=>D.nx σ G1
  | .asg g e=>fun D σ G=>wpE T e σ G fun x G1=>wpG T g x σ G1 D.nx
  | .par i j a b=>fun D σ G=>wpE T a σ G fun x G1=>wpE T b σ G1 fun y G2=>D.nx ((σ.set i (some x)).set j (some y)) G2
  | .par3 i j l a b c=>fun D σ G=>wpE T a σ G fun x G1=>wpE T b σ G1 fun y G2=>wpE T c σ G2 fun z G3=>D.nx (((σ.set i (some x)).set j (some y)).set l (some z)) G3
  | .sub o i e=>fun D σ G=>wpE T e σ G fun v G1=>wpE T o σ G1 fun x G2=>wpE T i σ G2 fun y G3=>aC5 x y v G3 fun G4=>D.nx σ G4
  | .fld o f e=>fun D σ G=>wpE T e σ G fun v G1=>wpE T o σ G1 fun x G2=>∃ p c ns xs,x= .ref p∧G2 p=some (.ins c ns xs)∧(c,f)∈T.fl∧ns.length < 1000∧D.nx σ (gup G2 p (.ins c (TJ f ns) (yK f v ns xs)))
  | .iff c a b=>fun D σ G=>wpT T c σ G fun k G1=>if k=true then wpS T a D σ G1 else wpS T b D σ G1
  | .wh c b=>fun D σ G=>∃ W:Nat→PSt→Gh→Prop,(∃ m,W m σ G)∧∀ m σ G,W m σ G→wpT T c σ G fun k G1=>if k=true then wpS T b { D with nx:=fun σ' G'=>∃ m',m' < m∧W m' σ' G',ct:=fun σ' G'=>∃ m',m' < m∧W m' σ' G',bk:=D.nx } σ G1 else D.nx σ G1
  | .fr g it b=>fun D σ G=>wpI T it σ G fun chk xs G1=>oZ chk (wpG T g) (wpS T b) D xs σ G1
  | .ret e=>fun D σ G=>wpE T e σ G D.rt
  | .retN=>fun D _ G=>D.rt .non G
  | .nev=>fun _ _ _=>False
noncomputable def JE (X:Cx) (E:Ev) (e:Expr) (t:PTE):Prop:= ∀ F,PE X e (low E F t)
noncomputable def JT (X:Cx) (E:Ev) (e:Expr) (t:PTT):Prop:= ∀ F,PT X e (BM E F t)
noncomputable def JW (X:Cx) (E:Ev) (e:Expr) (t:PTT):Prop:= ∀ F,PW X e (BM E F t)
noncomputable def JA (X:Cx) (E:Ev) (es:List Expr) (t:PTA):Prop:= ∀ F,PA X es (GG E F es.length t)
noncomputable def JS (X:Cx) (E:Ev) (s:Stmt) (t:PTS):Prop:= ∀ F,PS X s (aFD E F t)
noncomputable def JSs (X:Cx) (E:Ev) (s:List Stmt) (t:PTS):Prop:= ∀ F,PSs X s (aFD E F t)
noncomputable def aGt (E:Ev) (F:Hp) (t:PTG):TG:=fun v σ H Q=>∃ x σ' Z G Q',RP E Z x v∧RSt E Z σ' σ∧Sim E F H Z G∧t x σ' G Q'∧KSt E F Z Q' Q
noncomputable def JG (X:Cx) (E:Ev) (e:Expr) (t:PTG):Prop:= ∀ F,PG X e (aGt E F t)
noncomputable def aIn (E:Ev) (F:Hp) (t:List PV→PSt→Gh→(PSt→Gh→Prop)→Prop):TGs:=fun vs σ H Q=>∃ xs σ' Z G Q',RPs E Z xs vs∧RSt E Z σ' σ∧Sim E F H Z G∧t xs σ' G Q'∧KSt E F Z Q' Q
noncomputable def JGs (X:Cx) (E:Ev) (es:List Expr) (t:List PV→PSt→Gh→(PSt→Gh→Prop)→Prop):Prop:= ∀ F,PGs X es (aIn E F t)
theorem PT.imp {X:Cx} {e:Expr} {t t':TT} (h:PT X e t) (g:∀ σ H Q,t' σ H Q→t σ H Q):PT X e t':=fun pins s σ H Q I q=>h pins s σ H Q I (g _ _ _ q)
theorem PW.imp {X:Cx} {e:Expr} {t t':TT} (h:PW X e t) (g:∀ σ H Q,t' σ H Q→t σ H Q):PW X e t':=fun wh pins s σ H Q I q=>h wh pins s σ H Q I (g _ _ _ q)
theorem PA.imp {X:Cx} {es:List Expr} {t t':TA} (h:PA X es t) (g:∀ σ H Q,t' σ H Q→t σ H Q):PA X es t':=fun pos pins s σ H Q I q=>h pos pins s σ H Q I (g _ _ _ q)
theorem PSs.imp {X:Cx} {st:List Stmt} {t t':TS} (h:PSs X st t) (g:∀ D σ H,t' D σ H→t D σ H):PSs X st t':=fun pins s σ H D I q=>h pins s σ H D I (g _ _ _ q)
theorem PGs.imp {X:Cx} {es:List Expr} {t t':TGs} (h:PGs X es t) (g:∀ vs σ H Q,t' vs σ H Q→t vs σ H Q):PGs X es t':=fun pins s σ H v u Q I r q=>h pins s σ H v u Q I r (g _ _ _ _ q)
section
variable {X:Cx} {E:Ev} {T:Tb} {k:Nat} {pos:Pos} {a b c:Expr} {ta tb tc:PTE}
structure Pl (X:Cx) (E:Ev) (T:Tb) (k:Nat):Prop where
  hK:E.K=X.K
  calm:X.calm=true
  room:bE k X.A
  cls:VX E T.cs
  fld:∀ c f,(c,f)∈T.fl→Cls X.K (E.cls c)∧gR X.K (E.cls c) f
theorem Kq.go {F Z Z1 H1:Hp} {G1:Gh} {Q':PK1} {Q:VK} (k:Kq E F Z Q' Q) {x:PV} {v:V} (s:aQ Z Z1) (S:Sim E F H1 Z1 G1) (r:RP E Z1 x v) (q:Q' x G1):Q v H1:=k x v Z1 G1 H1 s S r q
theorem aHI {i:Nat} {x:Str} (hN:X.N[i]? =some x) (hv:Vis X.env.scope x) (hd:(x == ("__debug__":Str))=false) (hcd:(x == ("__classdict__":Str))=false):JE X E (.Name x pos) (wpE T (.var i)):=fun F =>
  (KW hN hv hd hcd).imp fun σ H Q ⟨σ',Z,G,Q',rs,S,h,kq⟩=>by
    rw [wpE] at h
    obtain ⟨x,e,q⟩:=h
    obtain ⟨v,e',r⟩:=rs.get e
    exact ⟨v,e',kq.here S q r⟩
theorem aGH {i:Int} {j:Nat}:JE X E (.Constant (.int i) j pos) (wpE T (.int i)):=fun F=>aA1.imp fun σ H Q ⟨σ',Z,G,Q',rs,S,h,kq⟩=>by rw [wpE] at h; exact kq.here S h bI
theorem aKg {i:Bool} {j:Nat}:JE X E (.Constant (.bool i) j pos) (wpE T (.bl i)):=fun F=>aKf.imp fun σ H Q ⟨σ',Z,G,Q',rs,S,h,kq⟩=>by rw [wpE] at h; exact kq.here S h bW
theorem aHc {j:Nat}:JE X E (.Constant .none j pos) (wpE T .non):=fun F=>aFZ.imp fun σ H Q ⟨σ',Z,G,Q',rs,S,h,kq⟩=>by rw [wpE] at h; exact kq.here S h tF
theorem aAy {i:Str} {j:Nat}:JE X E (.Constant (.str i) j pos) (wpE T (.str i)):=fun F=>aFK.imp fun σ H Q ⟨σ',Z,G,Q',rs,S,h,kq⟩=>by rw [wpE] at h; exact kq.here S h iY
theorem aG4 {x:Str} {u:Value} {v:V} (hg:Gl X x) (hm:X.mg x=some u) (r:aL v u) (hr:RP E (fun _=>none) (T.gv x) v) (hd:(x == ("__debug__":Str))=false):JE X E (.Name x pos) (wpE T (.glo x)):=fun F =>
  (BD hg hm r hd).imp fun σ H Q ⟨σ',Z,G,Q',rs,S,h,kq⟩=>by rw [wpE] at h; exact kq.here S h (hr.mono fun _ _ z=>by cases z)
theorem aI3 {x:Str} {n:String} (hg:Gl X x) (hm:X.mg x=none) (hv:bootBuiltins x=some (.type n)) (hgv:T.gv x= .ty n) (hn:x≠"__name__") (hd:(x == ("__debug__":Str))=false):JE X E (.Name x pos) (wpE T (.glo x)):=fun F =>
  (aCE (v:=.ty n) hg hm hv rfl hn hd).imp fun σ H Q ⟨σ',Z,G,Q',rs,S,h,kq⟩=>by rw [wpE] at h; rw [hgv] at h; exact kq.here S h rfl
theorem PZ {F:Hp} {p:P2} {σ:L2.St} {H:Hp} {Q:VK} (h:low E F (fun σ G Q=>ta σ G fun x G1=>tb σ G1 fun y G2=>p x y G2 Q) σ H Q):tOp (iM E F p) (low E F ta) (low E F tb) σ H Q:=by
  obtain ⟨σ',Z,G,Q',rs,S,h,kq⟩:=h
  refine ⟨σ',Z,G,_,rs,S,h,fun x v Z1 G1 H1 s1 S1 r1 q1=>⟨σ',Z1,G1,_,rs.mono s1,S1,q1,fun y u Z2 G2 H2 s2 S2 r2 q2=>?_⟩⟩
  exact ⟨x,y,Z2,G2,Q',r1.mono s2,r2,S2,q2,kq.mono (s1.trans s2)⟩
theorem aHw {op:Operator} {a' b':CE} (P:Pl X E T k) (ha:JE X E a (wpE T a')) (hb:JE X E b (wpE T b')):JE X E (.BinOp a op b pos) (wpE T (.bin op a' b')):=fun F =>
  (aKV (aCG P.hK op) (ha F) (hb F)).imp fun σ H Q h=>PZ (by rw [wpE] at h; exact h)
theorem aF7 {a':CE} (ha:JE X E a (wpE T a')):JE X E (.UnaryOp .USub a pos) (wpE T (.neg a')):=fun F =>
  (aEr XM (ha F)).imp fun σ H Q ⟨σ',Z,G,Q',rs,S,h,kq⟩=>by
    rw [wpE] at h
    refine ⟨σ',Z,G,_,rs,S,h,fun x v Z1 G1 H1 s1 S1 r1 q1=>?_⟩
    unfold aFy at q1
    split at q1
    · exact ⟨_,r1,kq.go s1 S1 bI q1⟩
    · exact q1.elim
theorem aCc {te:TE} (he:PE X a te):PE X (.UnaryOp .Not a pos) (fun σ H Q=>te σ H fun x H1=>∃ b,PX X.K x H1 b∧Q (.bl (!b)) H1):=by
  intro pins s σ H Q I h
  refine UnaryOp_ (thn (he pins s σ H _ I h) fun v s1 ⟨x,H1,I1,r1,b,tv,q⟩=>?_)
  exact not_of (thn (DI pins s1 σ H1 x v (fun c H2=>Q (.bl (!c)) H2) I1 r1 ⟨b,tv,q⟩) fun c s2 ⟨H2,I2,q2⟩=>⟨.bl (!c),H2,I2,rfl,q2⟩)
theorem aKN {a':CE} (P:Pl X E T k) (ha:JE X E a (wpE T a')):JE X E (.UnaryOp .Not a pos) (wpE T (.no a')):=fun F =>
  (aCc (ha F)).imp fun σ H Q ⟨σ',Z,G,Q',rs,S,h,kq⟩=>by
    rw [wpE] at h
    refine ⟨σ',Z,G,_,rs,S,h,fun x v Z1 G1 H1 s1 S1 r1 q1=>?_⟩
    obtain ⟨c,tv,q⟩:=vL P.hK S1 r1 q1
    exact ⟨c,tv,kq.go s1 S1 bW q⟩
theorem aCo {dC:List Expr} {te tf:TE} (ha:PE X a te) (hb:PE X (.BoolOp .And (b :: dC) pos) tf):PE X (.BoolOp .And (a :: b :: dC) pos) (fun σ H Q=>te σ H fun x H1=>∃ c,PX X.K x H1 c∧if c=true then tf σ H1 Q else Q x H1):=by
  intro pins s σ H Q I h
  refine BoolOp_and (thn (ha pins s σ H _ I h) fun v s1 ⟨x,H1,I1,r1,c,tv,q1⟩=>?_)
  refine thn (DI pins s1 σ H1 x v (fun d H2=>d=c∧H2=H1) I1 r1 ⟨c,tv,rfl,rfl⟩) fun d s2 ⟨H2,I2,e1,e2⟩=>?_
  subst e1 e2
  cases d with
  | true=>exact hb pins s2 σ H2 Q I2 q1
  | false=>exact ⟨x,H2,I2,r1,q1⟩
theorem aFN {dC:List Expr} {te tf:TE} (ha:PE X a te) (hb:PE X (.BoolOp .Or (b :: dC) pos) tf):PE X (.BoolOp .Or (a :: b :: dC) pos) (fun σ H Q=>te σ H fun x H1=>∃ c,PX X.K x H1 c∧if c=true then Q x H1 else tf σ H1 Q):=by
  intro pins s σ H Q I h
  refine BoolOp_or (thn (ha pins s σ H _ I h) fun v s1 ⟨x,H1,I1,r1,c,tv,q1⟩=>?_)
  refine thn (DI pins s1 σ H1 x v (fun d H2=>d=c∧H2=H1) I1 r1 ⟨c,tv,rfl,rfl⟩) fun d s2 ⟨H2,I2,e1,e2⟩=>?_
  subst e1 e2
  cases d with
  | false=>exact hb pins s2 σ H2 Q I2 q1
  | true=>exact ⟨x,H2,I2,r1,q1⟩
theorem aKy {dC:List Expr} {a' b':CE} (P:Pl X E T k) (ha:JE X E a (wpE T a')) (hb:JE X E (.BoolOp .And (b :: dC) pos) (wpE T b')):JE X E (.BoolOp .And (a :: b :: dC) pos) (wpE T (.an a' b')):=fun F =>
  (aCo (ha F) (hb F)).imp fun σ H Q ⟨σ',Z,G,Q',rs,S,h,kq⟩=>by
    rw [wpE] at h
    refine ⟨σ',Z,G,_,rs,S,h,fun x v Z1 G1 H1 s1 S1 r1 q1=>?_⟩
    obtain ⟨c,tv,q⟩:=vL P.hK S1 r1 q1
    refine ⟨c,tv, ?_⟩
    cases c with
    | true=>rw [if_pos rfl] at q ⊢; exact ⟨σ',Z1,G1,Q',rs.mono s1,S1,q,kq.mono s1⟩
    | false=>rw [if_neg Bool.false_ne_true] at q ⊢; exact kq.go s1 S1 r1 q
theorem aJE {dC:List Expr} {a' b':CE} (P:Pl X E T k) (ha:JE X E a (wpE T a')) (hb:JE X E (.BoolOp .Or (b :: dC) pos) (wpE T b')):JE X E (.BoolOp .Or (a :: b :: dC) pos) (wpE T (.oo a' b')):=fun F =>
  (aFN (ha F) (hb F)).imp fun σ H Q ⟨σ',Z,G,Q',rs,S,h,kq⟩=>by
    rw [wpE] at h
    refine ⟨σ',Z,G,_,rs,S,h,fun x v Z1 G1 H1 s1 S1 r1 q1=>?_⟩
    obtain ⟨c,tv,q⟩:=vL P.hK S1 r1 q1
    refine ⟨c,tv, ?_⟩
    cases c with
    | false=>rw [if_neg Bool.false_ne_true] at q ⊢; exact ⟨σ',Z1,G1,Q',rs.mono s1,S1,q,kq.mono s1⟩
    | true=>rw [if_pos rfl] at q ⊢; exact kq.go s1 S1 r1 q
theorem aFu {op:BoolOp} {t:PTE} (ha:JE X E a t):JE X E (.BoolOp op [a] pos) t:=fun F=>aGY (ha F)
theorem kJ {Z:Hp} {x:PV} {v:V} (r:RP E Z x v):(v= .non)↔x= .non:=by
  cases x with
  | non=>exact ⟨fun _=>rfl,fun _=>r⟩
  | bl b=>rw [show v= .bl b from r]; exact ⟨(fun z=>nomatch z),(fun z=>nomatch z)⟩
  | int b=>rw [show v= .int b from r]; exact ⟨(fun z=>nomatch z),(fun z=>nomatch z)⟩
  | str b=>rw [show v= .str b from r]; exact ⟨(fun z=>nomatch z),(fun z=>nomatch z)⟩
  | ty b=>rw [show v= .ty b from r]; exact ⟨(fun z=>nomatch z),(fun z=>nomatch z)⟩
  | ref b=>rw [show v= .ref b from r]; exact ⟨(fun z=>nomatch z),(fun z=>nomatch z)⟩
  | cl b=>rw [show v= .ref _ from r]; exact ⟨(fun z=>nomatch z),(fun z=>nomatch z)⟩
  | fn b=>rw [show v= .ref _ from r]; exact ⟨(fun z=>nomatch z),(fun z=>nomatch z)⟩
  | emp=>obtain ⟨a,rfl,_⟩:=r; exact ⟨(fun z=>nomatch z),(fun z=>nomatch z)⟩
  | dct ks xs=>obtain ⟨_,_,rfl,_⟩:=r; exact ⟨(fun z=>nomatch z),(fun z=>nomatch z)⟩
  | tup xs=>obtain ⟨_,_,rfl,_⟩:=r; exact ⟨(fun z=>nomatch z),(fun z=>nomatch z)⟩
  | lst xs=>obtain ⟨_,_,rfl,_⟩:=r; exact ⟨(fun z=>nomatch z),(fun z=>nomatch z)⟩
  | scr xs=>obtain ⟨_,rfl,_⟩:=r; exact ⟨(fun z=>nomatch z),(fun z=>nomatch z)⟩
  | ob _ _ xs=>obtain ⟨_,_,_,rfl,_⟩:=r; exact ⟨(fun z=>nomatch z),(fun z=>nomatch z)⟩
theorem aHt:OpR X (compareOp .Is) (fun x y H Q=>∃ i j,x= .bl i∧y= .bl j∧Q (.bl (i == j)) H):=by
  intro pins s σ H x y v u Q I rx ry ⟨i,j,e1,e2,q⟩
  subst e1 e2; cases rx; cases ry
  exact is_bool ⟨.bl _,H,I,rfl,q⟩
theorem aB5:OpR X (compareOp .IsNot) (fun x y H Q=>∃ i j,x= .bl i∧y= .bl j∧Q (.bl (!(i == j))) H):=by
  intro pins s σ H x y v u Q I rx ry ⟨i,j,e1,e2,q⟩
  subst e1 e2; cases rx; cases ry
  exact isnot_bool ⟨.bl _,H,I,rfl,q⟩
theorem aH2 {F:Hp}:OpR X (compareOp .Is) (iM E F (pIs false)):=by
  refine (aG0.or aHt).imp fun v u H Q h=>?_
  obtain ⟨x,y,Z,G,Q',r1,r2,S,q,k⟩:=h
  unfold pIs at q
  split at q
  · refine .inl ⟨r2, ?_⟩
    rcases q with ⟨e,q⟩ | ⟨e,q⟩
    · rw [decide_eq_true ((kJ r1).mpr e)]; exact k.here S q bW
    · rw [decide_eq_false fun z=>e ((kJ r1).mp z)]; exact k.here S q bW
  · obtain ⟨c,e,q⟩:=q
    subst e
    exact .inr ⟨_,_,r1,r2,k.here S q bW⟩
  · exact q.elim
theorem aBH {F:Hp}:OpR X (compareOp .IsNot) (iM E F (pIs true)):=by
  refine (aDg.or aB5).imp fun v u H Q h=>?_
  obtain ⟨x,y,Z,G,Q',r1,r2,S,q,k⟩:=h
  unfold pIs at q
  split at q
  · refine .inl ⟨r2, ?_⟩
    rcases q with ⟨e,q⟩ | ⟨e,q⟩
    · rw [decide_eq_true ((kJ r1).mpr e)]; exact k.here S q bW
    · rw [decide_eq_false fun z=>e ((kJ r1).mp z)]; exact k.here S q bW
  · obtain ⟨c,e,q⟩:=q
    subst e
    exact .inr ⟨_,_,r1,r2,k.here S q bW⟩
  · exact q.elim
theorem aDC {Z:Hp} {x:PV} {v:V} (r:RP E Z x v) (h:flP x=true):nJ v=true:=by
  cases x <;> first | (cases h; done) | skip
  · rw [show v= .non from r]; rfl
  · rw [show v= .bl _ from r]; rfl
  · rw [show v= .int _ from r]; rfl
  · rw [show v= .str _ from r]; rfl
theorem aIo {Z:Hp} {x y:PV} {v u:V} (r:RP E Z x v) (ry:RP E Z y u) (h:flP x=true) (hy:flP y=true):eqV v u=peq x y:=by
  cases x <;> first | (cases h; done) | skip
  all_goals (cases y <;> first | (cases hy; done) | skip)
  all_goals
    first
    | rw [show v= .non from r]
    | rw [show v= .bl _ from r]
    | rw [show v= .int _ from r]
    | rw [show v= .str _ from r]
  all_goals
    first
    | rw [show u= .non from ry]
    | rw [show u= .bl _ from ry]
    | rw [show u= .int _ from ry]
    | rw [show u= .str _ from ry]
  all_goals simp only [eqV,peq]
theorem aD1 {Z:Hp} {x:PV} {v:V} (r:RP E Z x v) (h:flP x=true):∀ {xs:List PV} {vs:List V},RPs E Z xs vs→xs.all flP=true→vs.all nJ=true∧inV v vs=xs.any fun z=>peq z x
  | [],_,hr,_=>by cases hr; exact ⟨rfl,rfl⟩
  | y :: ys,_,⟨u,us,e,r1,r2⟩,ha=>by
    subst e
    rw [List.all_cons,Bool.and_eq_true] at ha
    obtain ⟨a,b⟩:=aD1 r h r2 ha.2
    refine ⟨by rw [List.all_cons,aDC r1 ha.1,a]; rfl, ?_⟩
    unfold inV at b ⊢
    rw [List.any_cons,List.any_cons,b,aIo r1 r ha.1 h]
theorem VS {F:Hp} {neg:Bool} (hK:E.K=X.K) {v u:V} {H:Hp} {Q:VK} (h:iM E F (pIn neg) v u H Q):rIn X.K neg v u H Q:=by
  obtain ⟨x,y,Z,G,Q',r1,r2,S,⟨xs,hx,h1,h2,q⟩,k⟩:=h
  have key:∀ {a:Addr} {vs:List V},RPs E Z xs vs→(SqL X.K H a vs∨SqT X.K H a vs)→u= .ref a→rIn X.K neg v u H Q:=fun {a vs} t hs e=>by
    obtain ⟨a1,a2⟩:=aD1 r1 h1 t h2
    refine ⟨a,vs,e,hs,aDC r1 h1,a1, ?_⟩
    rw [a2]
    exact k.here S q bW
  rcases hx with rfl | hx
  · obtain ⟨a,vs,rfl,ha,ta⟩:=gJ S r2
    exact key ta (.inr (hK▸ha)) rfl
  · obtain ⟨a,vs,rfl,ha,ta⟩:=eR S r2 hx
    exact key ta (.inl (SqL.of ha)) rfl
theorem nD {F:Hp} (P:Pl X E T k):∀ op,OpR X (compareOp op) (iM E F (nE op))
  | .Lt=>aIh.imp fun _ _ _ _ h=>xF (jV (fun _ _ _=>bW) h)
  | .LtE=>aKe.imp fun _ _ _ _ h=>xF (jV (fun _ _ _=>bW) h)
  | .Gt=>aJt.imp fun _ _ _ _ h=>xF (jV (fun _ _ _=>bW) h)
  | .GtE=>aKO.imp fun _ _ _ _ h=>xF (jV (fun _ _ _=>bW) h)
  | .Eq=>aH7 P.room P.hK
  | .NotEq=>UQ P.room P.hK
  | .Is=>aH2
  | .IsNot=>aBH
  | .In=>QH.imp fun _ _ _ _ h=>VS P.hK h
  | .NotIn=>BV.imp fun _ _ _ _ h=>VS P.hK h
theorem aFt {op:CmpOp} {a' b':CE} (P:Pl X E T k) (hm:behindInMarks op b=false) (ha:JE X E a (wpE T a')) (hb:JE X E b (wpE T b')):JE X E (.Compare a [op] [b] pos) (wpE T (.cmp op a' b')):=fun F =>
  (BH (nD P op) (ha F) (hb F) hm).imp fun σ H Q h=>PZ (by rw [wpE] at h; exact h)
theorem aGG {op:CmpOp} {a' b':CE} (P:Pl X E T k) (hm:behindInMarks op b=false) (ha:JE X E a (wpE T a')) (hb:JE X E b (wpE T b')):JT X E (.Compare a [op] [b] pos) (wpT T (.tsb (.cmp op a' b'))):=fun F =>
  PT.imp (NG (nD P op) (ha F) (hb F) hm) fun σ H Q h=>PZ (by
    obtain ⟨σ',Z,G,Q',rs,S,h,kq⟩:=h
    rw [wpT,wpE] at h
    exact ⟨σ',Z,G,_,rs,S,h,fun x v Z1 G1 H1 s1 S1 r1 ⟨kk,e,q⟩=>by subst e; exact ⟨kk,r1,kq _ Z1 G1 H1 s1 S1 q⟩⟩)
theorem NN {F:Hp} {op op':CmpOp} {a' b' c':CE} {σ:L2.St} {H:Hp} {Q:VK} (h:low E F (wpE T (.chn op op' a' b' c')) σ H Q):IR (iM E F (nE op)) (iM E F (nE op')) (low E F (wpE T a')) (low E F (wpE T b')) (low E F (wpE T c')) σ H Q:=by
  obtain ⟨σ',Z,G,Q',rs,S,h,kq⟩:=h
  rw [wpE] at h
  refine ⟨σ',Z,G,_,rs,S,h,fun x v Z1 G1 H1 s1 S1 r1 q1=>⟨σ',Z1,G1,_,rs.mono s1,S1,q1,fun y u Z2 G2 H2 s2 S2 r2 q2=>⟨x,y,Z2,G2,_,r1.mono s2,r2,S2,q2, ?_⟩⟩⟩
  rintro z w Z3 G3 H3 s3 S3 r3 ⟨kk,e,q3⟩
  subst e
  refine ⟨kk,r3, ?_⟩
  have sz:=(s1.trans s2).trans s3
  cases kk with
  | true =>
    rw [if_pos rfl] at q3 ⊢
    exact ⟨σ',Z3,G3,_,rs.mono sz,S3,q3,fun z' w' Z4 G4 H4 s4 S4 r4 q4=>⟨y,z',Z4,G4,Q',(r2.mono s3).mono s4,r4,S4,q4,kq.mono (sz.trans s4)⟩⟩
  | false =>
    rw [if_neg Bool.false_ne_true] at q3 ⊢
    exact kq.go sz S3 bW q3
theorem aG2 {op op':CmpOp} {a' b' c':CE} (P:Pl X E T k) (hm:lastMarks [op,op'] [b,c]=false) (ha:JE X E a (wpE T a')) (hb:JE X E b (wpE T b')) (hc:JE X E c (wpE T c')):JE X E (.Compare a [op,op'] [b,c] pos) (wpE T (.chn op op' a' b' c')):=fun F =>
  (WE (nD P op) (nD P op') (ha F) (hb F) (hc F) hm).imp fun σ H Q h=>NN h
theorem aHd {op op':CmpOp} {a' b' c':CE} (P:Pl X E T k) (hm:lastMarks [op,op'] [b,c]=false) (ha:JE X E a (wpE T a')) (hb:JE X E b (wpE T b')) (hc:JE X E c (wpE T c')):JT X E (.Compare a [op,op'] [b,c] pos) (wpT T (.tsb (.chn op op' a' b' c'))):=fun F =>
  PT.imp (WL (nD P op) (nD P op') (ha F) (hb F) (hc F) hm) fun σ H Q h=>NN (by
    obtain ⟨σ',Z,G,Q',rs,S,h,kq⟩:=h
    rw [wpT] at h
    exact ⟨σ',Z,G,_,rs,S,h,fun x v Z1 G1 H1 s1 S1 r1 ⟨kk,e,q⟩=>by subst e; exact ⟨kk,r1,kq _ Z1 G1 H1 s1 S1 q⟩⟩)
theorem CK {a':CE} (P:Pl X E T k) (ha:JE X E a (wpE T a')) (he:∀ whole,isTrue a X.env whole=(do let v ←whole; standAt a.pos; holding [v] (truthy v))):JT X E a (wpT T (.tst a')):=fun F =>
  PT.imp (WU (ha F) he) fun σ H Q ⟨σ',Z,G,Q',rs,S,h,kq⟩=>by
    rw [wpT] at h
    refine ⟨σ',Z,G,_,rs,S,h,fun x v Z1 G1 H1 s1 S1 r1 q1=>?_⟩
    obtain ⟨c,tv,q⟩:=vL P.hK S1 r1 q1
    exact ⟨c,tv,kq _ Z1 G1 H1 s1 S1 q⟩
theorem aGW {a':CE} (ha:JT X E a (wpT T a')):JW X E (.BoolOp .And [a] pos) (wpT T a'):=fun F=>aCH (ha F)
theorem aH5 {a':CE} (ha:JT X E a (wpT T a')):JW X E (.BoolOp .Or [a] pos) (wpT T a'):=fun F=>aFi (ha F)
theorem aJk {F:Hp} {a' b':CE} {σ:L2.St} {H:Hp} {Q:Bool→Hp→Prop} (h:BM E F (wpT T (.an a' b')) σ H Q):aJh (BM E F (wpT T a')) (BM E F (wpT T b')) σ H Q:=by
  obtain ⟨σ',Z,G,Q',rs,S,h,kq⟩:=h
  rw [wpT] at h
  refine ⟨σ',Z,G,_,rs,S,h,fun d Z1 G1 H1 s1 S1 q=>?_⟩
  cases d with
  | true=>rw [if_pos rfl] at q ⊢; exact ⟨σ',Z1,G1,Q',rs.mono s1,S1,q,kq.mono s1⟩
  | false=>rw [if_neg Bool.false_ne_true] at q ⊢; exact kq _ _ _ _ s1 S1 q
theorem aIG {F:Hp} {a' b':CE} {σ:L2.St} {H:Hp} {Q:Bool→Hp→Prop} (h:BM E F (wpT T (.oo a' b')) σ H Q):tOr (BM E F (wpT T a')) (BM E F (wpT T b')) σ H Q:=by
  obtain ⟨σ',Z,G,Q',rs,S,h,kq⟩:=h
  rw [wpT] at h
  refine ⟨σ',Z,G,_,rs,S,h,fun d Z1 G1 H1 s1 S1 q=>?_⟩
  cases d with
  | false=>rw [if_neg Bool.false_ne_true] at q ⊢; exact ⟨σ',Z1,G1,Q',rs.mono s1,S1,q,kq.mono s1⟩
  | true=>rw [if_pos rfl] at q ⊢; exact kq _ _ _ _ s1 S1 q
theorem aJw {dC:List Expr} {a' b':CE} (ha:JT X E a (wpT T a')) (hb:JW X E (.BoolOp .And (b :: dC) pos) (wpT T b')):JW X E (.BoolOp .And (a :: b :: dC) pos) (wpT T (.an a' b')):=fun F=>PW.imp (aGF (ha F) (hb F)) fun _ _ _ h=>aJk h
theorem aKv {dC:List Expr} {a' b':CE} (ha:JT X E a (wpT T a')) (hb:JW X E (.BoolOp .Or (b :: dC) pos) (wpT T b')):JW X E (.BoolOp .Or (a :: b :: dC) pos) (wpT T (.oo a' b')):=fun F=>PW.imp (aKJ (ha F) (hb F)) fun _ _ _ h=>aIG h
theorem JW.jt {e:Expr} {t:PTT} (h:JW X E e t):JT X E e t:=fun F=>(h F).pt
theorem aKU {a':CE} (ha:JT X E a (wpT T a')):JT X E (.UnaryOp .Not a pos) (wpT T (.no a')):=fun F =>
  PT.imp (aFm (ha F)) fun σ H Q ⟨σ',Z,G,Q',rs,S,h,kq⟩=>by
    rw [wpT] at h
    exact ⟨σ',Z,G,_,rs,S,h,fun d Z1 G1 H1 s1 S1 q=>kq _ _ _ _ s1 S1 q⟩
theorem aG1:JA X E [] (wpL T .nil):=fun F=>PA.imp kD fun σ H Q ⟨σ',Z,G,Q',rs,S,h,kq⟩=>by rw [wpL] at h; exact kq [] [] Z G H rfl (aQ.refl Z) S rfl h
theorem aBl {e:Expr} {es:List Expr} {a' b':CE} (ha:JE X E e (wpE T a')) (hr:JA X E es (wpL T b')) (hs:starEach (e :: es) X.env=(false,eval e X.env) :: starEach es X.env):JA X E (e :: es) (wpL T (.cons a' b')):=fun F =>
  PA.imp (dO (ha F) (hr F) hs) fun σ H Q ⟨σ',Z,G,Q',rs,S,h,kq⟩=>by
    rw [wpL] at h
    exact ⟨σ',Z,G,_,rs,S,h,fun x v Z1 G1 H1 s1 S1 r1 q1=>⟨σ',Z1,G1,_,rs.mono s1,S1,q1,fun xs vs Z2 G2 H2 l2 s2 S2 r2 q2=>kq (x :: xs) (v :: vs) _ _ _ (by rw [List.length_cons,l2]; rfl) (s1.trans s2) S2 ⟨v,vs,rfl,r1.mono s2,r2⟩ q2⟩⟩
theorem aHT {es:List Expr} {x1:Nat} {es':CE} (h:JA X E es (wpL T es')):JE X E (.Tuple es x1 pos) (wpE T (.tup es')):=fun F =>
  (aFV (h F)).imp fun σ H Q ⟨σ',Z,G,Q',rs,S,h,kq⟩=>by
    rw [wpE] at h
    refine ⟨σ',Z,G,_,rs,S,h,fun xs vs Z1 G1 H1 l1 s1 S1 r1 q1=>⟨by rw [←r1.length]; exact q1.1,fun p n=>(kq.mono s1).newZ S1 n (mU (S1.zn n) r1) q1.2⟩⟩
theorem aA5 {F Z H:Hp} {G:Gh} {m:Bool} {xs:List PV} {vs:List V} {Q':PK1} {Q:VK} {p:Addr} (S:Sim E F H Z G) (n:H p=none) (r:RPs E Z xs vs) (q:yM m G xs Q') (kq:Kq E F Z Q' Q):Q (.ref p) (upd H p (.lst vs)):=by
  unfold yM at q
  cases m with
  | true =>
    rw [if_pos rfl] at q
    exact kq (.ref p) _ _ _ _ (aQ.refl Z) (S.new (go:=.lst xs) n ⟨vs,rfl,r⟩) rfl (q p (S.gn n))
  | false =>
    rw [if_neg Bool.false_ne_true] at q
    exact kq.newZ S n (jZ (S.zn n) r) q
theorem aHZ {es:List Expr} {es':CE} {m:Bool} (h:JA X E es (wpL T es')):JE X E (.List es pos) (wpE T (.lst m es')):=fun F =>
  (aFc (h F)).imp fun σ H Q ⟨σ',Z,G,Q',rs,S,h,kq⟩=>by
    rw [wpE] at h
    refine ⟨σ',Z,G,_,rs,S,h,fun xs vs Z1 G1 H1 l1 s1 S1 r1 q1=>⟨by rw [←r1.length]; exact q1.1,fun p n=>aA5 S1 n r1 q1.2 (kq.mono s1)⟩⟩
theorem aFJ {a' b':CE} (P:Pl X E T k) (ha:JE X E a (wpE T a')) (hb:JE X E b (wpE T b')) (hs:vI b):JE X E (.Subscript a b pos) (wpE T (.idx a' b')):=fun F =>
  (aDz (aF9 P.room P.hK) (ha F) (hb F) hs).imp fun σ H Q h=>PZ (by rw [wpE] at h; exact h)
noncomputable def aLj (E:Ev) (F:Hp) (t:PSt→Gh→(Option Int→Gh→Prop)→Prop):TO:=fun σ H Q=>∃ σ' Z G Q',RSt E Z σ' σ∧Sim E F H Z G∧t σ' G Q'∧∀ o Z1 G1 H1,aQ Z Z1→Sim E F H1 Z1 G1→Q' o G1→Q o H1
noncomputable def JO (X:Cx) (E:Ev) (e:Option Expr) (t:PSt→Gh→(Option Int→Gh→Prop)→Prop):Prop:= ∀ F,PO X e (aLj E F t)
theorem PO.imp {e:Option Expr} {t t':TO} (h:PO X e t) (g:∀ σ H Q,t' σ H Q→t σ H Q):PO X e t':=fun pins s σ H Q I q=>h pins s σ H Q I (g _ _ _ q)
theorem aFx:JO X E none (wpO T .nil):=fun F=>PO.imp aCd fun σ H Q ⟨σ',Z,G,Q',rs,S,h,kq⟩=>by rw [wpO] at h; exact kq _ _ _ _ (aQ.refl Z) S h
theorem aBu {a':CE} (ha:JE X E a (wpE T a')):JO X E (some a) (wpO T (.tst a')):=fun F=>PO.imp (MV (ha F)) fun σ H Q ⟨σ',Z,G,Q',rs,S,h,kq⟩=>by
  rw [wpO] at h
  exact ⟨σ',Z,G,_,rs,S,h,fun x v Z1 G1 H1 s1 S1 r1 ⟨i,e,q⟩=>by subst e; exact ⟨i,r1,kq _ _ _ _ s1 S1 q⟩⟩
theorem aGd {lo hi:Option Expr} {p2:Pos} {a' l' h':CE} (P:Pl X E T k) (ha:JE X E a (wpE T a')) (hl:JO X E lo (wpO T l')) (hu:JO X E hi (wpO T h')):JE X E (.Subscript a (.Slice lo hi none p2) pos) (wpE T (.sli a' l' h')):=fun F =>
  (aAT (aGn P.hK) (ha F) (hl F) (hu F)).imp fun σ H Q ⟨σ',Z,G,Q',rs,S,h,kq⟩=>by
    rw [wpE] at h
    refine ⟨σ',Z,G,_,rs,S,h,fun x v Z1 G1 H1 s1 S1 r1 q1=>⟨σ',Z1,G1,_,rs.mono s1,S1,q1,fun o Z2 G2 H2 s2 S2 q2=>⟨σ',Z2,G2,_,(rs.mono s1).mono s2,S2,q2,fun o' Z3 G3 H3 s3 S3 q3=>?_⟩⟩⟩
    exact ⟨x,Z3,G3,Q',(r1.mono s2).mono s3,S3,q3,kq.mono ((s1.trans s2).trans s3)⟩
theorem aHK {p1 p2 p3:Pos} {k1:Nat} {a':CE} (P:Pl X E T k) (ha:JE X E a (wpE T a')):JE X E (.Subscript a (.Slice none none (some (.UnaryOp .USub (.Constant (.int 1) k1 p1) p2)) p3) pos) (wpE T (.rev a')):=fun F =>
  (aBS (ha F)).imp fun σ H Q ⟨σ',Z,G,Q',rs,S,h,kq⟩=>by
    rw [wpE] at h
    refine ⟨σ',Z,G,_,rs,S,h,fun x v Z1 G1 H1 s1 S1 r1 hq=>?_⟩
    rcases hq with ⟨xs,e,q1⟩ | ⟨xs,e,q1⟩
    · obtain ⟨a,vs,rfl,ha,ta⟩:=eR S1 r1 e
      exact ⟨a,vs,rfl,.inl ⟨ha,fun p n=>(kq.mono s1).newZ S1 n (jZ (S1.zn n) ta.reverse) q1⟩⟩
    · subst e
      obtain ⟨a,vs,rfl,ha,ta⟩:=gJ S1 r1
      exact ⟨a,vs,rfl,.inr ⟨P.hK▸ha,fun p n=>(kq.mono s1).newZ S1 n (mU (S1.zn n) ta.reverse) q1⟩⟩
theorem nP {ns:List Str} {f:Str} {x:PV} {Z:Hp}:∀ {ns:List Str} {xs:List PV} {vs:List V},RPs E Z xs vs→(ns.zip xs).lookup f=some x→∃ v,(ns.zip vs).lookup f=some v∧RP E Z x v
  | [],_,_,_,h=>by cases h
  | _ :: _,[],_,_,h=>by cases h
  | n :: ns,y :: ys,_,⟨v,r,e,r1,r2⟩,h=>by
    subst e
    rw [List.zip_cons_cons,List.lookup_cons] at h
    rw [List.zip_cons_cons,List.lookup_cons]
    cases hb:f == n with
    | true=>rw [hb] at h; cases h; exact ⟨v,rfl,r1⟩
    | false=>rw [hb] at h; exact nP (ns:=ns) r2 h
theorem aE8 {f:Str} {a':CE} (P:Pl X E T k) (ha:JE X E a (wpE T a')) (hb:attributeBase a f X.env (eval a X.env)=eval a X.env):JE X E (.Attribute a f pos) (wpE T (.att a' f)):=fun F =>
  (aH0 (ha F) hb).imp fun σ H Q ⟨σ',Z,G,Q',rs,S,h,kq⟩=>by
    rw [wpE] at h
    refine ⟨σ',Z,G,_,rs,S,h,fun x v Z1 G1 H1 s1 S1 r1 ⟨c,ns,xs,y,hx,hf,hl,q⟩=>?_⟩
    obtain ⟨h1,h2⟩:=P.fld c f hf
    rcases hx with e | ⟨a,e,hG⟩
    · subst e
      obtain ⟨p,dx,vs,e,hp,_,t⟩:=r1
      obtain ⟨w,e1,e2⟩:=nP (ns:=ns) t hl
      exact ⟨p,_,dx,_,w,e,S1.z _ _ hp,h1,h2,e1,kq.go s1 S1 e2 q⟩
    · subst e
      obtain ⟨_,o',hp,dx,vs,e',_,t⟩:=S1.g _ _ hG
      subst e'
      obtain ⟨w,e1,e2⟩:=nP (ns:=ns) t hl
      exact ⟨a,_,dx,_,w,r1,hp,h1,h2,e1,kq.go s1 S1 e2 q⟩
theorem aHU {x:Str} {p:Pos} {e:Expr} {es:List Expr} {bb:Bn} {es':CE} (P:Pl X E T k) (hg:Gl X x) (hm:X.mg x=none) (hv:bootBuiltins x=some (UU bb)) (hn:x≠"__name__") (hd:(x == ("__debug__":Str))=false)
    (ha:JA X E (e :: es) (wpL T es')) (he:starEach (e :: es) X.env=(false,eval e X.env) :: starEach es X.env) (hpl:(backTo pos (starEach es X.env)).any (·.1)=false):JE X E (.Call (.Name x p) (e :: es) [] pos) (wpE T (.blt bb es')):=fun F=>by
  have main:PE X (.Call (.Name x p) (e :: es) [] pos) (tCB (RA E F (eI T.cs bb)) (GG E F (e :: es).length (wpL T es'))):=by
    have hc:=NF (F:=F) (cs:=T.cs) P.hK P.calm P.cls bb
    cases bb <;> first
      | exact wE hc hg hm hv (ha F) hn hd he hpl
      | exact zT hc hg hm hv (ha F) hn hd he hpl
  exact main.imp fun σ H Q ⟨σ',Z,G,Q',rs,S,h,kq⟩=>by
    rw [wpE] at h
    exact ⟨σ',Z,G,_,rs,S,h,fun xs vs Z1 G1 H1 l1 s1 S1 r1 q1=>⟨xs,Z1,G1,Q',r1,S1,q1,kq.mono s1⟩⟩
noncomputable def fW (E:Ev) (sp:Sp3):Sp:=fun vs H Q _=>∃ xs Z G F Q',RPs E Z xs vs∧Sim E F H Z G∧sp xs G Q'∧Kq E F Z Q' Q
theorem aFg {f:Str} {p:Pos} {e:Expr} {es:List Expr} {es':CE} {ad:Addr} {fd:FuncData} {ps:List Str} (K:bS X.prog X.w X.K X.mg X.base CX0 k ad fd ps (fW E (T.S f))) (hr:bE k X.A) (hg:Gl X f) (hm:X.mg f=some (.ref ad)) (hk:W.keepIn X.K (.ref ad)=true)
    (hb:aE X.K fd ps []) (hd:(f == ("__debug__":Str))=false) (ha:JA X E (e :: es) (wpL T es')) (he:starEach (e :: es) X.env=(false,eval e X.env) :: starEach es X.env) (hpl:(backTo pos (starEach es X.env)).any (·.1)=false) :
    JE X E (.Call (.Name f p) (e :: es) [] pos) (wpE T (.cal f es')):=fun F =>
  (aBE K hr hg hm hk hb .nil xX (ha F) hd he hpl).imp fun σ H Q ⟨σ',Z,G,Q',rs,S,h,kq⟩=>by
    rw [wpE] at h
    exact ⟨σ',Z,G,_,rs,S,h,fun xs vs Z1 G1 H1 l1 s1 S1 r1 q1=>by
      show fW E (T.S f) (vs ++ []) H1 Q E0
      rw [List.append_nil]
      exact ⟨xs,Z1,G1,F,Q',r1,S1,q1,kq.mono s1⟩⟩
structure EqM (X:Cx) (E:Ev) (T:Tb) (k:Nat) (c:String) (m:Str):Prop where
  ex:∃ ad fd,lL X.K (E.cls c) "__eq__" ad∧bS X.prog X.w X.K X.mg X.base CX0 k ad fd ["self","other"] (fW E (T.S m))∧aE X.K fd ["self","other"] []
structure NeM (X:Cx) (E:Ev) (T:Tb) (k:Nat) (c:String) (m:Str):Prop where
  ex:∃ ad fd,NeC X.K (E.cls c)∧lL X.K (E.cls c) "__eq__" ad∧bS X.prog X.w X.K X.mg X.base CX0 k ad fd ["self","other"] (fW E (T.S m))∧aE X.K fd ["self","other"] []
structure LnM (X:Cx) (E:Ev) (T:Tb) (k:Nat) (c:String) (m:Str):Prop where
  ex:∃ ad fd,NeC X.K (E.cls c)∧lL X.K (E.cls c) "__len__" ad∧bS X.prog X.w X.K X.mg X.base CX0 k ad fd ["self"] (fW E (T.S m))∧aE X.K fd ["self"] []
theorem NP {F:Hp} {eqs:List (String×Str)} (P:Pl X E T (k + 1)) (he:∀ y∈eqs,NeM X E T k y.1 y.2):OpR X (compareOp .NotEq) (iM E F (VW T eqs)):=by
  intro pins s σ H v w u1 u2 Q I rv rw' ⟨x,y,Z,G,Q',r1,r2,S,q,kq⟩
  rcases q with ⟨c,m,ns,xs,ns',ys,hm,e1,e2,q⟩ | q
  · subst e1 e2
    obtain ⟨ad,fd,N,M,Fn,hb⟩:=(he _ hm).ex
    have r1':=r1
    have r2':=r2
    obtain ⟨a,dx,vs,ea,hz,_,_⟩:=r1'
    obtain ⟨a2,dx2,vs2,ea2,hz2,_,_⟩:=r2'
    subst ea ea2
    refine aGB N M Fn P.room hb pins s σ H _ _ u1 u2 Q I rv rw' ⟨a,dx,_,a2,dx2,_,rfl,rfl,S.z _ _ hz,S.z _ _ hz2, ?_⟩
    exact ⟨[.ob c ns xs,.ob c ns' ys],Z,G,F,_,⟨_,_,rfl,r1,_,_,rfl,r2,rfl⟩,S,q,fun x v Z1 G1 H1 s1 S1 r3 ⟨b,e,q3⟩=>by subst e; have e:v= .bl b:=r3; exact ⟨b,e,kq _ _ Z1 G1 H1 s1 S1 bW q3⟩⟩
  · exact UQ P.room P.hK pins s σ H v w u1 u2 Q I rv rw' ⟨x,y,Z,G,Q',r1,r2,S,q,kq⟩
theorem aG8 {eqs:List (String×Str)} {a' b':CE} (P:Pl X E T (k + 1)) (he:∀ y∈eqs,NeM X E T k y.1 y.2) (hm:behindInMarks .NotEq b=false) (ha:JE X E a (wpE T a')) (hb:JE X E b (wpE T b')):JE X E (.Compare a [.NotEq] [b] pos) (wpE T (.cne eqs a' b')):=fun F =>
  (BH (NP P he) (ha F) (hb F) hm).imp fun σ H Q h=>PZ (by rw [wpE] at h; exact h)
theorem aGm {eqs:List (String×Str)} {a' b':CE} (P:Pl X E T (k + 1)) (he:∀ y∈eqs,NeM X E T k y.1 y.2) (hm:behindInMarks .NotEq b=false) (ha:JE X E a (wpE T a')) (hb:JE X E b (wpE T b')):JT X E (.Compare a [.NotEq] [b] pos) (wpT T (.tsb (.cne eqs a' b'))):=fun F =>
  PT.imp (NG (NP P he) (ha F) (hb F) hm) fun σ H Q h=>PZ (by
    obtain ⟨σ',Z,G,Q',rs,S,h,kq⟩:=h
    rw [wpT,wpE] at h
    exact ⟨σ',Z,G,_,rs,S,h,fun x v Z1 G1 H1 s1 S1 r1 ⟨kk,e,q⟩=>by subst e; exact ⟨kk,r1,kq _ Z1 G1 H1 s1 S1 q⟩⟩)
theorem aGL {e:Expr} {apos:Pos} {a' b':CE} (ha:JE X E a (wpE T a')) (hb:JE X E e (wpE T b')) (hbase:attributeBase a "append" X.env (eval a X.env)=eval a X.env)
    (hs:starEach [e] X.env=[(false,eval e X.env)]) (hline:(apos.endLine == pos.line)=true):JE X E (.Call (.Attribute a "append" apos) [e] [] pos) (wpE T (.app a' b')):=fun F=>by
  refine (aDV PySem.F.plainAttrs_list PySem.F.slot_list_append PySem.F.type_list_append AH (ha F) (dO (hb F) kD hs) hbase (by rw [hs]; rfl) hline hs rfl).imp fun σ H Q ⟨σ',Z,G,Q',rs,S,h,kq⟩=>?_
  rw [wpE] at h
  refine ⟨σ',Z,G,_,rs,S,h,fun x v Z1 G1 H1 s1 S1 r1 ⟨⟨ys,hy⟩,q1⟩=>?_⟩
  obtain ⟨a1,vs,rfl,hH,ta⟩:=eR S1 r1 hy
  refine ⟨.inl ⟨rfl,vs,SqL.of hH⟩,σ',Z1,G1,_,rs.mono s1,S1,q1,fun y u Z2 G2 H2 s2 S2 r2 ⟨p,xs,ex,hG,hz,q⟩=>?_⟩
  subst ex
  have e1:V.ref a1= .ref p:=r1
  cases e1
  obtain ⟨_,o',hp,us,e',t⟩:=S2.g _ _ hG
  subst e'
  refine ⟨a1,us,u,rfl,rfl,hp,by rw [←t.length]; exact hz,kq.go (s1.trans s2) (S2.set (go:=.lst (xs ++ [y])) hG ⟨us ++ [u],rfl,t.append ⟨u,[],rfl,r2,rfl⟩⟩) tF q⟩
theorem RPs.strs {Z:Hp}:∀ {ns:List Str} {vs:List V},RPs E Z (ns.map PV.str) vs→vs=ns.map V.str
  | [],_,h=>h
  | _ :: _,_,⟨v,r,e1,h,t⟩=>by
    have h':v=V.str _:=h
    subst e1 h'; rw [RPs.strs t]; rfl
theorem aF4 {e:Expr} {apos:Pos} {a' b':CE} (ha:JE X E a (wpE T a')) (hb:JE X E e (wpE T b')) (hbase:attributeBase a "join" X.env (eval a X.env)=eval a X.env)
    (hs:starEach [e] X.env=[(false,eval e X.env)]) (hline:(apos.endLine == pos.line)=true):JE X E (.Call (.Attribute a "join" apos) [e] [] pos) (wpE T (.joi a' b')):=fun F=>by
  refine (aDV PySem.F.plainAttrs_str PySem.F.slot_str_join PySem.F.type_str_join aBm (ha F) (dO (hb F) kD hs) hbase (by rw [hs]; rfl) hline hs rfl).imp fun σ H Q ⟨σ',Z,G,Q',rs,S,h,kq⟩=>?_
  rw [wpE] at h
  refine ⟨σ',Z,G,_,rs,S,h,fun x v Z1 G1 H1 s1 S1 r1 ⟨sep,ex,q1⟩=>?_⟩
  subst ex
  have ev:v= .str sep:=r1
  subst ev
  refine ⟨rfl,σ',Z1,G1,_,rs.mono s1,S1,q1,fun y u Z2 G2 H2 s2 S2 r2 ⟨ys,hy,hz,q⟩=>?_⟩
  obtain ⟨a1,vs,rfl,hH,ta⟩:=eR S2 r2 hy
  have:=ta.strs
  subst this
  exact ⟨sep,a1,ys,rfl,rfl,hH,hz,(kq.mono (s1.trans s2)).here S2 q iY⟩
noncomputable def JJ (X:Cx) (E:Ev) (parts:List Expr) (t:Str→PTE):Prop:= ∀ F,PJ X parts (fun out=>low E F (t out))
theorem aGy:JJ X E [] (wpJ T .nil):=fun F out pins s σ H Q I ⟨σ',Z,G,Q',rs,S,h,kq⟩=>by
  rw [wpJ] at h
  exact aFM out pins s σ H Q I ⟨h.1,kq.here S h.2 iY⟩
theorem aHG {e:Expr} {es:List Expr} {a' b':CE} (ha:JE X E e (wpE T a')) (hb:JJ X E es (wpJ T b')) (he:evalEach (e :: es) X.env=eval e X.env :: evalEach es X.env):JJ X E (e :: es) (wpJ T (.cons a' b')):=fun F out pins s σ H Q I ⟨σ',Z,G,Q',rs,S,h,kq⟩=>by
  rw [wpJ] at h
  refine MZ (ha F) (hb F) he out pins s σ H Q I ⟨σ',Z,G,_,rs,S,h,fun x v Z1 G1 H1 s1 S1 r1 ⟨y,ex,_,hz,q⟩=>?_⟩
  subst ex
  exact ⟨y,r1,hz,σ',Z1,G1,Q',rs.mono s1,S1,q,kq.mono s1⟩
theorem aJv {e:Expr} {es:List Expr} {p:Pos} {a' b':CE} (ha:JE X E e (wpE T a')) (hb:JJ X E es (wpJ T b')) (he:evalEach (.FormattedValue e (-1) none p :: es) X.env=eval (.FormattedValue e (-1) none p) X.env :: evalEach es X.env):JJ X E (.FormattedValue e (-1) none p :: es) (wpJ T (.cons a' b')):=fun F out pins s σ H Q I ⟨σ',Z,G,Q',rs,S,h,kq⟩=>by
  rw [wpJ] at h
  refine MZ (aJm (ha F)) (hb F) he out pins s σ H Q I ⟨σ',Z,G,_,rs,S,h,fun x v Z1 G1 H1 s1 S1 r1 ⟨y,ex,hy,hz,q⟩=>?_⟩
  subst ex
  exact ⟨y,r1,hy,y,rfl,hz,σ',Z1,G1,Q',rs.mono s1,S1,q,kq.mono s1⟩
theorem aGA {v1 v2:Expr} {dC:List Expr} {c':CE} (h:JJ X E (v1 :: v2 :: dC) (wpJ T c')):JE X E (.JoinedStr (v1 :: v2 :: dC) pos) (wpE T (.fst c')):=fun F=>(aBj (h F)).imp fun σ H Q ⟨σ',Z,G,Q',rs,S,h,kq⟩=>by
  rw [wpE] at h
  exact ⟨σ',Z,G,Q',rs,S,h,kq⟩
noncomputable def bwN:Bn→Option Str
  | .len=>some "__len__"
  | .bool=>some "__len__"
  | .str=>some "__str__"
  | .repr=>some "__repr__"
  | _=>none
structure OwM (X:Cx) (E:Ev) (T:Tb) (k:Nat) (b:Bn) (c:String) (m:Str):Prop where
  ex:∃ ad fd k0 nm,k0 + 2≤k∧bwN b=some nm∧NeC X.K (E.cls c)∧lL X.K (E.cls c) nm ad∧bS X.prog X.w X.K X.mg X.base CX0 k0 ad fd ["self"] (fW E (T.S m))∧aE X.K fd ["self"] []
theorem aC8 {F:Hp} {b:Bn} {ls:List (String×Str)} (P:Pl X E T (k + 1)) (he:∀ y∈ls,OwM X E T k b y.1 y.2):bF X (UU b) (RA E F (aBZ T b ls)):=by
  intro pins s σ H vs us Q I rv ⟨xs,Z,G,Q',r,S,q,kq⟩
  rcases q with ⟨c,m,ns,ys,hm,ex,q⟩ | q
  · subst ex
    obtain ⟨ad,fd,k0,nm,hk,en,N,M,Fn,hb⟩:=(he _ hm).ex
    obtain ⟨v,rfl,rp⟩:=yT r
    have rp':=rp
    obtain ⟨p,dx,ws,ea,hz,_,_⟩:=rp'
    subst ea
    cases b <;> simp only [bwN,Option.some.injEq,reduceCtorEq] at en
    case len =>
      subst en
      exact QE M Fn (P.room.mono (by omega)) hb pins s σ H _ us Q I rv ⟨p,dx,_,rfl,S.z _ _ hz,[.ob c ns ys],Z,G,F,_,⟨_,_,rfl,rp,rfl⟩,S,q,fun x v Z2 G2 H2 s2 S2 r3 ⟨n,e,h0,h1,q3⟩=>by subst e; have e:v= .int n:=r3; exact ⟨n,e,h0,h1,kq _ _ Z2 G2 H2 s2 S2 bI q3⟩⟩
    case str =>
      subst en
      exact RD M Fn (P.room.mono (by omega)) hb pins s σ H _ us Q I rv ⟨p,dx,_,rfl,S.z _ _ hz,[.ob c ns ys],Z,G,F,_,⟨_,_,rfl,rp,rfl⟩,S,q,fun x v Z2 G2 H2 s2 S2 r3 ⟨n,e,q3⟩=>by subst e; have e:v= .str n:=r3; exact ⟨n,e,kq _ _ Z2 G2 H2 s2 S2 iY q3⟩⟩
    case bool =>
      subst en
      exact JY N.bo M Fn (P.room.mono (by omega)) hb pins s σ H _ us Q I rv ⟨p,dx,_,rfl,S.z _ _ hz,[.ob c ns ys],Z,G,F,_,⟨_,_,rfl,rp,rfl⟩,S,q,fun x v Z2 G2 H2 s2 S2 r3 ⟨n,e,h0,h1,q3⟩=>by subst e; have e:v= .int n:=r3; exact ⟨n,e,h0,h1,kq _ _ Z2 G2 H2 s2 S2 bW q3⟩⟩
    case repr =>
      subst en
      exact HU M Fn (P.room.mono (by omega)) hb pins s σ H _ us Q I rv ⟨p,dx,_,rfl,S.z _ _ hz,[.ob c ns ys],Z,G,F,_,⟨_,_,rfl,rp,rfl⟩,S,q,fun x v Z2 G2 H2 s2 S2 r3 ⟨n,e,q3⟩=>by subst e; have e:v= .str n:=r3; exact ⟨n,e,kq _ _ Z2 G2 H2 s2 S2 iY q3⟩⟩
  · exact NF (F:=F) (cs:=T.cs) P.hK P.calm P.cls b pins s σ H vs us Q I rv ⟨xs,Z,G,Q',r,S,q,kq⟩
theorem aHo {x:Str} {p:Pos} {e:Expr} {es:List Expr} {bb:Bn} {ls:List (String×Str)} {es':CE} (P:Pl X E T (k + 1)) (ho:∀ y∈ls,OwM X E T k bb y.1 y.2) (hg:Gl X x) (hm:X.mg x=none) (hv:bootBuiltins x=some (UU bb)) (hn:x≠"__name__") (hd:(x == ("__debug__":Str))=false)
    (ha:JA X E (e :: es) (wpL T es')) (he:starEach (e :: es) X.env=(false,eval e X.env) :: starEach es X.env) (hpl:(backTo pos (starEach es X.env)).any (·.1)=false):JE X E (.Call (.Name x p) (e :: es) [] pos) (wpE T (.bow bb ls es')):=fun F=>by
  have main:PE X (.Call (.Name x p) (e :: es) [] pos) (tCB (RA E F (aBZ T bb ls)) (GG E F (e :: es).length (wpL T es'))):=by
    have hc:=aC8 (F:=F) P ho
    cases bb <;> first
      | exact wE hc hg hm hv (ha F) hn hd he hpl
      | exact zT hc hg hm hv (ha F) hn hd he hpl
  exact main.imp fun σ H Q ⟨σ',Z,G,Q',rs,S,h,kq⟩=>by
    rw [wpE] at h
    exact ⟨σ',Z,G,_,rs,S,h,fun xs vs Z1 G1 H1 l1 s1 S1 r1 q1=>⟨xs,Z1,G1,Q',r1,S1,q1,kq.mono s1⟩⟩
mutual
theorem XA:∀ {x:PV} {d:PyData},dat x=some d→d.hasDict=false
  | .non,d,h=>by simp only [dat] at h; cases h; rfl
  | .bl _,d,h=>by simp only [dat] at h; cases h; rfl
  | .int _,d,h=>by simp only [dat] at h; cases h; rfl
  | .str _,d,h=>by simp only [dat] at h; cases h; rfl
  | .tup xs,d,h=>by
    simp only [dat] at h
    split at h
    · rename_i ds e; cases h; unfold PyData.hasDict; exact dats_nd e
    · cases h
  | .lst xs,d,h=>by
    simp only [dat] at h
    split at h
    · rename_i ds e; cases h; unfold PyData.hasDict; exact dats_nd e
    · cases h
  | .scr _,d,h=>by simp [dat] at h
  | .ob _ _ _,d,h=>by simp [dat] at h
  | .ref _,d,h=>by simp [dat] at h
  | .ty _,d,h=>by simp [dat] at h
  | .cl _,d,h=>by simp [dat] at h
  | .fn _,d,h=>by simp [dat] at h
  | .emp,d,h=>by simp [dat] at h
  | .dct _ _,d,h=>by simp [dat] at h
theorem dats_nd:∀ {xs:List PV} {ds:List PyData},lX xs=some ds→PyData.hasDictAll ds=false
  | [],ds,h=>by simp only [lX] at h; cases h; rfl
  | x :: xs,ds,h=>by
    simp only [lX] at h
    split at h
    · rename_i d ds' e1 e2
      cases h
      unfold PyData.hasDictAll
      rw [XA e1,dats_nd e2]; rfl
    · cases h
end
theorem aCJ {F:Hp} (P:Pl X E T k) (hg:X.A.guards=some []):bF X (.builtin "repr") (RA E F fun xs G Q=>∃ x,xs=[x]∧aHh x G Q):=by
  intro pins s σ H vs us Q I rv ⟨xs,Z,G,Q',r,S,⟨x,ex,ys,d,hx,hd,h1,h2,h3,q⟩,kq⟩
  subst ex hx
  obtain ⟨v,rfl,rp⟩:=yT r
  cases rv with
  | cons r1 r2 =>
    cases r2
    obtain ⟨as,rd⟩:=rZ I P.hK S.z rp r1 hd
    obtain ⟨a,ws,ea,_,_⟩:=rp
    subst ea
    cases r1
    have hu:=P.room.un
    refine repr_of_reads' (h₀:=s.heap) rd h1 (fun z=>by rw [XA hd] at z; cases z) hg (by omega) (fun _ _ z=>z) (fun h' u tk hk=>?_) h3
    exact ⟨.str d.shown,H,I.kept (h':=h') (t':=tk) hk,⟨_,rfl⟩,kq.here S q iY⟩
theorem SI:bootBuiltins "repr"=some (.builtin "repr"):=by with_unfolding_all rfl
theorem aGO {p:Pos} {e:Expr} {e':CE} (P:Pl X E T k) (hgd:X.A.guards=some []) (hg:Gl X "repr") (hm:X.mg "repr"=none) (ha:JE X E e (wpE T e')) (hs:starEach [e] X.env=[(false,eval e X.env)]):JE X E (.Call (.Name "repr" p) [e] [] pos) (wpE T (.rpr e')):=fun F =>
  (wE (aCJ (F:=F) P hgd) hg hm (SI) (dO (ha F) kD hs) (by decide) (by decide) hs rfl).imp fun σ H Q ⟨σ',Z,G,Q',rs,S,h,kq⟩=>by
    rw [wpE] at h
    exact ⟨σ',Z,G,_,rs,S,h,fun x v Z1 G1 H1 s1 S1 r1 q1=>⟨[x],Z1,G1,Q',⟨v,[],rfl,r1,rfl⟩,S1,⟨x,rfl,q1⟩,kq.mono s1⟩⟩
end
section
variable {X:Cx} {E:Ev} {T:Tb} {k:Nat} {pos:Pos} {a b c e:Expr}
theorem DD {i:Nat} {x:Str} (hN:X.N.Nodup) (hi:X.N[i]? =some x) (hx:Loc X.env.scope x) (hf:X.fn x=true∨X.env.scope.names.lookup x=some .local):JG X E (.Name x pos) (wpG T (.gn i)):=fun F =>
  (OC hN hi hx hf).imp fun v σ H Q ⟨x,σ',Z,G,Q',r,rs,S,h,kq⟩=>by
    rw [wpG] at h
    exact kq _ _ _ _ _ (aQ.refl Z) S (rs.set r i) h
theorem aBV:JGs X E [] (eV T .nil):=fun F=>PGs.imp aDj fun vs σ H Q ⟨xs,σ',Z,G,Q',r,rs,S,h,kq⟩=>by
  rw [eV] at h
  obtain ⟨e,h⟩:=h
  subst e
  exact ⟨r,kq _ _ _ _ _ (aQ.refl Z) S rs h⟩
theorem VH {e:Expr} {es:List Expr} {a' b':CE} (h1:JG X E e (wpG T a')) (h2:JGs X E es (eV T b')) (hs:(assignEach (e :: es) X.env).map (·.2)=assign e X.env :: (assignEach es X.env).map (·.2)):JGs X E (e :: es) (eV T (.cons a' b')):=fun F =>
  PGs.imp (XH (h1 F) (h2 F) hs) fun vs σ H Q ⟨xs,σ',Z,G,Q',r,rs,S,h,kq⟩=>by
    rw [eV] at h
    obtain ⟨x,t,e,h⟩:=h
    subst e
    obtain ⟨v,u,e,r1,r2⟩:=r
    exact ⟨v,u,e,x,σ',Z,G,_,r1,rs,S,h,fun σ1 σ2 Z1 G1 H1 s1 S1 rs1 q1=>⟨t,σ1,Z1,G1,Q',r2.mono s1,rs1,S1,q1,kq.mono s1⟩⟩
theorem aAF {es:List Expr} {x1 n:Nat} {gs:CE} (P:Pl X E T k) (h:JGs X E es (eV T gs)) (hn:(assignEach es X.env).length=n) (hst:(assignEach es X.env).findIdx? (·.1)=none):JG X E (.Tuple es x1 pos) (wpG T (.gt n gs)):=fun F =>
  (aHz P.calm (h F) hn hst).imp fun v σ H Q ⟨x,σ',Z,G,Q',r,rs,S,h,kq⟩=>by
    rw [wpG] at h
    obtain ⟨xs,e,hl,h⟩:=h
    subst e
    obtain ⟨a,vs,e,ha,t⟩:=gJ S r
    exact ⟨a,vs,e,P.hK▸ha,by rw [←t.length]; exact hl,xs,σ',Z,G,Q',t,rs,S,h,kq⟩
theorem aHH {es:List Expr} {x1 n:Nat} {gs:CE} (P:Pl X E T k) (h:JGs X E es (eV T gs)) (hn:(assignEach es X.env).length=n) (hst:(assignEach es X.env).findIdx? (·.1)=none):JG X E (.Tuple es x1 pos) (wpG T (.gl n gs)):=fun F =>
  (aGE P.calm (h F) hn hst).imp fun v σ H Q ⟨x,σ',Z,G,Q',r,rs,S,h,kq⟩=>by
    rw [wpG] at h
    obtain ⟨xs,e,hl,h⟩:=h
    obtain ⟨a,vs,e,ha,t⟩:=eR (xs:=xs) S r e
    exact ⟨a,vs,e,ha,by rw [←t.length]; exact hl,xs,σ',Z,G,Q',t,rs,S,h,kq⟩
noncomputable def sU (E:Ev) (J:It) (Z:Hp) (chk:Gh→Prop) (xs:List PV):Prop:= ∀ F (i:Nat) Z1 G1 H1,aQ Z Z1→Sim E F H1 Z1 G1→chk G1→
  (∀ x,xs[i]? =some x→J.go i H1∧∀ v H2,J.yld i H1 v H2→∃ Z2,aQ Z1 Z2∧Sim E F H2 Z2 G1∧RP E Z2 x v)∧(i=xs.length→J.stop i H1)
theorem sU.mono {J:It} {Z Z':Hp} {chk:Gh→Prop} {xs:List PV} (h:sU E J Z chk xs) (s:aQ Z Z'):sU E J Z' chk xs:=fun F i Z1 G1 H1 s1=>h F i Z1 G1 H1 (s.trans s1)
noncomputable def aJ6 (E:Ev) (F:Hp) (t:PTI):TI:=fun σ H R=>∃ σ' Z G R',RSt E Z σ' σ∧Sim E F H Z G∧t σ' G R'∧∀ J chk xs Z1 G1 H1,aQ Z Z1→Sim E F H1 Z1 G1→sU E J Z1 chk xs→R' chk xs G1→R J H1
noncomputable def JI (X:Cx) (E:Ev) (tg iter:Expr) (t:PTI):Prop:= ∀ F,PI X tg iter (aJ6 E F t)
theorem aGg {tg l:Expr} {tl:TE} (hl:PE X l tl):PI X tg l (fun σ H R=>tl σ H fun x H1=>∃ a,x= .ref a∧(((∃ xs,SqL X.K H1 a xs)∧R (Itl X.K a) H1)∨((∃ xs,SqT X.K H1 a xs)∧R (Itt X.K a) H1))):=by
  intro pins s σ H R I h
  have hw:=hl pins s σ H _ I h
  refine thn hw fun v s1 ⟨x,H1,I1,r1,a,e,q1⟩=>?_
  subst e
  have r1':v= .ref a:=r1
  subst r1'
  rcases q1 with ⟨⟨xs,hq⟩,q⟩ | ⟨⟨xs,hq⟩,q⟩
  · obtain ⟨its,rv,p,hz⟩:=I1.list hq
    refine wpAny_pyIter_list p.isList ?_
    refine ⟨s1.heap.objs.size,[s1.heap.objs.size],_,_,H1,rfl,I1.kept (t':=s1.toks) fun b o e=>Heap.get?_push_of_some _ e,QJ a _,⟨_,Heap.get?_push_size _ rfl,rfl,rfl⟩,fun b hb=>?_,q⟩
    have e:b=s1.heap.objs.size:=by simpa using hb
    subst e
    exact I1.fpOk (Nat.le_refl _) (I1.hok.fresh (Nat.le_refl _))
  · obtain ⟨its,rv,p,hz⟩:=I1.tuple hq
    refine wpAny_pyIter_tuple (show s1.heap.IsTuple a its.toArray from p) ?_
    refine ⟨s1.heap.objs.size,[s1.heap.objs.size],_,_,H1,rfl,I1.kept (t':=s1.toks) fun b o e=>Heap.get?_push_of_some _ e,IU a _,⟨_,Heap.get?_push_size _ rfl,rfl,rfl⟩,fun b hb=>?_,q⟩
    have e:b=s1.heap.objs.size:=by simpa using hb
    subst e
    exact I1.fpOk (Nat.le_refl _) (I1.hok.fresh (Nat.le_refl _))
theorem DP {a:Addr} {Z:Hp} {chk:Gh→Prop} {xs:List PV} (h:∀ F Z1 G1 H1,aQ Z Z1→Sim E F H1 Z1 G1→chk G1→∃ vs,SqL E.K H1 a vs∧RPs E Z1 xs vs):sU E (Itl E.K a) Z chk xs:=by
  intro F i Z1 G1 H1 s1 S1 c1
  obtain ⟨vs,hs,t⟩:=h F Z1 G1 H1 s1 S1 c1
  refine ⟨fun x ex=>?_,fun e=>⟨vs,hs,by rw [e,t.length]; exact Nat.le_refl _⟩⟩
  obtain ⟨v,ev,rv⟩:=t.get ex
  refine ⟨⟨vs,v,hs,ev⟩,fun w H2 ⟨e,y⟩=>?_⟩
  subst e
  have:=y vs hs
  rw [ev] at this
  cases this
  exact ⟨Z1,aQ.refl _,S1,rv⟩
theorem aHL {a:Addr} {Z:Hp} {chk:Gh→Prop} {xs:List PV} (h:∀ F Z1 G1 H1,aQ Z Z1→Sim E F H1 Z1 G1→chk G1→∃ vs,SqT E.K H1 a vs∧RPs E Z1 xs vs):sU E (Itt E.K a) Z chk xs:=by
  intro F i Z1 G1 H1 s1 S1 c1
  obtain ⟨vs,hs,t⟩:=h F Z1 G1 H1 s1 S1 c1
  refine ⟨fun x ex=>?_,fun e=>⟨vs,hs,by rw [e,t.length]; exact Nat.le_refl _⟩⟩
  obtain ⟨v,ev,rv⟩:=t.get ex
  refine ⟨⟨vs,v,hs,ev⟩,fun w H2 ⟨e,y⟩=>?_⟩
  subst e
  have:=y vs hs
  rw [ev] at this
  cases this
  exact ⟨Z1,aQ.refl _,S1,rv⟩
theorem aFh {a:Addr} {Z:Hp} {vs:List V} {xs:List PV} (hz:SqT E.K Z a vs) (t:RPs E Z xs vs):sU E (Ite E.K a) Z (fun _=>True) (yU xs):=by
  intro F i Z1 G1 H1 s1 S1 _
  have hs:=eL S1.z (eL s1 hz)
  have hl:(yU xs).length=xs.length:=by unfold yU; rw [List.length_map,List.length_zipIdx]
  refine ⟨fun x ex=>?_,fun e=>⟨vs,hs,by rw [e,hl,t.length]; exact Nat.le_refl _⟩⟩
  unfold yU at ex
  rw [List.getElem?_map,List.getElem?_zipIdx] at ex
  cases ey:xs[i]? with
  | none=>rw [ey] at ex; cases ex
  | some y =>
    rw [ey] at ex
    have ex':x= .tup [.int ((0 + i:Nat):Int),y]:=by
      have:=Option.some.inj ex
      exact this.symm
    obtain ⟨v,ev,rv⟩:=t.get ey
    refine ⟨⟨vs,v,hs,ev⟩,fun w H2 ⟨p,u,e,n,e2,y'⟩=>?_⟩
    subst e e2
    have:=y' vs hs
    rw [ev] at this
    cases this
    refine ⟨upd Z1 p (.tup [.int i,v]),dG (S1.zn n) _,S1.fz n, ?_⟩
    rw [ex',Nat.zero_add]
    exact mU (xs:=[.int (i:Int),y]) (S1.zn n) ⟨_,_,rfl,bI,_,_,rfl,rv.mono s1,rfl⟩
theorem YQ {lo:Int} {n:Nat} {Z:Hp}:sU E (Itr lo n) Z (fun _=>True) (uI lo n):=by
  intro F i Z1 G1 H1 s1 S1 _
  have hl:(uI lo n).length=n:=by unfold uI; rw [List.length_map,List.length_range]
  refine ⟨fun x ex=>?_,fun e=>by rw [hl] at e; exact Nat.le_of_eq e.symm⟩
  have hi:i < n:=by
    have:=(List.getElem?_eq_some_iff.mp ex).1
    rw [hl] at this; exact this
  have ex':x= .int (lo + i):=by
    unfold uI at ex
    rw [List.getElem?_map,List.getElem?_range hi] at ex
    exact (Option.some.inj ex).symm
  refine ⟨hi,fun w H2 ⟨e,y⟩=>?_⟩
  subst e y
  exact ⟨Z1,aQ.refl _,S1,by rw [ex']; exact bI⟩
theorem CN {tg:Expr} {a':CE} (P:Pl X E T k) (ha:JE X E a (wpE T a')):JI X E tg a (wpI T (.isq a')):=fun F =>
  (aGg (ha F)).imp fun σ H R ⟨σ',Z,G,R',rs,S,h,kr⟩=>by
    rw [wpI] at h
    refine ⟨σ',Z,G,_,rs,S,h,fun x v Z1 G1 H1 s1 S1 r1 q1=>?_⟩
    unfold WC at q1
    split at q1
    · obtain ⟨a,vs,e,ha,t⟩:=r1
      have ok:sU E (Itt E.K a) Z1 (fun _=>True) _:=aHL fun F2 Z2 G2 H2 s2 S2 _=>⟨vs,eL S2.z (eL s2 ha),t.mono s2⟩
      exact ⟨a,e,.inr ⟨⟨vs,P.hK▸eL S1.z ha⟩,P.hK▸kr _ _ _ _ _ _ s1 S1 ok q1⟩⟩
    · obtain ⟨a,vs,e,ha,t⟩:=r1
      have ok:sU E (Itl E.K a) Z1 (fun _=>True) _:=DP fun F2 Z2 G2 H2 s2 S2 _=>⟨vs,SqL.of (S2.z _ _ (s2 _ _ ha)),t.mono s2⟩
      exact ⟨a,e,.inl ⟨⟨vs,SqL.of (S1.z _ _ ha)⟩,P.hK▸kr _ _ _ _ _ _ s1 S1 ok q1⟩⟩
    · obtain ⟨a,e,ha⟩:=r1
      have ok:sU E (Itl E.K a) Z1 (fun _=>True) _:=DP fun F2 Z2 G2 H2 s2 S2 _=>⟨_,S2.z.seq (s2.seq ha),RPs.ofInts _⟩
      exact ⟨a,e,.inl ⟨⟨_,P.hK▸S1.z.seq ha⟩,P.hK▸kr _ _ _ _ _ _ s1 S1 ok q1⟩⟩
    · rename_i a
      obtain ⟨xs,hG,q1⟩:=q1
      obtain ⟨_,o',hp,vs,e',t⟩:=S1.g _ _ hG
      subst e'
      have ok:sU E (Itl E.K a) Z1 (fun G'=>G' a=some (.lst xs)) xs:=DP fun F2 Z2 G2 H2 s2 S2 c2=>by
        obtain ⟨_,o',hp,vs,e',t⟩:=S2.g _ _ c2
        subst e'
        exact ⟨vs,SqL.of hp,t⟩
      exact ⟨a,r1,.inl ⟨⟨vs,SqL.of hp⟩,P.hK▸kr _ _ _ _ _ _ s1 S1 ok q1⟩⟩
    · exact q1.elim
theorem aC4 {tg:Expr} {p:Pos} {a':CE} (hg:Gl X "range") (hm:X.mg "range"=none) (ha:JE X E a (wpE T a')) (hs:starEach [a] X.env=[(false,eval a X.env)]):JI X E tg (.Call (.Name "range" p) [a] [] pos) (wpI T (.irg (.cons a' .nil))):=fun F =>
  (RJ hg hm (dO (ha F) kD hs) hs).imp fun σ H R ⟨σ',Z,G,R',rs,S,h,kr⟩=>by
    rw [wpI,wpL,wpL] at h
    refine ⟨σ',Z,G,_,rs,S,h,fun x v Z1 G1 H1 s1 S1 r1 q1=>?_⟩
    rcases q1 with ⟨j,e,h1,h2,q⟩ | ⟨i,j,e,_⟩
    · cases e
      exact ⟨j,by rw [show v= .int j from r1],h1,h2,kr _ _ _ _ _ _ s1 S1 YQ q⟩
    · cases e
theorem aCf {tg:Expr} {p:Pos} {a' b':CE} (hg:Gl X "range") (hm:X.mg "range"=none) (ha:JE X E a (wpE T a')) (hb:JE X E b (wpE T b')) (hs:starEach [a,b] X.env=[(false,eval a X.env),(false,eval b X.env)]) (hs2:starEach [b] X.env=[(false,eval b X.env)]) :
    JI X E tg (.Call (.Name "range" p) [a,b] [] pos) (wpI T (.irg (.cons a' (.cons b' .nil)))):=fun F =>
  (UD hg hm (dO (ha F) (dO (hb F) kD hs2) (by rw [hs,hs2])) hs hs2).imp fun σ H R ⟨σ',Z,G,R',rs,S,h,kr⟩=>by
    rw [wpI,wpL,wpL,wpL] at h
    refine ⟨σ',Z,G,_,rs,S,h,fun x v Z1 G1 H1 s1 S1 r1 q1=>⟨σ',Z1,G1,_,rs.mono s1,S1,q1,fun y u Z2 G2 H2 s2 S2 r2 q2=>?_⟩⟩
    rcases q2 with ⟨j,e,h1,h2,q⟩ | ⟨i,j,e,hb,q⟩
    · cases e
    · cases e
      exact ⟨i,j,by rw [show v= .int i from r1,show u= .int j from r2],hb,kr _ _ _ _ _ _ (s1.trans s2) S2 YQ q⟩
theorem aF2 {es:List Expr} {x1:Nat} {tp p:Pos} {a':CE} (P:Pl X E T k) (hg:Gl X "enumerate") (hm:X.mg "enumerate"=none) (ha:JE X E a (wpE T a')) (hs:starEach [a] X.env=[(false,eval a X.env)]):JI X E (.Tuple es x1 tp) (.Call (.Name "enumerate" p) [a] [] pos) (wpI T (.ien a')):=fun F =>
  (aCL hg hm (dO (ha F) kD hs) hs).imp fun σ H R ⟨σ',Z,G,R',rs,S,h,kr⟩=>by
    rw [wpI] at h
    refine ⟨σ',Z,G,_,rs,S,h,fun x v Z1 G1 H1 s1 S1 r1 ⟨xs,e,q1⟩=>?_⟩
    subst e
    obtain ⟨a,vs,e,ha,t⟩:=r1
    exact ⟨a,by rw [e],⟨vs,P.hK▸eL S1.z ha⟩,P.hK▸kr _ _ _ _ _ _ s1 S1 (aFh ha t) q1⟩
noncomputable def KZ (E:Ev) (Z:Hp) (b:Bool) (l:Addr) (us:List V):Prop:=if b=true then SqT E.K Z l us else Z l=some (.lst us)
theorem KZ.mono {Z Z':Hp} {b:Bool} {l:Addr} {us:List V} (s:aQ Z Z') (h:KZ E Z b l us):KZ E Z' b l us:=by
  unfold KZ at *
  split
  · rename_i e; rw [if_pos e] at h; exact eL s h
  · rename_i e; rw [if_neg e] at h; exact s _ _ h
theorem KZ.at_ {Z:Hp} {b:Bool} {l:Addr} {us:List V} (h:KZ E Z b l us):aDT E.K Z b l us:=by
  unfold KZ at h
  unfold aDT
  split
  · rename_i e; rw [if_pos e] at h; exact h
  · rename_i e; rw [if_neg e] at h; exact SqL.of h
theorem aGu {tg iter:Expr} {body:List Stmt} {g' i':CE} {b':CS} (P:Pl X E T k) (hp:PassesOwn (model X.prog X.w) X.A X.env X.xe) (hi:JI X E tg iter (wpI T i')) (hg:JG X E tg (wpG T g')) (hb:JSs X E body (wpS T b'))
    (hs:∀ x,foldedSetIterable iter X.env x=pure x):JS X E (.For tg iter body [] pos) (wpS T (.fr g' i' b')):=fun F =>
  (aFT hp P.calm (hi F) (hg F) (hb F) hs).imp fun D σ H ⟨σ',Z,G,D',rs,S,h,kd⟩=>by
    rw [wpS] at h
    refine ⟨σ',Z,G,_,rs,S,h,fun J chk xs Z1 G1 H1 s1 S1 ok q=>?_⟩
    refine ⟨fun i m σ H=>m=xs.length - i∧i≤xs.length∧∃ σ' Z2 G2,aQ Z1 Z2∧Sim E F H Z2 G2∧RSt E Z2 σ' σ∧oZ chk (wpG T g') (wpS T b') D' (xs.drop i) σ' G2,⟨xs.length,by simp,Nat.zero_le _,σ',Z1,G1,aQ.refl _,S1,rs.mono s1,q⟩, ?_⟩
    rintro i m σ2 H2 ⟨rfl,hi,σ3,Z2,G2,s2,S2,rs2,q2⟩
    have sz:=s1.trans s2
    by_cases hlt:i < xs.length
    · have hd:xs.drop i=xs[i] :: xs.drop (i + 1):=List.drop_eq_getElem_cons hlt
      rw [hd] at q2
      unfold oZ at q2
      obtain ⟨c2,q2⟩:=q2
      obtain ⟨go,yl⟩:=(ok F i Z2 G2 H2 s2 S2 c2).1 xs[i] (by simp [hlt])
      refine .inr ⟨go,fun σ4 H4=>∃ σ5 Z4 G4,aQ Z2 Z4∧Sim E F H4 Z4 G4∧RSt E Z4 σ5 σ4∧oZ chk (wpG T g') (wpS T b') D' (xs.drop (i + 1)) σ5 G4,fun σ4 H4 ⟨σ5,Z4,G4,s4,S4,rs4,q4⟩=>⟨xs.length - (i + 1),by omega,rfl,hlt,σ5,Z4,G4,s2.trans s4,S4,rs4,q4⟩,fun v H3 y=>?_⟩
      obtain ⟨Z3,s3,S3,r3⟩:=yl v H3 y
      refine ⟨xs[i],σ3,Z3,G2,_,r3,rs2.mono s3,S3,q2,fun σ6 σ7 Z5 G5 H5 s5 S5 rs5 q5=>⟨σ6,Z5,G5,_,rs5,S5,q5, ?_⟩⟩
      have s35:=s3.trans s5
      exact ⟨fun σ8 σ9 Z6 G6 H6 s6 S6 rs6 q6=>⟨σ8,Z6,G6,s35.trans s6,S6,rs6,q6⟩,kd.rt.mono (sz.trans s35),kd.nx.mono (sz.trans s35),fun σ8 σ9 Z6 G6 H6 s6 S6 rs6 q6=>⟨σ8,Z6,G6,s35.trans s6,S6,rs6,q6⟩⟩
    · have e:i=xs.length:=by omega
      rw [e,List.drop_length] at q2
      unfold oZ at q2
      obtain ⟨c2,q2⟩:=q2
      exact .inl ⟨(ok F i Z2 G2 H2 s2 S2 c2).2 e,kd.nx _ _ _ _ _ sz S2 rs2 q2⟩
theorem aIV {body:List Stmt} {c':CE} {b':CS} (hp:PassesOwn (model X.prog X.w) X.A X.env X.xe) (hc:JT X E c (wpT T c')) (hb:JSs X E body (wpS T b')):JS X E (.While c body [] pos) (wpS T (.wh c' b')):=fun F =>
  (ZC hp (hc F) (hb F)).imp fun D σ H ⟨σ',Z,G,D',rs,S,h,kd⟩=>by
    rw [wpS] at h
    obtain ⟨W,⟨m0,w0⟩,turn⟩:=h
    refine ⟨fun m σ H=>∃ σ' Z2 G2,aQ Z Z2∧Sim E F H Z2 G2∧RSt E Z2 σ' σ∧W m σ' G2,⟨m0,σ',Z,G,aQ.refl _,S,rs,w0⟩, ?_⟩
    rintro m σ2 H2 ⟨σ3,Z2,G2,s2,S2,rs2,w2⟩
    refine ⟨σ3,Z2,G2,_,rs2,S2,turn m σ3 G2 w2,fun d Z3 G3 H3 s3 S3 q3=>?_⟩
    have s23:=s2.trans s3
    dsimp only
    cases d with
    | true =>
      rw [if_pos rfl] at q3 ⊢
      refine ⟨fun σ4 H4=>∃ σ5 Z4 G4 m',m' < m∧aQ Z Z4∧Sim E F H4 Z4 G4∧RSt E Z4 σ5 σ4∧W m' σ5 G4,fun σ4 H4 ⟨σ5,Z4,G4,m',lt,s4,S4,rs4,w4⟩=>⟨m',lt,σ5,Z4,G4,s4,S4,rs4,w4⟩,σ3,Z3,G3,_,rs2.mono s3,S3,q3, ?_⟩
      exact ⟨fun σ8 σ9 Z6 G6 H6 s6 S6 rs6 ⟨m',lt,w6⟩=>⟨σ8,Z6,G6,m',lt,s23.trans s6,S6,rs6,w6⟩,kd.rt.mono s23,kd.nx.mono s23,fun σ8 σ9 Z6 G6 H6 s6 S6 rs6 ⟨m',lt,w6⟩=>⟨σ8,Z6,G6,m',lt,s23.trans s6,S6,rs6,w6⟩⟩
    | false =>
      rw [if_neg Bool.false_ne_true] at q3 ⊢
      exact kd.nx _ _ _ _ _ s23 S3 (rs2.mono s3) q3
theorem aGh {st:Stmt} {dC:List Stmt} {a' b':CS} (h1:JS X E st (wpS T a')) (h2:JSs X E dC (wpS T b')):JSs X E (st :: dC) (wpS T (.seq a' b')):=fun F =>
  PSs.imp (aAQ (h1 F) (h2 F)) fun D σ H ⟨σ',Z,G,D',rs,S,h,kd⟩=>by
    rw [wpS] at h
    exact ⟨σ',Z,G,_,rs,S,h,⟨fun σ1 σ2 Z1 G1 H1 s1 S1 rs1 q1=>⟨σ1,Z1,G1,D',rs1,S1,q1,kd.mono s1⟩,kd.rt,kd.bk,kd.ct⟩⟩
theorem aIa {st:Stmt} {a':CS} (h1:JS X E st (wpS T a')):JSs X E [st] (wpS T a'):=fun F=>aC6 (h1 F)
theorem aGx:JSs X E [] (wpS T .nil):=fun F=>PSs.imp aB3 fun D σ H ⟨σ',Z,G,D',rs,S,h,kd⟩=>by
  rw [wpS] at h
  exact kd.nx _ _ _ _ _ (aQ.refl Z) S rs h
theorem aCI:JS X E (.Pass pos) (wpS T .nil):=fun F=>aDl.imp fun D σ H ⟨σ',Z,G,D',rs,S,h,kd⟩=>by
  rw [wpS] at h
  exact kd.nx _ _ _ _ _ (aQ.refl Z) S rs h
theorem aGa {x:Str} {j:Nat} {pos':Pos}:JS X E (.Expr (.Constant (.str x) j pos) pos') (wpS T .nil):=fun F=>aHM.imp fun D σ H ⟨σ',Z,G,D',rs,S,h,kd⟩=>by
  rw [wpS] at h
  exact kd.nx _ _ _ _ _ (aQ.refl Z) S rs h
theorem aIE {e':CE} (he:JE X E e (wpE T e')) (hs:swapsWith e none pos.line X.env=pure false):JS X E (.Expr e pos) (wpS T (.ex e')):=fun F =>
  (aDk (he F) hs).imp fun D σ H ⟨σ',Z,G,D',rs,S,h,kd⟩=>by
    rw [wpS] at h
    exact ⟨σ',Z,G,_,rs,S,h,fun x v Z1 G1 H1 s1 S1 r1 q1=>kd.nx _ _ _ _ _ s1 S1 (rs.mono s1) q1⟩
theorem aFw {e':CE} (he:JE X E e (wpE T e')):JS X E (.Return (some e) pos) (wpS T (.ret e')):=fun F =>
  (aHA (he F)).imp fun D σ H ⟨σ',Z,G,D',rs,S,h,kd⟩=>by
    rw [wpS] at h
    exact ⟨σ',Z,G,_,rs,S,h,kd.rt⟩
theorem aBW:JS X E (.Return none pos) (wpS T .retN):=fun F=>aBA.imp fun D σ H ⟨σ',Z,G,D',rs,S,h,kd⟩=>by
  rw [wpS] at h
  exact kd.rt _ _ _ _ _ (aQ.refl Z) S tF h
theorem aFY {st:Stmt}:JS X E st (wpS T .nev):=fun F=>aA7.imp fun D σ H ⟨σ',Z,G,D',rs,S,h,kd⟩=>by
  rw [wpS] at h
  exact h
theorem aCv {sts:List Stmt}:JSs X E sts (wpS T .nev):=fun F=>PSs.imp SG fun D σ H ⟨σ',Z,G,D',rs,S,h,kd⟩=>by
  rw [wpS] at h
  exact h
theorem aIX {x y:List Stmt} {c':CE} {a' b':CS} (hc:JT X E c (wpT T c')) (ha:JSs X E x (wpS T a')) (hb:JSs X E y (wpS T b')):JS X E (.If c x y pos) (wpS T (.iff c' a' b')):=fun F =>
  (aIO (hc F) (ha F) (hb F)).imp fun D σ H ⟨σ',Z,G,D',rs,S,h,kd⟩=>by
    rw [wpS] at h
    refine ⟨σ',Z,G,_,rs,S,h,fun d Z1 G1 H1 s1 S1 q=>?_⟩
    cases d with
    | true=>rw [if_pos rfl] at q ⊢; exact ⟨σ',Z1,G1,D',rs.mono s1,S1,q,kd.mono s1⟩
    | false=>rw [if_neg Bool.false_ne_true] at q ⊢; exact ⟨σ',Z1,G1,D',rs.mono s1,S1,q,kd.mono s1⟩
theorem aB8 {F:Hp} {g' e':CE} {D:HH} {σ:L2.St} {H:Hp} (h:aFD E F (wpS T (.asg g' e')) D σ H):aFO (low E F (wpE T e')) (aGt E F (wpG T g')) D σ H:=by
  obtain ⟨σ',Z,G,D',rs,S,h,kd⟩:=h
  rw [wpS] at h
  exact ⟨σ',Z,G,_,rs,S,h,fun x v Z1 G1 H1 s1 S1 r1 q1=>⟨x,σ',Z1,G1,_,r1,rs.mono s1,S1,q1,kd.nx.mono s1⟩⟩
theorem xG {tg:Expr} {g' e':CE} (he:JE X E e (wpE T e')) (hg:JG X E tg (wpG T g')) (hs:swapsWithSole [tg] e pos.line X.env=pure false) (hw:swappedStores [tg] e X.env=pure none) (h1:(assignEach [tg] X.env).map (·.2)=[assign tg X.env]) :
    JS X E (.Assign [tg] e pos) (wpS T (.asg g' e')):=fun F=>(VJ (he F) (hg F) hs hw h1).imp fun D σ H h=>aB8 h
theorem aGb {i j:Nat} {x y:Str} {a' b':CE} {px py pt pt2:Pos} {kt k2:Nat} (P:Pl X E T k) (hN:X.N.Nodup) (hi:X.N[i]? =some x) (hj:X.N[j]? =some y) (hij:i≠j) (hx:X.env.scope.names.lookup x=some .local) (hy:X.env.scope.names.lookup y=some .local)
    (ha:JE X E a (wpE T a')) (hb:JE X E b (wpE T b')) (s1:starEach [a,b] X.env=(false,eval a X.env) :: starEach [b] X.env) (s2:starEach [b] X.env=(false,eval b X.env) :: starEach [] X.env)
    (hw:swappedStores [.Tuple [.Name x px,.Name y py] kt pt] (.Tuple [a,b] k2 pt2) X.env=pure (some [x,y])) (hs:swapsWithSole [.Tuple [.Name x px,.Name y py] kt pt] (.Tuple [a,b] k2 pt2) pos.line X.env=pure false) :
    JS X E (.Assign [.Tuple [.Name x px,.Name y py] kt pt] (.Tuple [a,b] k2 pt2) pos) (wpS T (.par i j a' b')):=fun F =>
  (aH8 P.calm hN hi hj hij hx hy (dO (ha F) (dO (hb F) kD s2) s1) hw hs).imp fun D σ H ⟨σ',Z,G,D',rs,S,h,kd⟩=>by
    rw [wpS] at h
    refine ⟨σ',Z,G,_,rs,S,h,fun x v Z1 G1 H1 s1 S1 r1 q1=>⟨σ',Z1,G1,_,rs.mono s1,S1,q1,fun y u Z2 G2 H2 s2 S2 r2 q2=>?_⟩⟩
    exact ⟨v,u,rfl,kd.nx _ _ _ _ _ (s1.trans s2) S2 ((((rs.mono s1).mono s2).set (r1.mono s2) i).set r2 j) q2⟩
theorem aCD {c:Expr} {i j l:Nat} {x y z:Str} {a' b' c':CE} {px py pz pt pt2:Pos} {kt k2:Nat} (P:Pl X E T k) (hN:X.N.Nodup) (hi:X.N[i]? =some x) (hj:X.N[j]? =some y) (hl:X.N[l]? =some z) (hij:i≠j) (hil:i≠l) (hjl:j≠l)
    (hx:X.env.scope.names.lookup x=some .local) (hy:X.env.scope.names.lookup y=some .local) (hz:X.env.scope.names.lookup z=some .local)
    (ha:JE X E a (wpE T a')) (hb:JE X E b (wpE T b')) (hc:JE X E c (wpE T c')) (s1:starEach [a,b,c] X.env=(false,eval a X.env) :: starEach [b,c] X.env) (s2:starEach [b,c] X.env=(false,eval b X.env) :: starEach [c] X.env) (s3:starEach [c] X.env=(false,eval c X.env) :: starEach [] X.env)
    (hw:swappedStores [.Tuple [.Name x px,.Name y py,.Name z pz] kt pt] (.Tuple [a,b,c] k2 pt2) X.env=pure (some [x,y,z])) (hs:swapsWithSole [.Tuple [.Name x px,.Name y py,.Name z pz] kt pt] (.Tuple [a,b,c] k2 pt2) pos.line X.env=pure false) :
    JS X E (.Assign [.Tuple [.Name x px,.Name y py,.Name z pz] kt pt] (.Tuple [a,b,c] k2 pt2) pos) (wpS T (.par3 i j l a' b' c')):=fun F =>
  (aCl P.calm hN hi hj hl hij hil hjl hx hy hz (dO (ha F) (dO (hb F) (dO (hc F) kD s3) s2) s1) hw hs).imp fun D σ H ⟨σ',Z,G,D',rs,S,h,kd⟩=>by
    rw [wpS] at h
    refine ⟨σ',Z,G,_,rs,S,h,fun x v Z1 G1 H1 s1 S1 r1 q1=>⟨σ',Z1,G1,_,rs.mono s1,S1,q1,fun y u Z2 G2 H2 s2 S2 r2 q2=>⟨σ',Z2,G2,_,(rs.mono s1).mono s2,S2,q2,fun z w Z3 G3 H3 s3 S3 r3 q3=>?_⟩⟩⟩
    exact ⟨v,u,w,rfl,kd.nx _ _ _ _ _ ((s1.trans s2).trans s3) S3 ((((((rs.mono s1).mono s2).mono s3).set ((r1.mono s2).mono s3) i).set (r2.mono s3) j).set r3 l) q3⟩
theorem aFL {o i:Expr} {pos':Pos} {o' i' e':CE} (he:JE X E e (wpE T e')) (ho:JE X E o (wpE T o')) (hi:JE X E i (wpE T i'))
    (ha:∀ v,assign (.Subscript o i pos') X.env v=(do
      let ov ←holding [v] (eval o X.env)
      let iv ←holding [v,ov] (eval i X.env)
      standAt pos'
      holding [v,ov,iv] (setItem ov iv v)
      release [v,ov,iv] []))
    (hs:swapsWithSole [.Subscript o i pos'] e pos.line X.env=pure false) (hw:swappedStores [.Subscript o i pos'] e X.env=pure none):JS X E (.Assign [.Subscript o i pos'] e pos) (wpS T (.sub o' i' e')):=fun F =>
  (VJ (he F) (aFC (ho F) (hi F) (aDq (E:=E) (F:=F)) ha) hs hw rfl).imp fun D σ H ⟨σ',Z,G,D',rs,S,h,kd⟩=>by
    rw [wpS] at h
    refine ⟨σ',Z,G,_,rs,S,h,fun v v' Z1 G1 H1 s1 S1 r1 q1=>⟨σ',Z1,G1,_,rs.mono s1,S1,q1,fun x x' Z2 G2 H2 s2 S2 r2 q2=>⟨σ',Z2,G2,_,(rs.mono s1).mono s2,S2,q2,fun y y' Z3 G3 H3 s3 S3 r3 q3=>?_⟩⟩⟩
    have s13:=(s1.trans s2).trans s3
    exact ⟨x,y,v,Z3,G3,_,r2.mono s3,r3,(r1.mono s2).mono s3,S3,q3,fun G4 H4 S4 q4=>kd.nx _ _ _ _ _ s13 S4 (rs.mono s13) q4⟩
theorem EZ (f:Str) (v:V):∀ (ns:List Str) (vs:List V),ns.length=vs.length→lJ f v (ns.zip vs)=(TJ f ns).zip (yK f v ns vs)∧(TJ f ns).length=(yK f v ns vs).length
  | [],[],_=>⟨rfl,rfl⟩
  | [],_ :: _,h=>by cases h
  | _ :: _,[],h=>by cases h
  | n :: ns,u :: us,h=>by
    obtain ⟨a,b⟩:=EZ f v ns us (by simpa using h)
    rw [List.zip_cons_cons]
    unfold lJ TJ yK
    split
    · exact ⟨by rw [List.zip_cons_cons],by simpa using h⟩
    · exact ⟨by rw [List.zip_cons_cons,a],by simpa using b⟩
theorem OA {Z:Hp} {f:Str} {y:PV} {u:V} (r:RP E Z y u):∀ {ns:List Str} {xs:List PV} {vs:List V},RPs E Z xs vs→RPs E Z (yK f y ns xs) (yK f u ns vs)
  | [],_,_,_=>⟨u,[],rfl,r,rfl⟩
  | _ :: _,[],_,h=>by cases h; exact rfl
  | n :: ns,x :: xs,_,⟨v,t,e,r1,r2⟩=>by
    subst e
    unfold yK
    split
    · exact ⟨u,t,rfl,r,r2⟩
    · exact ⟨v,_,rfl,r1,OA r r2⟩
theorem aFf {o:Expr} {f:Str} {pos':Pos} {o' e':CE} (P:Pl X E T k) (ho:JE X E o (wpE T o')) (he:JE X E e (wpE T e')) (hs:swapsWith e (some (.Attribute o f pos')) pos.line X.env=pure false):JS X E (.Assign [.Attribute o f pos'] e pos) (wpS T (.fld o' f e')):=fun F =>
  (aH4 (ho F) (he F) hs).imp fun D σ H ⟨σ',Z,G,D',rs,S,h,kd⟩=>by
    rw [wpS] at h
    refine ⟨σ',Z,G,_,rs,S,h,fun v v' Z1 G1 H1 s1 S1 r1 q1=>⟨σ',Z1,G1,_,rs.mono s1,S1,q1,fun x x' Z2 G2 H2 s2 S2 r2 ⟨p,c,ns,xs,e,hG,hf,hl,q2⟩=>?_⟩⟩
    subst e
    have e:x'= .ref p:=r2
    subst e
    obtain ⟨_,o',hp,dx,vs,e',l,t⟩:=S2.g _ _ hG
    subst e'
    obtain ⟨h1,h2⟩:=P.fld c f hf
    obtain ⟨e1,e2⟩:=EZ f v' ns vs l
    refine ⟨p,_,dx,_,rfl,hp,h1,h2,by rw [List.length_zip,←l,Nat.min_self]; exact hl,kd.nx _ _ _ _ _ (s1.trans s2) (S2.set (go:=.ins c (TJ f ns) (yK f v ns xs)) hG ⟨dx,yK f v' ns vs,by rw [e1],e2,OA (r1.mono s2) t⟩) ((rs.mono s1).mono s2) q2⟩
end
section
variable {X:Cx} {E:Ev} {T:Tb} {k:Nat} {pos:Pos} {a b c e:Expr}
theorem aHq {Z:Hp} {js:List (Option Nat)} {σ':PSt} {σ:L2.St} (rs:RSt E Z σ' σ):RSt E Z (uJ js σ') (YL js σ):=by
  induction js with
  | nil=>exact .nil
  | cons o r ih =>
    refine .cons ?_ ih
    cases o with
    | none=>exact trivial
    | some j =>
      show RSl E Z ((σ'[j]?).getD none) ((σ[j]?).getD none)
      cases e:σ'[j]? with
      | none=>exact trivial
      | some u =>
        cases u with
        | none=>exact trivial
        | some x =>
          obtain ⟨v,e',r⟩:=rs.get e
          rw [e']
          exact ⟨v,rfl,r⟩
noncomputable def aGJ (E:Ev) (t:PTE):TE:=fun σ H Q=>∃ F,low E F t σ H Q
noncomputable def aCT (E:Ev) (t:PTT):TT:=fun σ H Q=>∃ F,BM E F t σ H Q
noncomputable def aGI (E:Ev) (t:PTG):TG:=fun v σ H Q=>∃ F,aGt E F t v σ H Q
theorem JE.any {t:PTE} (h:JE X E e t):PE X e (aGJ E t):=fun pins s σ H Q I ⟨F,q⟩=>h F pins s σ H Q I q
theorem JT.any {t:PTT} (h:JT X E e t):PT X e (aCT E t):=fun pins s σ H Q I ⟨F,q⟩=>h F pins s σ H Q I q
theorem JG.any {t:PTG} (h:JG X E e t):PG X e (aGI E t):=fun pins s σ H v u Q I r ⟨F,q⟩=>h F pins s σ H v u Q I r q
theorem VL {F:Hp} {J:It} {Z1 H1:Hp} {G1:Gh} {chk:Gh→Prop} {xs:List PV} {g':PTG} {ts':PTT} {te':PTE} {σ':PSt} {σ:L2.St} {m:Bool} {Q':PK1} {Q:VK} {D:Addr}
    (S1:Sim E F H1 Z1 G1) (ok:sU E J Z1 chk xs) (rs:RSt E Z1 σ' σ) (hz:xs.length≤sizeLine) (n:H1 D=none) (q:iN chk g' ts' te' xs [] σ' G1 fun ys G2=>yM m G2 ys Q') (kq:Kq E F Z1 Q' Q) :
    XG J D (aGI E g') (aCT E ts') (aGJ E te') Q σ (upd H1 D (.lst [])):=by
  have fD:F D=none:=S1.fn n
  refine ⟨fun i m' σ H=>m'=xs.length - i∧i≤xs.length∧∃ σ' Z2 G2 acc vs,aQ Z1 Z2∧Sim E (upd F D (.lst vs)) H Z2 G2∧RPs E Z2 acc vs∧RSt E Z2 σ' σ∧acc.length≤i∧iN chk g' ts' te' (xs.drop i) acc σ' G2 fun ys G2=>yM m G2 ys Q',
    ⟨xs.length,by simp,Nat.zero_le _,σ',Z1,G1,[],[],aQ.refl _,S1.mine n,rfl,rs,Nat.le_refl _,q⟩, ?_⟩
  rintro i m' σ2 H2 ⟨rfl,hi,σ3,Z2,G2,acc,vs,s2,S2,ra,rs2,la,q2⟩
  by_cases hlt:i < xs.length
  · have hd:xs.drop i=xs[i] :: xs.drop (i + 1):=List.drop_eq_getElem_cons hlt
    rw [hd] at q2
    unfold iN at q2
    obtain ⟨c2,q2⟩:=q2
    obtain ⟨go,yl⟩:=(ok _ i Z2 G2 H2 s2 S2 c2).1 xs[i] (by simp [hlt])
    refine .inr ⟨go,fun σ4 H4=>∃ σ5 Z4 G4 acc4 vs4,aQ Z1 Z4∧Sim E (upd F D (.lst vs4)) H4 Z4 G4∧RPs E Z4 acc4 vs4∧RSt E Z4 σ5 σ4∧acc4.length≤i + 1∧iN chk g' ts' te' (xs.drop (i + 1)) acc4 σ5 G4 fun ys G2=>yM m G2 ys Q',
      fun σ4 H4 ⟨σ5,Z4,G4,acc4,vs4,s4,S4,ra4,rs4,l4,q4⟩=>⟨xs.length - (i + 1),by omega,rfl,hlt,σ5,Z4,G4,acc4,vs4,s4,S4,ra4,rs4,l4,q4⟩,fun v H3 y=>?_⟩
    obtain ⟨Z3,s3,S3,r3⟩:=yl v H3 y
    refine ⟨_,xs[i],σ3,Z3,G2,_,r3,rs2.mono s3,S3,q2,fun σ6 σ7 Z5 G5 H5 s5 S5 rs5 q5=>⟨_,σ6,Z5,G5,_,rs5,S5,q5,fun ok' Z6 G6 H6 s6 S6 q6=>?_⟩⟩
    have s26:=(s3.trans s5).trans s6
    dsimp only
    cases ok' with
    | true =>
      rw [if_pos rfl] at q6 ⊢
      refine ⟨_,σ6,Z6,G6,_,rs5.mono s6,S6,q6,fun y' u Z7 G7 H7 s7 S7 r7 q7=>?_⟩
      refine ⟨vs,(S7.f D _ aZ).1, ?_, ?_⟩
      · have:=ra.length; omega
      · have s27:=s26.trans s7
        exact ⟨σ6,Z7,G7,acc ++ [y'],vs ++ [u],s2.trans s27,S7.turn,(ra.mono s27).append ⟨u,[],rfl,r7,rfl⟩,(rs5.mono s6).mono s7,by rw [List.length_append]; exact Nat.succ_le_succ la,q7⟩
    | false =>
      rw [if_neg Bool.false_ne_true] at q6 ⊢
      exact ⟨σ6,Z6,G6,acc,vs,s2.trans s26,S6,ra.mono s26,rs5.mono s6,Nat.le_succ_of_le la,q6⟩
  · have e:i=xs.length:=by omega
    rw [e,List.drop_length] at q2
    unfold iN at q2
    obtain ⟨c2,q2⟩:=q2
    refine .inl ⟨(ok _ i Z2 G2 H2 s2 S2 c2).2 e, ?_⟩
    unfold yM at q2
    cases m with
    | true =>
      rw [if_pos rfl] at q2
      exact kq (.ref D) _ Z2 _ _ s2 (S2.mineG fD (go:=.lst acc) ⟨vs,rfl,ra⟩) rfl (q2 D (S2.f D _ aZ).2.2)
    | false =>
      rw [if_neg Bool.false_ne_true] at q2
      have zn:=(S2.f D _ aZ).2.1
      exact kq (.lst acc) _ (upd Z2 D (.lst vs)) _ _ (s2.trans (dG zn _)) (S2.mineZ fD) (jZ zn ra) q2
theorem GT {F:Hp} {m:Bool} {tg' it' ts' el':CE} {js:List (Option Nat)} {σ:L2.St} {H:Hp} {Q:VK} (h:low E F (wpE T (.cmpr m tg' it' ts' el' js)) σ H Q):aA9 (aJ6 E F (wpI T it')) (aGI E (wpG T tg')) (aCT E (wpT T ts')) (aGJ E (wpE T el')) js σ H Q:=by
  obtain ⟨σ',Z,G,Q',rs,S,h,kq⟩:=h
  rw [wpE] at h
  refine ⟨σ',Z,G,_,rs,S,h,fun J chk xs Z1 G1 H1 s1 S1 ok q D n=>?_⟩
  exact VL S1 ok (aHq (rs.mono s1)) q.1 n q.2 (kq.mono s1)
noncomputable def SM (X:Cx) (E:Ev) (ifs:List Expr) (t:PTT):Prop:=PTs X ifs (aCT E t)
theorem aMJ:SM X E [] (wpT T .nil):=fun pins s σ H Q I ⟨F,σ',Z,G,Q',rs,S,h,kt⟩=>by
  rw [wpT] at h
  exact aC0 pins s σ H Q I (kt _ _ _ _ (aQ.refl Z) S h)
theorem aMW {t:PTT} (h:JT X E c t):SM X E [c] t:=aBR h.any
section
variable {N:List Str} {scope:Scope} {cl:List (Str×Addr)} {js:List (Option Nat)} {tg iter elt:Expr} {ifs:List Expr} {m:Bool} {tg' it' ts' el':CE}
theorem aBQ (S:kC X N scope cl js) (P:Pl X E T k) (hi:JI X E tg iter (wpI T it')) (hg:∀ C s₀ H₀ ex,JG (cxC X N scope cl C s₀ H₀ ex) E tg (wpG T tg')) (ht:∀ C s₀ H₀ ex,SM (cxC X N scope cl C s₀ H₀ ex) E ifs (wpT T ts'))
    (he:∀ C s₀ H₀ ex,JE (cxC X N scope cl C s₀ H₀ ex) E elt (wpE T el')) (hs:∀ x,foldedSetIterable iter X.env x=pure x):JE X E (.ListComp elt [⟨tg,iter,ifs,0⟩] scope pos) (wpE T (.cmpr m tg' it' ts' el' js)):=fun F =>
  (aB6 S P.calm (hi F) (fun C s₀ H₀ ex=>(hg C s₀ H₀ ex).any) ht (fun C s₀ H₀ ex=>(he C s₀ H₀ ex).any) hs).imp fun σ H Q h=>GT h
theorem aCk {i:Nat} {y:Str} {py spos:Pos} (S:kC X N scope cl js) (P:Pl X E T k) (hN:X.N.Nodup) (hi':X.N[i]? =some y) (hy:X.env.scope.names.lookup y=some .local) (hi:JI X E tg iter (wpI T it')) (hg:∀ C s₀ H₀ ex,JG (cxC X N scope cl C s₀ H₀ ex) E tg (wpG T tg'))
    (ht:∀ C s₀ H₀ ex,SM (cxC X N scope cl C s₀ H₀ ex) E ifs (wpT T ts')) (he:∀ C s₀ H₀ ex,JE (cxC X N scope cl C s₀ H₀ ex) E elt (wpE T el'))
    (hsw:swapsWith (.ListComp elt [⟨tg,iter,ifs,0⟩] scope pos) (some (.Name y py)) spos.line X.env=pure true) (hs:∀ x,foldedSetIterable iter X.env x=pure x) :
    JS X E (.Assign [.Name y py] (.ListComp elt [⟨tg,iter,ifs,0⟩] scope pos) spos) (wpS T (.asg (.gn i) (.cmpr m tg' it' ts' el' js))):=fun F =>
  (aCw S P.calm hN hi' hy (hi F) (fun C s₀ H₀ ex=>(hg C s₀ H₀ ex).any) ht (fun C s₀ H₀ ex=>(he C s₀ H₀ ex).any) hsw hs).imp fun D σ H ⟨σ',Z,G,D',rs,S,h,kd⟩=>by
    rw [wpS] at h
    refine GT (m:=m) ⟨σ',Z,G,_,rs,S,h,fun x v Z1 G1 H1 s1 S1 r1 q1=>?_⟩
    unfold wpG at q1
    exact kd.nx _ _ _ _ _ s1 S1 ((rs.mono s1).set r1 i) q1
end
noncomputable def WQ (T:Tb) (c:String) (x xi:Str):Prop:= ∀ xs G Q,T.S x xs G Q→∀ p,G p=none→T.S xi (.ref p :: xs) (gup G p (.ins c [] [])) fun r G1=>r= .non∧∃ ns ys,G1 p=some (.ins c ns ys)∧Q (.ob c ns ys) (SC G1 p)
theorem WH {F:Hp} {c:String} {x xi:Str} {Z1 H1:Hp} {G1:Gh} {xs:List PV} {vs:List V} {Q':PK1} {Q:VK} {p dx:Addr} {us:List V} (hu:us= .ref p :: vs) (M:WQ T c x xi) (S1:Sim E F H1 Z1 G1) (r:RPs E Z1 xs vs) (q:T.S x xs G1 Q') (kq:Kq E F Z1 Q' Q) (n:H1 p=none) (nd:H1 dx=none) (ne:dx≠p) :
    fW E (T.S xi) us (upd (upd H1 dx (.own p)) p (.ins (E.cls c) dx [])) (fun v H2=>v= .non∧Q (.ref p) H2) E0:=by
  subst hu
  have S2:Sim E F (upd H1 dx (.own p)) Z1 G1:=S1.other nd
  have n2:upd H1 dx (.own p) p=none:=by rw [aH (Ne.symm ne)]; exact n
  have S3:Sim E F (upd (upd H1 dx (.own p)) p (.ins (E.cls c) dx [])) Z1 (gup G1 p (.ins c [] [])):=S2.new n2 ⟨dx,[],rfl,rfl,rfl⟩
  refine ⟨.ref p :: xs,Z1,_,F,_,⟨.ref p,vs,rfl,rfl,r⟩,S3,M xs G1 Q' q p (S1.gn n), ?_⟩
  rintro z v Z4 G4 H4 s4 S4 r4 ⟨e,ns,ys,hG,q4⟩
  subst e
  obtain ⟨zn,o',hp,dx',vs',e',l,t⟩:=S4.g _ _ hG
  subst e'
  exact ⟨r4,kq (.ob c ns ys) _ (upd Z4 p _) _ _ (s4.trans (dG zn _)) (S4.frz hG hp) ⟨p,dx',vs',rfl,aZ,l,t.mono (dG zn _)⟩ q4⟩
theorem aGc {c:String} {x xi:Str} {p:Pos} {e:Expr} {es:List Expr} {es':CE} {f:Addr} {fd:FuncData} {ps:List Str} (M:Mk X.K (E.cls c) f) (K:bS X.prog X.w X.K X.mg X.base CX0 k f fd ps (fW E (T.S xi))) (hr:bE (k + 1) X.A) (hg:Gl X x) (hm:X.mg x=some (.ref (E.cls c)))
    (hb:aE X.K fd ps []) (ms:WQ T c x xi) (hd:(x == ("__debug__":Str))=false) (ha:JA X E (e :: es) (wpL T es')) (he:starEach (e :: es) X.env=(false,eval e X.env) :: starEach es X.env) (hpl:(backTo pos (starEach es X.env)).any (·.1)=false) :
    JE X E (.Call (.Name x p) (e :: es) [] pos) (wpE T (.cal x es')):=fun F =>
  (aBr M K hr hg hm hb .nil xX (ha F) hd he hpl).imp fun σ H Q ⟨σ',Z,G,Q',rs,S,h,kq⟩=>by
    rw [wpE] at h
    exact ⟨σ',Z,G,_,rs,S,h,fun xs vs Z1 G1 H1 l1 s1 S1 r1 q1 p dx n nd ne=>WH (by rw [List.append_nil]) ms S1 r1 q1 (kq.mono s1) n nd ne⟩
noncomputable def JK (X:Cx) (E:Ev) (kws:List Keyword) (t:PTA):Prop:= ∀ F,PK X kws (GG E F kws.length t)
theorem PK.imp {kws:List Keyword} {t t':TA} (h:PK X kws t) (g:∀ σ H Q,t' σ H Q→t σ H Q):PK X kws t':=fun pos pins s σ H Q I q=>h pos pins s σ H Q I (g _ _ _ q)
theorem WI:JK X E [] (wpL T .nil):=fun F=>PK.imp WJ fun σ H Q ⟨σ',Z,G,Q',rs,S,h,kq⟩=>by rw [wpL] at h; exact kq [] [] Z G H rfl (aQ.refl Z) S rfl h
theorem aB4 {n:Option Str} {v:Expr} {p:Pos} {kws:List Keyword} {a' b':CE} (ha:JE X E v (wpE T a')) (hr:JK X E kws (wpL T b')):JK X E (⟨n,v,p⟩ :: kws) (wpL T (.cons a' b')):=fun F =>
  PK.imp (aCP (ha F) (hr F)) fun σ H Q ⟨σ',Z,G,Q',rs,S,h,kq⟩=>by
    rw [wpL] at h
    exact ⟨σ',Z,G,_,rs,S,h,fun x v Z1 G1 H1 s1 S1 r1 q1=>⟨σ',Z1,G1,_,rs.mono s1,S1,q1,fun xs vs Z2 G2 H2 l2 s2 S2 r2 q2=>kq (x :: xs) (v :: vs) _ _ _ (by rw [List.length_cons,l2]; rfl) (s1.trans s2) S2 ⟨v,vs,rfl,r1.mono s2,r2⟩ q2⟩⟩
noncomputable def Ar.valV (vs:List V):Ar→V
  | .arg i=>vs.getD i .non
  | .non=>.non
  | .bl b=>.bl b
  | .int i=>.int i
  | .str x=>.str x
theorem FK {Z:Hp} {xs:List PV} {vs:List V} (r:RPs E Z xs vs):∀ ar:List Ar,RPs E Z (ar.map (Ar.val xs)) (ar.map (Ar.valV vs))
  | []=>rfl
  | a :: l=>by
    refine ⟨_,_,rfl, ?_,FK r l⟩
    cases a with
    | arg i =>
      show RP E Z (xs.getD i .non) (vs.getD i .non)
      rw [List.getD_eq_getElem?_getD,List.getD_eq_getElem?_getD]
      cases e:xs[i]? with
      | none =>
        have:vs[i]? =none:=List.getElem?_eq_none_iff.mpr (by rw [←r.length]; exact List.getElem?_eq_none_iff.mp e)
        rw [this]; exact tF
      | some x =>
        obtain ⟨v,e',rr⟩:=r.get e
        rw [e']; exact rr
    | non=>exact tF
    | bl b=>exact bW
    | int i=>exact bI
    | str x=>exact iY
structure jJ (K:W.Frag) (fd:FuncData) (ps:List Str) (n:Nat) (ks:List Str) (ar:List Ar):Prop where
  len:ar.length=ps.length
  to:∀ (s:Shared) (us ws:List Value),K.In s.heap→us.length=n→ws.length=ks.length→∃ bs,BindsTo s fd ⟨us,ks.zip ws⟩ (ps.zip bs)∧∀ vs zs,aI vs us→aI zs ws→aI (ar.map (Ar.valV (vs ++ zs))) bs
theorem LC {pins:List (Addr×Obj)} {σ:L2.St} {H:Hp} {s:Shared} {Q:VK} {us ws:List Value} {vs zs:List V} {f:Addr} {fd:FuncData} {ps ks:List Str} {n:Nat} {ar:List Ar} {sp:Sp} {A':Around}
    (K:bS X.prog X.w X.K X.mg X.base CX0 k f fd ps sp) (hr:bE k A') (e0:uM X.prog X.w X.K X.mg X.base A' X.stack s H) (hb:jJ X.K fd ps n ks ar) (I:Inv X pins σ H s) (r:aI vs us) (rz:aI zs ws) (l1:vs.length=n) (l2:zs.length=ks.length) (h:sp (ar.map (Ar.valV (vs ++ zs))) H Q E0) :
    wpAny (model X.prog X.w) A' (call (.ref f) us (ks.zip ws)) (EP X pins σ Q) X.xe s:=by
  obtain ⟨bs,hbs,hv⟩:=hb.to s us ws I.kIn (by rw [←r.length]; exact l1) (by rw [←rz.length]; exact l2)
  refine wpAny_call (codeAny_mono (K.run A' X.stack s H ⟨us,ks.zip ws⟩ bs _ Q E0 hr e0 hbs (hv vs zs r rz) h) fun r s' hq=>?_)
  cases r with
  | error e=>exact hq.elim
  | ok fl =>
    cases fl with
    | ret u=>exact I.after hq
    | next=>exact False.elim hq
    | brk=>exact False.elim hq
    | cont=>exact False.elim hq
theorem aGe {f:Str} {p:Pos} {e:Expr} {es:List Expr} {kws:List Keyword} {es' ks':CE} {ad:Addr} {fd:FuncData} {ps ks:List Str} {n:Nat} {ar:List Ar} (K:bS X.prog X.w X.K X.mg X.base CX0 k ad fd ps (fW E (T.S f))) (hr:bE k X.A) (hg:Gl X f) (hm:X.mg f=some (.ref ad))
    (hk:W.keepIn X.K (.ref ad)=true) (hb:jJ X.K fd ps n ks ar) (hd:(f == ("__debug__":Str))=false) (ha:JA X E (e :: es) (wpL T es')) (hkw:JK X E kws (wpL T ks')) (hn:(e :: es).length=n) (hkn:kws.length=ks.length)
    (hall:(backToKw pos (keywordEach kws X.env)).all (·.1.isSome)=true) (hks:(backToKw pos (keywordEach kws X.env)).filterMap (·.1)=ks) (he:starEach (e :: es) X.env=(false,eval e X.env) :: starEach es X.env)
    (hpl:((backTo pos (starEach (e :: es) X.env)).any (·.1) || (backToKw pos (keywordEach kws X.env)).any (·.1.isNone))=false) :
    JE X E (.Call (.Name f p) (e :: es) kws pos) (wpE T (.cak f es' ks' ar)):=fun F=>by
  have main:PE X (.Call (.Name f p) (e :: es) kws pos) (fun σ H Q=>GG E F (e :: es).length (wpL T es') σ H fun vs H1=>vs.length=n∧GG E F kws.length (wpL T ks') σ H1 fun zs H2=>zs.length=ks.length∧fW E (T.S f) (ar.map (Ar.valV (vs ++ zs))) H2 Q E0):=by
    intro pins s σ H Q I h
    refine wpAny_Call_Name_kw (mV I hg hm ?_ hd)
    refine W.callWith_KW (h₀:=X.base) I.ok.mod.kin hk hall (thn (ha F pos pins s σ H _ I h) fun us s1 ⟨vs,H1,I1,r,l1,q⟩=>?_) hpl he
    refine thn (hkw F pos pins s1 σ H1 _ I1 q) fun ws s2 ⟨zs,H2,I2,rz,l2,q2⟩=>⟨I2.kIn, ?_⟩
    rw [hks]
    exact LC K hr I2.env0 hb I2 r rz l1 l2 q2
  refine main.imp fun σ H Q ⟨σ',Z,G,Q',rs,S,h,kq⟩=>?_
  rw [wpE] at h
  exact ⟨σ',Z,G,_,rs,S,h,fun xs vs Z1 G1 H1 l1 s1 S1 r1 q1=>⟨by rw [←r1.length,l1]; exact hn,σ',Z1,G1,_,rs.mono s1,S1,q1,fun zs us Z2 G2 H2 l2 s2 S2 r2 q2 =>
    ⟨by rw [←r2.length,l2]; exact hkn,_,Z2,G2,F,Q',FK ((r1.mono s2).append r2) ar,S2,q2,kq.mono (s1.trans s2)⟩⟩⟩
theorem aBy {f:Str} {p:Pos} {kws:List Keyword} {ks':CE} {ad:Addr} {fd:FuncData} {ps ks:List Str} {ar:List Ar} (K:bS X.prog X.w X.K X.mg X.base CX0 k ad fd ps (fW E (T.S f))) (hr:bE k X.A) (hg:Gl X f) (hm:X.mg f=some (.ref ad))
    (hk:W.keepIn X.K (.ref ad)=true) (hb:jJ X.K fd ps 0 ks ar) (hd:(f == ("__debug__":Str))=false) (hkw:JK X E kws (wpL T ks')) (hkn:kws.length=ks.length)
    (hall:(backToKw pos (keywordEach kws X.env)).all (·.1.isSome)=true) (hks:(backToKw pos (keywordEach kws X.env)).filterMap (·.1)=ks)
    (hpl:((backTo pos (starEach [] X.env)).any (·.1) || (backToKw pos (keywordEach kws X.env)).any (·.1.isNone))=false) :
    JE X E (.Call (.Name f p) [] kws pos) (wpE T (.cak f .nil ks' ar)):=fun F=>by
  have main:PE X (.Call (.Name f p) [] kws pos) (fun σ H Q=>GG E F kws.length (wpL T ks') σ H fun zs H2=>zs.length=ks.length∧fW E (T.S f) (ar.map (Ar.valV ([] ++ zs))) H2 Q E0):=by
    intro pins s σ H Q I h
    refine wpAny_Call_Name_kw (mV I hg hm ?_ hd)
    refine W.callWith_KW0 (h₀:=X.base) (first:=[]) I.ok.mod.kin hk hall ?_ hpl
    refine thn (hkw F pos pins s σ H _ I h) fun ws s2 ⟨zs,H2,I2,rz,l2,q2⟩=>⟨I2.kIn, ?_⟩
    rw [hks]
    exact LC (us:=[]) (vs:=[]) K hr I2.env0 hb I2 .nil rz rfl l2 q2
  refine main.imp fun σ H Q ⟨σ',Z,G,Q',rs,S,h,kq⟩=>?_
  rw [wpE,wpL] at h
  exact ⟨σ',Z,G,_,rs,S,h,fun zs us Z2 G2 H2 l2 s2 S2 r2 q2=>⟨by rw [←r2.length,l2]; exact hkn,_,Z2,G2,F,Q',FK r2 ar,S2,q2,kq.mono s2⟩⟩
theorem aDt {c:String} {x xi:Str} {p:Pos} {kws:List Keyword} {ks':CE} {f:Addr} {fd:FuncData} {ps ks:List Str} {ar:List Ar} (M:Mk X.K (E.cls c) f) (K:bS X.prog X.w X.K X.mg X.base CX0 k f fd ps (fW E (T.S xi))) (hr:bE (k + 1) X.A) (hg:Gl X x) (hm:X.mg x=some (.ref (E.cls c)))
    (hb:jJ X.K fd ps 1 ks (.arg 0 :: ar.map fun a=>match a with | .arg i=>.arg (i + 1) | a=>a)) (ms:WQ T c x xi) (hd:(x == ("__debug__":Str))=false) (hkw:JK X E kws (wpL T ks')) (hkn:kws.length=ks.length)
    (hall:(backToKw pos (keywordEach kws X.env)).all (·.1.isSome)=true) (hks:(backToKw pos (keywordEach kws X.env)).filterMap (·.1)=ks)
    (hpl:((backTo pos (starEach [] X.env)).any (·.1) || (backToKw pos (keywordEach kws X.env)).any (·.1.isNone))=false) :
    JE X E (.Call (.Name x p) [] kws pos) (wpE T (.cak x .nil ks' ar)):=fun F=>by
  have main:PE X (.Call (.Name x p) [] kws pos) (fun σ H Q=>GG E F kws.length (wpL T ks') σ H fun zs H2=>zs.length=ks.length∧∀ y dx,H2 y=none→H2 dx=none→dx≠y→
      fW E (T.S xi) (.ref y :: ar.map (Ar.valV zs)) (upd (upd H2 dx (.own y)) y (.ins (E.cls c) dx [])) (fun v H3=>v= .non∧Q (.ref y) H3) E0):=by
    intro pins s σ H Q I h
    refine wpAny_Call_Name_kw (mV I hg hm ?_ hd)
    refine W.callWith_KW0 (h₀:=X.base) (first:=[]) I.ok.mod.kin M.kp hall ?_ hpl
    refine thn (hkw F pos pins s σ H _ I h) fun ws s2 ⟨zs,H2,I2,rz,l2,q2⟩=>⟨I2.kIn, ?_⟩
    rw [hks]
    have hq:=q2 (s2.heap.objs.size + 1) s2.heap.objs.size (I2.hok.fresh (Nat.le_succ _)) (I2.hok.fresh (Nat.le_refl _)) (Nat.ne_of_lt (Nat.lt_succ_self _))
    have I3:=Inv.made (C:=E.cls c) I2
    have e:V.ref (s2.heap.objs.size + 1) :: ar.map (Ar.valV zs)=(Ar.arg 0 :: ar.map fun a=>match a with | .arg i=>.arg (i + 1) | a=>a).map (Ar.valV ([V.ref (s2.heap.objs.size + 1)] ++ zs)):=by
      rw [List.map_cons,List.map_map]
      refine congr (congrArg List.cons rfl) (List.map_congr_left fun a _=>?_)
      cases a <;> rfl
    rw [e] at hq
    obtain ⟨bs,hbs,hv⟩:=hb.to { s2 with heap:=(s2.heap.push _).push _ } [Value.ref (s2.heap.objs.size + 1)] ws I3.kIn rfl (by rw [←rz.length]; exact l2)
    refine wpAny_call (GR (f:=f) (vs:=[]) (kw:=ks.zip ws) I2.kIn M.makes M.init (beq_iff_eq.mp M.fn) (codeAny_mono (K.run _ X.stack _ _ ⟨[Value.ref (s2.heap.objs.size + 1)],ks.zip ws⟩ bs _ _ E0 (hr.make (E.cls c) [] (ks.zip ws))
      (I3.env0.make (E.cls c) [] (ks.zip ws)) hbs (hv [V.ref (s2.heap.objs.size + 1)] zs (.cons rfl .nil) rz) hq) fun r s' hq'=>?_))
    cases r with
    | error e=>exact hq'.elim
    | ok fl =>
      cases fl with
      | ret u =>
        obtain ⟨v,H',I4,rv,ev,q3⟩:=I3.after hq'
        subst ev
        exact ⟨rv,⟨V.ref (s2.heap.objs.size + 1),H',I4,rfl,q3⟩⟩
      | next=>exact False.elim hq'
      | brk=>exact False.elim hq'
      | cont=>exact False.elim hq'
  refine main.imp fun σ H Q ⟨σ',Z,G,Q',rs,S,h,kq⟩=>?_
  rw [wpE,wpL] at h
  exact ⟨σ',Z,G,_,rs,S,h,fun zs us Z2 G2 H2 l2 s2 S2 r2 q2=>⟨by rw [←r2.length,l2]; exact hkn,fun y dx n nd ne=>WH rfl ms S2 (FK r2 ar) q2 (kq.mono s2) n nd ne⟩⟩
structure aJO (X:Cx) (E:Ev) (x:Str) (ks:List (Str×Str)):Prop where
  ex:∃ a es n,X.mg x=some (.ref a)∧X.K.lookup a=some ⟨.type "dict",none,.dict es n, #[]⟩∧W.KeysLit X.w.params es.toList∧(a == sysModules)=false∧∀ z,findBy Value.isStrOf es z=(ks.lookup z).map fun f=>.ref (E.fna f)
theorem aF3 {x:Str} {p:Pos} {ks:List (Str×Str)} {i:Expr} {i':CE} (D:aJO X E x ks) (hg:Gl X x) (hd:(x == ("__debug__":Str))=false) (hi:JE X E i (wpE T i')) (hs:vI i):JE X E (.Subscript (.Name x p) i pos) (wpE T (.gix ks i')):=fun F=>by
  obtain ⟨a,es,n,hm,hl,hk,hn,hf⟩:=D.ex
  refine (aDz (aKj hl hk) (BD (v:=.ref a) hg hm rfl hd) (hi F) hs).imp fun σ H Q ⟨σ',Z,G,Q',rs,S,h,kq⟩=>?_
  rw [wpE] at h
  refine ⟨σ',Z,G,_,rs,S,h,fun y u Z1 G1 H1 s1 S1 r1 ⟨z,f,e,el,q⟩=>?_⟩
  subst e
  have e:u= .str z:=r1
  subst e
  exact ⟨z,.ref (E.fna f),.ref (E.fna f),rfl,rfl,by rw [hf,el]; rfl,rfl,kq.go s1 S1 (x:=.fn f) rfl q⟩
theorem WS {neg:Bool} {op:CmpOp} {x:Str} {p:Pos} {ks:List (Str×Str)} {a:Expr} {a':CE} (ho:op=if neg=true then .NotIn else .In) (D:aJO X E x ks) (hg:Gl X x) (hd:(x == ("__debug__":Str))=false) (ha:JE X E a (wpE T a')):JE X E (.Compare a [op] [.Name x p] pos) (wpE T (.gin neg ks a')):=fun F=>by
  obtain ⟨ad,es,n,hm,hl,hk,hn,hf⟩:=D.ex
  have main:OpR X (compareOp op) (aHN ad es neg):=by
    subst ho
    cases neg with
    | true=>exact RT hl hk hn
    | false=>exact aFs hl hk hn
  refine (BH main (ha F) (BD (v:=.ref ad) hg hm rfl hd) rfl).imp fun σ H Q ⟨σ',Z,G,Q',rs,S,h,kq⟩=>?_
  rw [wpE] at h
  refine ⟨σ',Z,G,_,rs,S,h,fun y u Z1 G1 H1 s1 S1 r1 ⟨z,e,q⟩=>?_⟩
  subst e
  refine ⟨z,r1,rfl, ?_⟩
  have e2:(findBy Value.isStrOf es z).isSome=(ks.lookup z).isSome:=by rw [hf,Option.isSome_map]
  rw [e2]
  exact kq.go s1 S1 bW q
structure aMh (X:Cx) (E:Ev) (T:Tb) (k:Nat) (y:Str×Nat×List Ar):Prop where
  ex:∃ fd ps,bS X.prog X.w X.K X.mg X.base CX0 k (E.fna y.1) fd ps (fW E (T.S y.1))∧W.keepIn X.K (.ref (E.fna y.1))=true∧jJ X.K fd ps y.2.1 [] y.2.2
theorem aHb {i:Nat} {x:Str} {p:Pos} {fs:List (Str×Nat×List Ar)} {e:Expr} {es:List Expr} {es':CE} (hN:X.N[i]? =some x) (hv:Vis X.env.scope x) (hd:(x == ("__debug__":Str))=false) (hcd:(x == ("__classdict__":Str))=false) (hr:bE k X.A)
    (hF:∀ y∈fs,aMh X E T k y∧y.2.1=(e :: es).length) (ha:JA X E (e :: es) (wpL T es')) (he:starEach (e :: es) X.env=(false,eval e X.env) :: starEach es X.env)
    (hpl:((backTo pos (starEach (e :: es) X.env)).any (·.1) || (backToKw pos (keywordEach [] X.env)).any (·.1.isNone))=false) :
    JE X E (.Call (.Name x p) (e :: es) [] pos) (wpE T (.cav fs i es')):=fun F=>by
  intro pins s σ H Q I ⟨σ',Z,G,Q',rs,S,h,kq⟩
  rw [wpE] at h
  obtain ⟨f,n,ar,ev,hm,h⟩:=h
  obtain ⟨v,ev',r⟩:=rs.get ev
  obtain ⟨⟨fd,ps,K,hk,hb⟩,hn⟩:=hF _ hm
  have er:v= .ref (E.fna f):=r
  subst er
  refine wpAny_Call_Name_kw (thn (KW hN hv hd hcd pins s σ H (fun v' H'=>v'= .ref (E.fna f)∧H'=H) I ⟨_,ev',rfl,rfl⟩) fun u s1 ⟨v',H1,I1,r1,e1,e2⟩=>?_)
  subst e1 e2
  cases r1
  refine W.callWith_KW (h₀:=X.base) I1.ok.mod.kin hk rfl (thn (ha F pos pins s1 σ H1 (fun vs H2=>vs.length=n∧fW E (T.S f) (ar.map (Ar.valV (vs ++ []))) H2 Q E0) I1 ⟨σ',Z,G,_,rs,S,h,fun xs vs Z1 G1 H2 l1 s2 S1 r2 q1=>⟨by rw [←r2.length,l1]; exact hn.symm,_,Z1,G1,F,Q', ?_,S1,q1,kq.mono s2⟩⟩) fun us s2 ⟨vs,H2,I2,r,l1,q⟩=>?_) hpl he
  · rw [List.append_nil]; exact FK r2 ar
  · refine thn (WJ (X:=X) pos pins s2 σ H2 (fun zs H3=>zs=[]∧fW E (T.S f) (ar.map (Ar.valV (vs ++ zs))) H3 Q E0) I2 ⟨rfl,q⟩) fun ws s3 ⟨zs,H3,I3,rz,ez,q2⟩=>⟨I3.kIn, ?_⟩
    subst ez
    exact LC K hr I3.env0 hb I3 r rz l1 rfl q2
end
noncomputable def clos (cells:List (Str×Addr)):List (Str×NameKind)→List (Str×Addr)→List (Str×Addr)
  | [],acc=>acc
  | (n,k) :: r,acc=>clos cells r (if k= .free then (n,(cells.lookup n).getD 0) :: acc else acc)
theorem aCj {scope:Scope} {env:Env} (h:∀ y∈scope.names,y.2= .free→∃ c,env.cells.lookup y.1=some c):closureFor scope env=pure (clos env.cells scope.names []):=by
  unfold closureFor
  have main:∀ (l:List (Str×NameKind)) (acc:List (Str×Addr)),(∀ y∈l,y.2= .free→∃ c,env.cells.lookup y.1=some c)→
      (forIn l acc (fun x r=>if (x.2 == NameKind.free)=true then do let c ←cellOf env x.1; pure (ForInStep.yield ((x.1,c) :: r)) else pure (ForInStep.yield r)):Sem (List (Str×Addr)))=pure (clos env.cells l acc):=by
    intro l
    induction l with
    | nil=>intro acc _; rfl
    | cons y r ih =>
      intro acc hy
      obtain ⟨n,k⟩:=y
      rw [List.forIn_cons]
      have ihr:=fun acc=>ih acc fun z hz=>hy z (List.mem_cons_of_mem _ hz)
      by_cases hk:k= .free
      · subst hk
        obtain ⟨c,hc⟩:=hy (n,.free) (List.mem_cons_self ..) rfl
        have e:cellOf env n=pure c:=by unfold cellOf; rw [hc]
        simp only [beq_self_eq_true,if_true,e]
        unfold clos
        rw [if_pos rfl,hc]
        exact ihr _
      · have e:((n,k).2 == NameKind.free)=false:=beq_eq_false_iff_ne.mpr hk
        simp only [e]
        unfold clos
        rw [if_neg hk]
        exact ihr _
  have:=main scope.names [] h
  have e:(forIn scope.names ([]:List (Str×Addr)) (fun x r=>match x with
      | (name,kind)=>if (kind == NameKind.free)=true then do let c ←cellOf env name; pure (ForInStep.yield ((name,c) :: r)) else pure (ForInStep.yield r)):Sem (List (Str×Addr)))=pure (clos env.cells scope.names []):=by
    rw [←this]
  show ((forIn scope.names ([]:List (Str×Addr)) (fun x r=>match x with
      | (name,kind)=>if (kind == NameKind.free)=true then do let c ←cellOf env name; pure (ForInStep.yield ((name,c) :: r)) else pure (ForInStep.yield r)):Sem (List (Str×Addr))) >>= pure)=_
  rw [e]
  rfl
theorem OG {cells:List (Str×Addr)}:∀ {l:List (Str×NameKind)} {acc:List (Str×Addr)},(∀ y∈l,y.2= .free→∃ c,cells.lookup y.1=some c)→yL cells acc→yL cells (clos cells l acc)
  | [],_,_,h=>h
  | (n,k) :: r,acc,hy,h=>by
    unfold clos
    refine OG (fun z hz=>hy z (List.mem_cons_of_mem _ hz)) ?_
    split
    · rename_i hk
      obtain ⟨c,hc⟩:=hy (n,k) (List.mem_cons_self ..) hk
      exact ⟨by rw [hc]; rfl,h⟩
    · exact h
theorem xI {cells:List (Str×Addr)}:∀ {l:List (Str×NameKind)} {acc:List (Str×Addr)} {n:Str},((∃ c,(n,c)∈acc)∨(n,NameKind.free)∈l)→∃ c,(n,c)∈clos cells l acc
  | [],_,_,h=>by
    rcases h with h | h
    · exact h
    · cases h
  | (m, k) :: r,acc,n,h=>by
    unfold clos
    refine xI ?_
    rcases h with ⟨c,h⟩ | h
    · refine .inl ?_
      split
      · exact ⟨c,List.mem_cons_of_mem _ h⟩
      · exact ⟨c,h⟩
    · rcases List.mem_cons.mp h with e | h
      · cases e
        exact .inl ⟨_,by rw [if_pos rfl]; exact List.mem_cons_self ..⟩
      · exact .inr h
theorem DC {cells:List (Str×Addr)}:∀ {cl:List (Str×Addr)} {n:Str},yL cells cl→(∃ c,(n,c)∈cl)→∃ c,cl.lookup n=some c∧cells.lookup n=some c
  | [],_,_,⟨_,h⟩=>by cases h
  | (m,d) :: r,n,ok,⟨c,h⟩=>by
    rw [List.lookup_cons]
    cases hb:n == m with
    | true =>
      rw [beq_iff_eq.mp hb]
      exact ⟨d,rfl,ok.1⟩
    | false =>
      rcases List.mem_cons.mp h with e | h
      · cases e; rw [beq_self_eq_true] at hb; cases hb
      · exact DC ok.2 ⟨c,h⟩
theorem MR {cl cells:List (Str×Addr)} (hcl:yL cells cl):∀ {l:List (Str×NameKind)},(∀ n,(n,NameKind.free)∈l→∃ c,(n,c)∈cl)→nO cl cells l
  | [],_=>trivial
  | (n,k) :: r,h=>⟨fun e=>by subst e; exact DC hcl (h n (List.mem_cons_self ..)),MR hcl fun m hm=>h m (List.mem_cons_of_mem _ hm)⟩
structure Cfg where
  N:List Str
  names:List (Str×NameKind)
  blk:Bool:=false
  fns:List Str:=[]
  mks:List Str:=[]
  shs:List (Str×Nat×List Str×List Ar):=[]
  mkk:List (Str×List Str×List Ar):=[]
  gls:List Str:=[]
  tys:List Str:=[]
  blt:List Str:=[]
  M:List Str:=[]
  rm:Bool:=false
  eqs:List (String×Str):=[]
  own:List Str:=[]
  ls:List Str:=[]
  nes:List (String×Str):=[]
  lns:List (String×Str):=[]
  ows:List (Str×List (String×Str)):=[]
  gds:List (Str×List (Str×Str)):=[]
  fvs:List (Str×Nat×List Ar):=[]
  mkp:List (Str×Nat×List Str×List Ar):=[]
  rp:Bool:=false
noncomputable def slot:List Str→Str→Option Nat
  | [],_=>none
  | y :: r,x=>if y=x then some 0 else (slot r x).map (· + 1)
theorem bQ:∀ {N:List Str} {x:Str} {i:Nat},slot N x=some i→N[i]? =some x
  | [],_,_,h=>by cases h
  | y :: r,x,i,h=>by
    unfold slot at h
    split at h
    · rename_i e; cases h; rw [e]; rfl
    · cases e:slot r x with
      | none=>rw [e] at h; cases h
      | some j =>
        rw [e] at h
        cases h
        rw [List.getElem?_cons_succ]
        exact bQ e
noncomputable def aCg (C:Cfg) (x:Str):Bool:=match C.names.lookup x with
  | some .local=>true
  | some .cell=>true
  | some .free=>true
  | _=>false
noncomputable def ZS (C:Cfg) (x:Str):Bool:=match C.names.lookup x with
  | some .local=>true
  | some .cell=> !C.blk || C.own.contains x
  | _=>false
noncomputable def glB (C:Cfg) (x:Str):Bool:=C.names.lookup x == some .globalImplicit
noncomputable def tD (x:Str):Bool:= !(x == ("__debug__":Str)) && !(x == ("__classdict__":Str))
noncomputable def bP:Expr→Bool
  | .Starred .. =>true
  | _=>false
noncomputable def BL:Expr→Bool
  | .Call (.Name _ _) [] [] _=>true
  | _=>false
noncomputable def tK:Expr→Bool
  | .Set .. =>true
  | _=>false
noncomputable def WT:Expr→Bool
  | .Slice .. =>true
  | _=>false
noncomputable def wW:Expr→Bool
  | .ListComp .. | .SetComp .. | .DictComp .. =>true
  | _=>false
noncomputable def CV:List (Str×Bn):=[("len",.len),("abs",.abs),("max",.max),("min",.min),("int",.int),("str",.str),("isinstance",.isi),("tuple",.tuple),("list",.list),("all",.all),("any",.any),("sum",.sum),("bool",.bool),("repr",.repr),("divmod",.divmod)]
noncomputable def kwN:List Keyword→Option (List Str)
  | []=>some []
  | ⟨some n,_,_⟩ :: r=>(kwN r).map (n :: ·)
  | ⟨none,_,_⟩ :: _=>none
noncomputable def jF (C:Cfg) (sc:Scope):List (Str×NameKind):=sc.names.map fun (n,k)=>if (k == .free && C.names.lookup n == some .cell) then (n,.cell) else (n,k)
noncomputable def nG (C:Cfg):List (Str×NameKind)→List (Str×Option Nat)
  | []=>[]
  | (n,k) :: r=>match k with
    | .local=>(n,none) :: nG C r
    | .cell=>(n,none) :: nG C r
    | .free=>match slot C.N n with
      | some j=>if C.names.lookup n=some .cell then (n,some j) :: nG C r else nG C r
      | none=>nG C r
    | _=>nG C r
noncomputable def OD (C:Cfg) (sc:Scope):Bool:=sc.kind == .function && sc.names.all (fun y=>(y.2 != .cell || !sc.names.contains (y.1,.free)) && (y.2 != .local || sc.names.lookup y.1 == some .local) && (y.2 != .free || C.names.lookup y.1 == some .cell)) && decide (((nG C sc.names).map (·.1)).Nodup)
  && (nG C sc.names).all (fun p=>p.2.isNone || ((jF C sc).lookup p.1 == some .cell))
noncomputable def JP (C:Cfg) (sc:Scope):Cfg:={ C with N:=(nG C sc.names).map (·.1),names:=jF C sc,blk:=true,own:=(sc.names.filter (fun y=>y.2 == .cell)).map (·.1) }
mutual
noncomputable def xE:Nat→Cfg→Bool→Expr→Option CE
  | 0,_,_,_=>none
  | n + 1,C,m,e=>match e with
    | .Compare a [.NotEq] [b] _=>if tK b || C.nes.isEmpty then none else (cE n C false a).bind fun a'=>(cE n C false b).bind fun b'=>some (.cne C.nes a' b')
    | _=>none
noncomputable def zE:Nat→Cfg→Expr→Option CE
  | 0,_,_=>none
  | n + 1, C,e=>match e with
    | .Subscript (.Name x _) i _=>(match C.gds.lookup x with
      | some ks=>if glB C x && tD x && !WT i then (cE n C false i).bind fun i'=>some (.gix ks i') else none
      | none=>none)
    | .Compare a [op] [.Name x _] _=>(match C.gds.lookup x with
      | some ks=>if glB C x && tD x then (match op with
          | .In=>(cE n C false a).bind fun a'=>some (.gin false ks a')
          | .NotIn=>(cE n C false a).bind fun a'=>some (.gin true ks a')
          | _=>none) else none
      | none=>none)
    | .Call (.Name x _) (e :: r) [] _=>if C.rp && x == ("repr":Str) && glB C x && C.blt.contains x && r.isEmpty && !bP e then (cE n C false e).bind fun e'=>some (.rpr e') else if !C.fvs.isEmpty && tD x && aCg C x then (slot C.N x).bind fun i=>(cL n C (e :: r)).bind fun es'=>some (.cav (C.fvs.filter fun s=>s.2.1 == (e :: r).length) i es') else none
    | _=>none
noncomputable def cE:Nat→Cfg→Bool→Expr→Option CE
  | 0,_,_,_=>none
  | n + 1,C,m,e=>match zE n C e with
  | some c=>some c
  | none=>match xE n C m e with
  | some c=>some c
  | none => match e with
    | .Name x _=>if tD x then (match slot C.N x with
      | some i=>if aCg C x then some (.var i) else none
      | none=>if glB C x && (C.gls.contains x || C.tys.contains x) then some (.glo x) else none) else none
    | .Constant v _ _=>(match v with
      | .int i=>some (.int i)
      | .bool b=>some (.bl b)
      | .none=>some .non
      | .str s=>some (.str s)
      | _=>none)
    | .BinOp a op b _=>(cE n C false a).bind fun a'=>(cE n C false b).bind fun b'=>some (.bin op a' b')
    | .UnaryOp op a _=>(match op with
      | .USub=>(cE n C false a).bind fun a'=>some (.neg a')
      | .Not=>(cE n C false a).bind fun a'=>some (.no a')
      | _=>none)
    | .BoolOp op vs _=>cB n C op vs
    | .Compare a ops bs _=>(match ops,bs with
      | [op],[b]=>if tK b then none else (cE n C false a).bind fun a'=>(cE n C false b).bind fun b'=>some (.cmp op a' b')
      | [op,op'],[b,c]=>if tK c then none else (cE n C false a).bind fun a'=>(cE n C false b).bind fun b'=>(cE n C false c).bind fun c'=>some (.chn op op' a' b' c')
      | _,_=>none)
    | .Tuple es _ _=>(cL n C es).bind fun es'=>some (.tup es')
    | .List es _=>(cL n C es).bind fun es'=>some (.lst m es')
    | .Subscript a s _=>(match s with
      | .Slice lo hi none _=>(cE n C false a).bind fun a'=>(cO n C lo).bind fun l'=>(cO n C hi).bind fun h'=>some (.sli a' l' h')
      | .Slice none none (some (.UnaryOp .USub (.Constant (.int 1) _ _) _)) _=>(cE n C false a).bind fun a'=>some (.rev a')
      | s=>if WT s then none else (cE n C false a).bind fun a'=>(cE n C false s).bind fun i'=>some (.idx a' i'))
    | .Attribute a f _=>if BL a then none else (cE n C false a).bind fun a'=>some (.att a' f)
    | .Call f es kws pos=>(match f,es,kws with
      | .Name x _,e :: r,[]=>if glB C x then (match CV.lookup x with
          | some b=>if C.blt.contains x then (cL n C (e :: r)).bind fun es'=>some (match C.ows.lookup x with | some ls=>.bow b ls es' | none=>.blt b es') else none
          | none=>(match C.shs.find? (fun s=>s.1 == x && s.2.1 == (e :: r).length && s.2.2.1 == []) with
            | some s=>(cL n C (e :: r)).bind fun es'=>some (.cak x es' .nil s.2.2.2)
            | none=>if C.fns.contains x || C.mks.contains x then (cL n C (e :: r)).bind fun es'=>some (.cal x es') else none)) else none
      | .Name x _,e :: r,kw :: kws=>if glB C x then (kwN (kw :: kws)).bind fun ks=>(match C.shs.find? (fun s=>s.1 == x && s.2.1 == (e :: r).length && s.2.2.1 == ks) with
          | some s=>(cL n C (e :: r)).bind fun es'=>(cK n C (kw :: kws)).bind fun ks'=>some (.cak x es' ks' s.2.2.2)
          | none=>none) else none
      | .Name x _,[],kw :: kws=>if glB C x then (kwN (kw :: kws)).bind fun ks=>(match C.shs.find? (fun s=>s.1 == x && s.2.1 == 0 && s.2.2.1 == ks) with
          | some s=>(cK n C (kw :: kws)).bind fun ks'=>some (.cak x .nil ks' s.2.2.2)
          | none=>(match C.mkk.find? (fun s=>s.1 == x && s.2.1 == ks) with
            | some s=>(cK n C (kw :: kws)).bind fun ks'=>some (.cak x .nil ks' s.2.2)
            | none=>none)) else none
      | .Attribute o mth ap,[e],[]=>if mth="join" && !BL o && !bP e && ap.endLine == pos.line then (cE n C false o).bind fun o'=>(cE n C false e).bind fun e'=>some (.joi o' e') else if mth="append" && !BL o && !bP e && ap.endLine == pos.line then (cE n C false o).bind fun o'=>(cE n C false e).bind fun e'=>some (.app o' e') else none
      | _,_,_=>none)
    | .ListComp elt gens sc _=>(match gens with
      | [⟨tg,iter,ifs,0⟩]=>if OD C sc && !tK iter then (cI n C tg iter).bind fun it'=>(cG n (JP C sc) tg).bind fun tg'=>(cTs n (JP C sc) ifs).bind fun ts'=>(cE n (JP C sc) false elt).bind fun el'=>some (.cmpr m tg' it' ts' el' ((nG C sc.names).map (·.2))) else none
      | _=>none)
    | .JoinedStr (a :: b :: r) _=>(cJ n C (a :: b :: r)).bind fun es'=>some (.fst es')
    | _=>none
noncomputable def cJ:Nat→Cfg→List Expr→Option CE
  | 0,_,_=>none
  | n + 1,C,es=>match es with
    | []=>some .nil
    | e :: r=>(match e with
      | .FormattedValue e (-1) none _=>(cE n C false e).bind fun e'=>(cJ n C r).bind fun r'=>some (.cons e' r')
      | .Constant (.str s) _ _=>(cJ n C r).bind fun r'=>some (.cons (.str s) r')
      | _=>none)
noncomputable def cL:Nat→Cfg→List Expr→Option CE
  | 0,_,_=>none
  | n + 1,C,es=>match es with
    | []=>some .nil
    | e :: r=>if bP e then none else (cE n C false e).bind fun e'=>(cL n C r).bind fun r'=>some (.cons e' r')
noncomputable def cK:Nat→Cfg→List Keyword→Option CE
  | 0,_,_=>none
  | n + 1,C,ks=>match ks with
    | []=>some .nil
    | ⟨_,v,_⟩ :: r=>(cE n C false v).bind fun e'=>(cK n C r).bind fun r'=>some (.cons e' r')
noncomputable def cB:Nat→Cfg→BoolOp→List Expr→Option CE
  | 0,_,_,_=>none
  | n + 1,C,op,vs=>match vs with
    | []=>none
    | [a]=>cE n C false a
    | a :: b :: r=>(cE n C false a).bind fun a'=>(cB n C op (b :: r)).bind fun b'=>some (match op with | .And=>.an a' b' | .Or=>.oo a' b')
noncomputable def xT:Nat→Cfg→Expr→Option CE
  | 0,_,_=>none
  | n + 1,C,e=>match e with
    | .Compare a [.NotEq] [b] _=>if tK b || C.nes.isEmpty then none else (cE n C false a).bind fun a'=>(cE n C false b).bind fun b'=>some (.tsb (.cne C.nes a' b'))
    | _=>none
noncomputable def cT:Nat→Cfg→Expr→Option CE
  | 0,_,_=>none
  | n + 1,C,e=>match xT n C e with
  | some c=>some c
  | none=>match e with
    | .BoolOp op vs _=>cW n C op vs
    | .UnaryOp .Not a _=>(cT n C a).bind fun a'=>some (.no a')
    | .Compare a ops bs _=>(match ops,bs with
      | [op],[b]=>if tK b then none else (cE n C false a).bind fun a'=>(cE n C false b).bind fun b'=>some (.tsb (.cmp op a' b'))
      | [op,op'],[b,c]=>if tK c then none else (cE n C false a).bind fun a'=>(cE n C false b).bind fun b'=>(cE n C false c).bind fun c'=>some (.tsb (.chn op op' a' b' c'))
      | _,_=>none)
    | .Name .. | .Call .. | .Subscript .. | .Attribute .. =>(cE n C false e).bind fun e'=>some (.tst e')
    | _=>none
noncomputable def cW:Nat→Cfg→BoolOp→List Expr→Option CE
  | 0,_,_,_=>none
  | n + 1,C,op,vs=>match vs with
    | []=>none
    | [a]=>cT n C a
    | a :: b :: r=>(cT n C a).bind fun a'=>(cW n C op (b :: r)).bind fun b'=>some (match op with | .And=>.an a' b' | .Or=>.oo a' b')
noncomputable def cO:Nat→Cfg→Option Expr→Option CE
  | 0,_,_=>none
  | n + 1,C,o=>match o with
    | none=>some .nil
    | some e=>(cE n C false e).bind fun e'=>some (.tst e')
noncomputable def cTs:Nat→Cfg→List Expr→Option CE
  | 0,_,_=>none
  | n + 1,C,l=>match l with
    | []=>some .nil
    | [c]=>cT n C c
    | _=>none
noncomputable def cG:Nat→Cfg→Expr→Option CE
  | 0,_,_=>none
  | n + 1,C,e=>match e with
    | .Name x _=>if ZS C x then (slot C.N x).bind fun i=>some (.gn i) else none
    | .Tuple es _ _=>(cGs n C es).bind fun g=>some (.gt es.length g)
    | _=>none
noncomputable def cGs:Nat→Cfg→List Expr→Option CE
  | 0,_,_=>none
  | n + 1,C,es=>match es with
    | []=>some .nil
    | e :: r=>if bP e then none else (cG n C e).bind fun g=>(cGs n C r).bind fun r'=>some (.cons g r')
noncomputable def cI:Nat→Cfg→Expr→Expr→Option CE
  | 0,_,_,_=>none
  | n + 1, C,tg,e=>match e with
    | .Call (.Name x p) es kws pos=>if x="zip" then none
      else (match kws,es with
      | [],[a]=>if bP a then none else if x="range" then (if glB C x && C.blt.contains x then (cE n C false a).bind fun a'=>some (.irg (.cons a' .nil)) else none)
        else if x="enumerate" then (match tg with
          | .Tuple .. =>if glB C x && C.blt.contains x then (cE n C false a).bind fun a'=>some (.ien a') else none
          | _=>none)
        else (cE n C false (.Call (.Name x p) es kws pos)).bind fun e'=>some (.isq e')
      | [],[a,b]=>if bP a || bP b then none else if x="range" then (if glB C x && C.blt.contains x then (cE n C false a).bind fun a'=>(cE n C false b).bind fun b'=>some (.irg (.cons a' (.cons b' .nil))) else none)
        else (cE n C false (.Call (.Name x p) es kws pos)).bind fun e'=>some (.isq e')
      | _,_=>(cE n C false (.Call (.Name x p) es kws pos)).bind fun e'=>some (.isq e'))
    | e=>if tK e then none else (cE n C false e).bind fun e'=>some (.isq e')
end
structure Fk (P:Program) (w:World) (K:W.Frag) (mg:Str→Option Value) (base:Heap) (E:Ev) (T:Tb) (k:Nat) (f:Str) (ad:Addr) (fd:FuncData) (ps:List Str):Prop where
  ok:bS P w K mg base CX0 k ad fd ps (fW E (T.S f))
  mg:mg f=some (.ref ad)
  kp:W.keepIn K (.ref ad)=true
  db:(f == ("__debug__":Str))=false
structure Mf (P:Program) (w:World) (K:W.Frag) (mg:Str→Option Value) (base:Heap) (E:Ev) (T:Tb) (k:Nat) (x:Str) (c:String) (xi:Str) (ad:Addr) (fd:FuncData) (ps:List Str):Prop where
  mkr:Mk K (E.cls c) ad
  ok:bS P w K mg base CX0 k ad fd ps (fW E (T.S xi))
  mg:mg x=some (.ref (E.cls c))
  ms:WQ T c x xi
  db:(x == ("__debug__":Str))=false
noncomputable def up1:Ar→Ar
  | .arg i=>.arg (i + 1)
  | a=>a
structure Gf (P:Program) (w:World) (K:W.Frag) (mg:Str→Option Value) (base:Heap) (E:Ev) (T:Tb) (k:Nat) (C:Cfg):Prop where
  fns:∀ f∈C.fns,∃ ad fd ps,Fk P w K mg base E T k f ad fd ps∧L2.aE K fd ps []
  mks:∀ x∈C.mks,∃ c xi ad fd ps,Mf P w K mg base E T k x c xi ad fd ps∧L2.aE K fd ps []
  shs:∀ s∈C.shs,∃ ad fd ps,Fk P w K mg base E T k s.1 ad fd ps∧jJ K fd ps s.2.1 s.2.2.1 s.2.2.2
  mkk:∀ s∈C.mkk,∃ c xi ad fd ps,Mf P w K mg base E T k s.1 c xi ad fd ps∧jJ K fd ps 1 s.2.1 (.arg 0 :: s.2.2.map up1)
  gls:∀ x∈C.gls,∃ u v,mg x=some u∧aL v u∧RP E (fun _=>none) (T.gv x) v
  tys:∀ x∈C.tys,mg x=none∧(∃ n,bootBuiltins x=some (.type n)∧T.gv x= .ty n)∧x≠"__name__"
  blt:∀ x∈C.blt,mg x=none
  eqs:∀ y∈C.eqs,∃ ad fd,lL K (E.cls y.1) "__eq__" ad∧bS P w K mg base CX0 k ad fd ["self","other"] (fW E (T.S y.2))∧L2.aE K fd ["self","other"] []
  nes:∀ y∈C.nes,∃ ad fd,NeC K (E.cls y.1)∧lL K (E.cls y.1) "__eq__" ad∧bS P w K mg base CX0 k ad fd ["self","other"] (fW E (T.S y.2))∧L2.aE K fd ["self","other"] []
  lns:∀ y∈C.lns,∃ ad fd,NeC K (E.cls y.1)∧lL K (E.cls y.1) "__len__" ad∧bS P w K mg base CX0 k ad fd ["self"] (fW E (T.S y.2))∧L2.aE K fd ["self"] []
  ows:∀ y∈C.ows,∀ b,CV.lookup y.1=some b→∀ z∈y.2,∃ ad fd k0 nm,k0 + 2≤k∧bwN b=some nm∧NeC K (E.cls z.1)∧lL K (E.cls z.1) nm ad∧bS P w K mg base CX0 k0 ad fd ["self"] (fW E (T.S z.2))∧L2.aE K fd ["self"] []
  gds:∀ y∈C.gds,∃ a es n,mg y.1=some (.ref a)∧K.lookup a=some ⟨.type "dict",none,.dict es n, #[]⟩∧W.KeysLit w.params es.toList∧(a == sysModules)=false∧∀ z,findBy Value.isStrOf es z=(y.2.lookup z).map fun f=>.ref (E.fna f)
  fvs:∀ y∈C.fvs,∃ fd ps,bS P w K mg base CX0 k (E.fna y.1) fd ps (fW E (T.S y.1))∧W.keepIn K (.ref (E.fna y.1))=true∧jJ K fd ps y.2.1 [] y.2.2
  mkp:∀ s∈C.mkp,∃ c xi ad fd ps,Mf P w K mg base E T k s.1 c xi ad fd ps∧jJ K fd ps (s.2.1 + 1) s.2.2.1 (.arg 0 :: s.2.2.2.map up1)
  rp:C.rp=true→79≤k
structure Kn (X:Cx) (E:Ev) (T:Tb) (k:Nat) (C:Cfg):Prop where
  pl:Pl X E T (k + 1)
  N:X.N=C.N
  nd:C.N.Nodup
  nm:X.env.scope.names=C.names
  kd:X.env.scope.kind= .function
  fn:∀ x,(C.blk=false∨x∈C.own)→X.fn x=true
  ce:∀ x,C.names.lookup x=some .cell→∃ c,X.env.cells.lookup x=some c
  ps:PassesOwn (model X.prog X.w) X.A X.env X.xe
  gf:Gf X.prog X.w X.K X.mg X.base E T k C
theorem aB9:∀ y∈CV,bootBuiltins y.1=some (UU y.2)∧y.1≠"__name__"∧(y.1 == ("__debug__":Str))=false:=by
  intro y hy
  simp only [CV,List.mem_cons,List.not_mem_nil,or_false] at hy
  rcases hy with rfl | rfl | rfl | rfl | rfl | rfl | rfl | rfl | rfl | rfl | rfl | rfl | rfl | rfl | rfl <;> exact ⟨by first | exact PySem.boot_len | (with_unfolding_all rfl),by decide,by decide⟩
theorem dD {α β:Type} [BEq α] [LawfulBEq α]:∀ {l:List (α×β)} {x:α} {b:β},l.lookup x=some b→(x,b)∈l
  | [],_,_,h=>by cases h
  | (y,c) :: r,x,b,h=>by
    rw [List.lookup_cons] at h
    cases e:x == y with
    | true=>rw [e] at h; cases h; rw [beq_iff_eq.mp e]; exact List.mem_cons_self ..
    | false=>rw [e] at h; exact List.mem_cons_of_mem _ (dD h)
section
variable {X:Cx} {E:Ev} {T:Tb} {k:Nat} {C:Cfg}
theorem Kn.vis (K:Kn X E T k C) {x:Str} (h:aCg C x=true):Vis X.env.scope x:=by
  unfold aCg at h
  unfold Vis
  rw [K.nm]
  split at h
  · rename_i e; exact .inl e
  · rename_i e; exact .inr (.inl e)
  · rename_i e; exact .inr (.inr e)
  · cases h
theorem Kn.loc (K:Kn X E T k C) {x:Str} (h:ZS C x=true):L2.Loc X.env.scope x∧(X.fn x=true∨X.env.scope.names.lookup x=some .local):=by
  unfold ZS at h
  unfold L2.Loc
  rw [K.nm]
  split at h
  · rename_i e; exact ⟨.inl e,.inr e⟩
  · rename_i e
    exact ⟨.inr e,.inl (K.fn x (by
      rw [Bool.or_eq_true] at h
      exact h.imp (fun z=>by simpa using z) fun z=>List.contains_iff_mem.mp z))⟩
  · cases h
theorem Kn.gl (K:Kn X E T k C) {x:Str} (h:glB C x=true):Gl X x:=by
  unfold glB at h
  unfold Gl Env.kindOf
  rw [K.nm]
  exact beq_iff_eq.mp h
theorem aP {e:Expr} {es:List Expr} {env:Env} (h:bP e=false):starEach (e :: es) env=(false,eval e env) :: starEach es env:=by
  cases e <;> first | rfl | (cases h)
theorem FA {e:Expr} {es:List Expr} {env:Env} (h:bP e=false):assignEach (e :: es) env=(false,assign e env) :: assignEach es env:=by
  cases e <;> first | rfl | (cases h)
theorem sM {o:Expr} {f:Str} {env:Env} {w:Sem Value} (h:BL o=false):attributeBase o f env w=w:=by
  unfold attributeBase
  split
  · cases h
  · rfl
theorem mB {op:CmpOp} {b:Expr} (h:tK b=false):behindInMarks op b=false:=by
  cases b <;> first | rfl | (cases h)
theorem uH {e:Expr} {env:Env} (h:tK e=false):∀ x,foldedSetIterable e env x=pure x:=by
  intro x
  cases e <;> first | rfl | (cases h)
theorem xH {e:Expr} (h:WT e=false):vI e:=by
  intro o i
  cases e <;> first | rfl | (cases h)
theorem wJ (K:Kn X E T k C) (sc:Scope):(relabel sc X.env).names=jF C sc:=by
  unfold relabel jF Env.kindOf
  rw [K.nm,K.kd]
  simp
theorem LF {cl:List (Str×Addr)} {sc:Scope} (K:Kn X E T k C):∀ {l:List (Str×Option Nat)},(∀ p∈l,∀ j,p.2=some j→X.N[j]? =some p.1∧X.env.kindOf p.1=some .cell∧(relabel sc X.env).names.lookup p.1=some .cell∧∃ c,cl.lookup p.1=some c∧X.env.cells.lookup p.1=some c)→hX X sc cl (l.map (·.1)) (l.map (·.2))
  | [],_=>trivial
  | (n,none) :: r,h=>by
    show hX X sc cl (r.map (·.1)) (r.map (·.2))
    exact LF K fun p hp=>h p (List.mem_cons_of_mem _ hp)
  | (n,some j) :: r,h=>⟨h _ (List.mem_cons_self ..) j rfl,LF K fun p hp=>h p (List.mem_cons_of_mem _ hp)⟩
theorem hV {C:Cfg}:∀ {l:List (Str×NameKind)} {p:Str×Option Nat} {j:Nat},p∈nG C l→p.2=some j→(p.1,NameKind.free)∈l∧slot C.N p.1=some j∧C.names.lookup p.1=some .cell
  | [],_,_,h,_=>by cases h
  | (n, kk) :: r,p,j,h,e=>by
    unfold nG at h
    split at h
    · rcases List.mem_cons.mp h with z | z
      · subst z; cases e
      · obtain ⟨a,b⟩:=hV z e; exact ⟨List.mem_cons_of_mem _ a,b⟩
    · rcases List.mem_cons.mp h with z | z
      · subst z; cases e
      · obtain ⟨a,b⟩:=hV z e; exact ⟨List.mem_cons_of_mem _ a,b⟩
    · split at h
      · rename_i j' hs
        split at h
        · rename_i hc
          rcases List.mem_cons.mp h with z | z
          · subst z; cases e; exact ⟨List.mem_cons_self ..,hs,hc⟩
          · obtain ⟨a,b⟩:=hV z e; exact ⟨List.mem_cons_of_mem _ a,b⟩
        · obtain ⟨a,b⟩:=hV h e; exact ⟨List.mem_cons_of_mem _ a,b⟩
      · obtain ⟨a,b⟩:=hV h e; exact ⟨List.mem_cons_of_mem _ a,b⟩
    · obtain ⟨a,b⟩:=hV h e; exact ⟨List.mem_cons_of_mem _ a,b⟩
theorem MT {cells:List (Str×Addr)}:∀ {l:List (Str×NameKind)} {acc:List (Str×Addr)} {n:Str} {c:Addr},(n,c)∈clos cells l acc→(n,c)∈acc∨(n,NameKind.free)∈l
  | [],_,_,_,h=>.inl h
  | (m, k) :: r,acc,n,c,h=>by
    unfold clos at h
    rcases MT h with z | z
    · split at z
      · rename_i hk
        rcases List.mem_cons.mp z with e | z
        · cases e; subst hk; exact .inr (List.mem_cons_self ..)
        · exact .inl z
      · exact .inl z
    · exact .inr (List.mem_cons_of_mem _ z)
theorem Kn.block (K:Kn X E T k C) {sc:Scope} (h:OD C sc=true):∃ cl,kC X ((nG C sc.names).map (·.1)) sc cl ((nG C sc.names).map (·.2))∧∀ C0 s₀ H₀ ex,Kn (cxC X ((nG C sc.names).map (·.1)) sc cl C0 s₀ H₀ ex) E T k (JP C sc):=by
  unfold OD at h
  simp only [Bool.and_eq_true,List.all_eq_true,decide_eq_true_eq] at h
  obtain ⟨⟨⟨hk,hn⟩,hd⟩,hc⟩:=h
  have hk:sc.kind= .function:=beq_iff_eq.mp hk
  have fr:∀ y∈sc.names,y.2= .free→C.names.lookup y.1=some .cell:=fun y hy e=>by
    have:=(hn y hy).2
    rw [e] at this
    simpa using this
  have ncell:∀ x,(x,NameKind.cell)∈sc.names→(x,NameKind.free)∉ sc.names:=fun x hx hf=>by
    have:=(hn _ hx).1.1
    simp [hf] at this
  have hf:∀ y∈sc.names,y.2= .free→∃ c,X.env.cells.lookup y.1=some c:=fun y hy e=>K.ce y.1 (fr y hy e)
  have hcl:yL X.env.cells (clos X.env.cells sc.names []):=OG hf trivial
  have look:∀ n,(n,NameKind.free)∈sc.names→∃ c,(clos X.env.cells sc.names []).lookup n=some c∧X.env.cells.lookup n=some c:=fun n hn=>DC hcl (xI (.inr hn))
  refine ⟨clos X.env.cells sc.names [],⟨aCj hf,(fun x hx=>by
    cases e:(clos X.env.cells sc.names []).lookup x with
    | none=>rfl
    | some c =>
      rcases MT (dD e) with z | z
      · cases z
      · exact absurd z (ncell x hx)),hk,fun y hy e=>?_,MR hcl fun n hn=>xI (.inr hn),hcl,LF K fun p hp j e=>?_⟩,fun C0 s₀ H₀ ex=>⟨⟨K.pl.hK,K.pl.calm,K.pl.room,K.pl.cls,K.pl.fld⟩,rfl,hd,wJ K sc,hk,(fun x z=>by
    rcases z with z | z
    · cases z
    · obtain ⟨y,hy,e⟩:=List.mem_map.mp z
      obtain ⟨h1,h2⟩:=List.mem_filter.mp hy
      subst e
      refine List.contains_iff_mem.mpr ?_
      rw [show (y.1,NameKind.cell)=y from by rw [←beq_iff_eq.mp h2]]
      exact h1),fun x hx=>?_,PassesOwn.never,⟨K.gf.fns,K.gf.mks,K.gf.shs,K.gf.mkk,K.gf.gls,K.gf.tys,K.gf.blt,K.gf.eqs,K.gf.nes,K.gf.lns,K.gf.ows,K.gf.gds,K.gf.fvs,K.gf.mkp,K.gf.rp⟩⟩⟩
  · have:=(hn y hy).1.2
    rw [e] at this
    simpa using this
  · obtain ⟨hm,hs,hcell⟩:=hV hp e
    refine ⟨by rw [K.N]; exact bQ hs,by unfold Env.kindOf; rw [K.nm]; exact hcell, ?_,look _ hm⟩
    rw [wJ K sc]
    have:=hc p hp
    rw [e] at this
    simpa using this
  · have hx:(jF C sc).lookup x=some .cell:=hx
    have hm:=dD hx
    unfold jF at hm
    obtain ⟨⟨n,kk⟩,hy,e⟩:=List.mem_map.mp hm
    have e':(if (kk == NameKind.free && C.names.lookup n == some NameKind.cell)=true then (n,NameKind.cell) else (n,kk))=(x,NameKind.cell):=e
    split at e'
    · rename_i hcond
      cases e'
      have:kk= .free:=by
        rw [Bool.and_eq_true] at hcond
        exact beq_iff_eq.mp hcond.1
      subst this
      obtain ⟨c,h1,_⟩:=look x hy
      exact ⟨c,tX (fun z=>ncell x z hy) h1⟩
    · cases e'
      obtain ⟨c,h1,_⟩:=zX (n:=C0 + 1) (cl:=clos X.env.cells sc.names []) hy
      exact ⟨c,h1⟩
theorem xM {pos:Pos} {env:Env}:∀ {kws:List Keyword} {ks:List Str},kwN kws=some ks→(backToKw pos (keywordEach kws env)).all (·.1.isSome)=true∧(backToKw pos (keywordEach kws env)).filterMap (·.1)=ks∧(backToKw pos (keywordEach kws env)).any (·.1.isNone)=false∧kws.length=ks.length
  | [],ks,h=>by cases h; exact ⟨rfl,rfl,rfl,rfl⟩
  | ⟨some n,v,p⟩ :: r,ks,h=>by
    unfold kwN at h
    cases e:kwN r with
    | none=>rw [e] at h; cases h
    | some l =>
      rw [e] at h
      cases h
      obtain ⟨a,b,c,d⟩:=xM (pos:=pos) (env:=env) e
      refine ⟨?_, ?_, ?_,by rw [List.length_cons,List.length_cons,d]⟩
      · show (true && (backToKw pos (keywordEach r env)).all (·.1.isSome))=true
        rw [a]; rfl
      · show n :: (backToKw pos (keywordEach r env)).filterMap (·.1)=n :: l
        rw [b]
      · show (false || (backToKw pos (keywordEach r env)).any (·.1.isNone))=false
        rw [c]; rfl
  | ⟨none,v,p⟩ :: r,ks,h=>by cases h
end
structure Snd (E:Ev) (T:Tb) (k:Nat) (n:Nat):Prop where
  e:∀ X C m e c,Kn X E T k C→cE n C m e=some c→JE X E e (wpE T c)
  xe:∀ X C m e c,Kn X E T k C→xE n C m e=some c→JE X E e (wpE T c)
  ze:∀ X C e c,Kn X E T k C→zE n C e=some c→JE X E e (wpE T c)
  xt:∀ X C e c,Kn X E T k C→xT n C e=some c→JT X E e (wpT T c)
  l:∀ X C es c,Kn X E T k C→cL n C es=some c→JA X E es (wpL T c)∧∀ e∈es,bP e=false
  j:∀ X C es c,Kn X E T k C→cJ n C es=some c→JJ X E es (wpJ T c)
  kk:∀ X C ks c,Kn X E T k C→cK n C ks=some c→JK X E ks (wpL T c)
  b:∀ X C op vs c pos,Kn X E T k C→cB n C op vs=some c→JE X E (.BoolOp op vs pos) (wpE T c)
  t:∀ X C e c,Kn X E T k C→cT n C e=some c→JT X E e (wpT T c)
  w:∀ X C op vs c pos,Kn X E T k C→cW n C op vs=some c→JW X E (.BoolOp op vs pos) (wpT T c)
  o:∀ X C o c,Kn X E T k C→cO n C o=some c→JO X E o (wpO T c)
  ts:∀ X C l c,Kn X E T k C→cTs n C l=some c→SM X E l (wpT T c)
  g:∀ X C e c,Kn X E T k C→cG n C e=some c→JG X E e (wpG T c)
  gs:∀ X C es c,Kn X E T k C→cGs n C es=some c→JGs X E es (eV T c)∧∀ e∈es,bP e=false
  i:∀ X C tg e c,Kn X E T k C→cI n C tg e=some c→JI X E tg e (wpI T c)
section
variable {E:Ev} {T:Tb} {k n:Nat}
theorem bnd {α β:Type} {o:Option α} {f:α→Option β} {b:β} (h:o.bind f=some b):∃ a,o=some a∧f a=some b:=Option.bind_eq_some_iff.mp h
theorem fU {pos:Pos} {env:Env}:∀ {es:List Expr},(∀ e∈es,bP e=false)→(backTo pos (starEach es env)).any (·.1)=false
  | [],_=>rfl
  | e :: r,h=>by
    rw [aP (h e (List.mem_cons_self ..))]
    show (false || (backTo pos (starEach r env)).any (·.1))=false
    rw [fU fun x hx=>h x (List.mem_cons_of_mem _ hx)]; rfl
theorem vJ {env:Env}:∀ {es:List Expr},(∀ e∈es,bP e=false)→(assignEach es env).length=es.length∧(assignEach es env).findIdx? (·.1)=none
  | [],_=>⟨rfl,rfl⟩
  | e :: r,h=>by
    obtain ⟨a,b⟩:=vJ (env:=env) (es:=r) fun x hx=>h x (List.mem_cons_of_mem _ hx)
    rw [FA (h e (List.mem_cons_self ..))]
    refine ⟨by rw [List.length_cons,List.length_cons,a], ?_⟩
    rw [List.findIdx?_cons]
    simp only [b]
    rfl
theorem aEe {op op':CmpOp} {b c:Expr} (h:tK c=false):lastMarks [op,op'] [b,c]=false:=by
  show lastMarks [op'] [c]=false
  exact mB h
theorem CT {α:Type} {l:List α} {p:α→Bool} {s:α} (h:l.find? p=some s):s∈l∧p s=true:=⟨List.mem_of_find?_eq_some h,List.find?_some h⟩
theorem jO {x:Str} (h:tD x=true):(x == ("__debug__":Str))=false∧(x == ("__classdict__":Str))=false:=by
  unfold tD at h
  rw [Bool.and_eq_true,Bool.not_eq_true',Bool.not_eq_true'] at h
  exact h
theorem or2 {a b:Bool} (h:¬(a || b)=true):a=false∧b=false:=by cases a <;> cases b <;> simp at h ⊢
theorem aMy:Snd E T k 0:=by
  constructor <;> (intros; rename_i h; first | (unfold zE at h; cases h) | (unfold cJ at h; cases h) | (unfold cE at h; cases h) | (unfold cL at h; cases h) | (unfold cK at h; cases h) | (unfold cB at h; cases h) | (unfold cT at h; cases h) | (unfold cW at h; cases h) | (unfold cO at h; cases h) | (unfold cTs at h; cases h) | (unfold cG at h; cases h) | (unfold cGs at h; cases h) | (unfold cI at h; cases h))
theorem aIs (S:Snd E T k n):∀ X C es c,Kn X E T k C→cL (n + 1) C es=some c→JA X E es (wpL T c)∧∀ e∈es,bP e=false:=by
  intro X C es c K h
  cases es with
  | nil=>unfold cL at h; cases h; exact ⟨aG1,fun e he=>nomatch he⟩
  | cons e r =>
    unfold cL at h
    dsimp only at h
    split at h
    · cases h
    · rename_i hs
      obtain ⟨e',h1,h⟩:=bnd h
      obtain ⟨r',h2,h⟩:=bnd h
      cases h
      have hs:bP e=false:=by simpa using hs
      obtain ⟨a,b⟩:=S.l X C r r' K h2
      refine ⟨aBl (S.e X C false e e' K h1) a (aP hs),fun x hx=>?_⟩
      rcases List.mem_cons.mp hx with z | z
      · rw [z]; exact hs
      · exact b x z
theorem aIi (S:Snd E T k n):∀ X C es c,Kn X E T k C→cJ (n + 1) C es=some c→JJ X E es (wpJ T c):=by
  intro X C es c K h
  cases es with
  | nil=>unfold cJ at h; cases h; exact aGy
  | cons e r =>
    unfold cJ at h
    dsimp only at h
    split at h
    · obtain ⟨e',h1,h⟩:=bnd h
      obtain ⟨r',h2,h⟩:=bnd h
      cases h
      exact aJv (S.e X C false _ e' K h1) (S.j X C r r' K h2) rfl
    · obtain ⟨r',h2,h⟩:=bnd h
      cases h
      exact aHG aAy (S.j X C r r' K h2) rfl
    · cases h
theorem aJD (S:Snd E T k n):∀ X C ks c,Kn X E T k C→cK (n + 1) C ks=some c→JK X E ks (wpL T c):=by
  intro X C ks c K h
  cases ks with
  | nil=>unfold cK at h; cases h; exact WI
  | cons e r =>
    obtain ⟨nm,v,p⟩:=e
    unfold cK at h
    dsimp only at h
    obtain ⟨e',h1,h⟩:=bnd h
    obtain ⟨r',h2,h⟩:=bnd h
    cases h
    exact aB4 (S.e X C false v e' K h1) (S.kk X C r r' K h2)
theorem aIg (S:Snd E T k n):∀ X C op vs c pos,Kn X E T k C→cB (n + 1) C op vs=some c→JE X E (.BoolOp op vs pos) (wpE T c):=by
  intro X C op vs c pos K h
  unfold cB at h
  split at h
  · cases h
  · exact aFu (S.e X C false _ c K h)
  · obtain ⟨a',h1,h⟩:=bnd h
    obtain ⟨b',h2,h⟩:=bnd h
    cases op with
    | And=>cases h; exact aKy K.pl (S.e X C false _ a' K h1) (S.b X C .And _ b' pos K h2)
    | Or=>cases h; exact aJE K.pl (S.e X C false _ a' K h1) (S.b X C .Or _ b' pos K h2)
theorem aJM (S:Snd E T k n):∀ X C op vs c pos,Kn X E T k C→cW (n + 1) C op vs=some c→JW X E (.BoolOp op vs pos) (wpT T c):=by
  intro X C op vs c pos K h
  unfold cW at h
  split at h
  · cases h
  · cases op with
    | And=>exact aGW (S.t X C _ c K h)
    | Or=>exact aH5 (S.t X C _ c K h)
  · obtain ⟨a',h1,h⟩:=bnd h
    obtain ⟨b',h2,h⟩:=bnd h
    cases op with
    | And=>cases h; exact aJw (S.t X C _ a' K h1) (S.w X C .And _ b' pos K h2)
    | Or=>cases h; exact aKv (S.t X C _ a' K h1) (S.w X C .Or _ b' pos K h2)
theorem aJf (S:Snd E T k n):∀ X C o c,Kn X E T k C→cO (n + 1) C o=some c→JO X E o (wpO T c):=by
  intro X C o c K h
  unfold cO at h
  split at h
  · cases h; exact aFx
  · obtain ⟨e',h1,h⟩:=bnd h
    cases h
    exact aBu (S.e X C false _ e' K h1)
theorem aFA (S:Snd E T k n):∀ X C l c,Kn X E T k C→cTs (n + 1) C l=some c→SM X E l (wpT T c):=by
  intro X C l c K h
  unfold cTs at h
  split at h
  · cases h; exact aMJ
  · exact aMW (S.t X C _ c K h)
  · cases h
theorem aKb (S:Snd E T k n):∀ X C e c,Kn X E T k C→cG (n + 1) C e=some c→JG X E e (wpG T c):=by
  intro X C e c K h
  unfold cG at h
  split at h
  · split at h
    · rename_i hl
      obtain ⟨i,h1,h⟩:=bnd h
      cases h
      obtain ⟨a,b⟩:=K.loc hl
      exact DD (by rw [K.N]; exact K.nd) (by rw [K.N]; exact bQ h1) a b
    · cases h
  · obtain ⟨g,h1,h⟩:=bnd h
    cases h
    obtain ⟨a,b⟩:=S.gs X C _ g K h1
    obtain ⟨l1,l2⟩:=vJ (env:=X.env) b
    exact aAF K.pl a l1 l2
  · cases h
theorem aF6 (S:Snd E T k n):∀ X C es c,Kn X E T k C→cGs (n + 1) C es=some c→JGs X E es (eV T c)∧∀ e∈es,bP e=false:=by
  intro X C es c K h
  cases es with
  | nil=>unfold cGs at h; cases h; exact ⟨aBV,fun e he=>nomatch he⟩
  | cons e r =>
    unfold cGs at h
    dsimp only at h
    split at h
    · cases h
    · rename_i hs
      obtain ⟨e',h1,h⟩:=bnd h
      obtain ⟨r',h2,h⟩:=bnd h
      cases h
      have hs:bP e=false:=by simpa using hs
      obtain ⟨a,b⟩:=S.gs X C r r' K h2
      refine ⟨VH (S.g X C e e' K h1) a (by rw [FA hs]; rfl),fun x hx=>?_⟩
      rcases List.mem_cons.mp hx with z | z
      · rw [z]; exact hs
      · exact b x z
theorem aIQ (S:Snd E T k n):∀ X C e c,Kn X E T k C→cT (n + 1) C e=some c→JT X E e (wpT T c):=by
  intro X C e c K h
  unfold cT at h
  split at h
  · rename_i c2 hx
    cases h
    exact S.xt X C e _ K hx
  split at h
  · exact (S.w X C _ _ c _ K h).jt
  · obtain ⟨a',h1,h⟩:=bnd h
    cases h
    exact aKU (S.t X C _ a' K h1)
  · split at h
    · split at h
      · cases h
      · rename_i hs
        obtain ⟨a',h1,h⟩:=bnd h
        obtain ⟨b',h2,h⟩:=bnd h
        cases h
        exact aGG K.pl (mB (by simpa using hs)) (S.e X C false _ a' K h1) (S.e X C false _ b' K h2)
    · split at h
      · cases h
      · rename_i hs
        obtain ⟨a',h1,h⟩:=bnd h
        obtain ⟨b',h2,h⟩:=bnd h
        obtain ⟨c',h3,h⟩:=bnd h
        cases h
        exact aHd K.pl (aEe (by simpa using hs)) (S.e X C false _ a' K h1) (S.e X C false _ b' K h2) (S.e X C false _ c' K h3)
    · cases h
  · obtain ⟨e',h1,h⟩:=bnd h
    cases h
    exact CK K.pl (S.e X C false _ e' K h1) fun _=>rfl
  · obtain ⟨e',h1,h⟩:=bnd h
    cases h
    exact CK K.pl (S.e X C false _ e' K h1) fun _=>rfl
  · obtain ⟨e',h1,h⟩:=bnd h
    cases h
    exact CK K.pl (S.e X C false _ e' K h1) fun _=>rfl
  · obtain ⟨e',h1,h⟩:=bnd h
    cases h
    exact CK K.pl (S.e X C false _ e' K h1) fun _=>rfl
  · cases h
theorem aKi (S : Snd E T k n):∀ X C tg e c,Kn X E T k C→cI (n + 1) C tg e=some c→JI X E tg e (wpI T c):=by
  intro X C tg e c K h
  unfold cI at h
  split at h
  · split at h
    · cases h
    · split at h
      · split at h
        · cases h
        · rename_i hs
          split at h
          · rename_i hx
            split at h
            · rename_i hb
              rw [Bool.and_eq_true] at hb
              obtain ⟨a',h1,h⟩:=bnd h
              cases h
              subst hx
              exact aC4 (K.gl hb.1) (K.gf.blt _ (by simpa using hb.2)) (S.e X C false _ a' K h1) (aP (by simpa using hs))
            · cases h
          · split at h
            · rename_i hx
              split at h
              · split at h
                · rename_i hb
                  rw [Bool.and_eq_true] at hb
                  obtain ⟨a',h1,h⟩:=bnd h
                  cases h
                  subst hx
                  exact aF2 K.pl (K.gl hb.1) (K.gf.blt _ (by simpa using hb.2)) (S.e X C false _ a' K h1) (aP (by simpa using hs))
                · cases h
              · cases h
            · obtain ⟨e',h1,h⟩:=bnd h
              cases h
              exact CN K.pl (S.e X C false _ e' K h1)
      · split at h
        · cases h
        · rename_i hs
          have hs':=or2 hs
          split at h
          · rename_i hx
            split at h
            · rename_i hb
              rw [Bool.and_eq_true] at hb
              obtain ⟨a',h1,h⟩:=bnd h
              obtain ⟨b',h2,h⟩:=bnd h
              cases h
              subst hx
              exact aCf (K.gl hb.1) (K.gf.blt _ (by simpa using hb.2)) (S.e X C false _ a' K h1) (S.e X C false _ b' K h2) (by rw [aP hs'.1,aP hs'.2]; rfl) (aP hs'.2)
            · cases h
          · obtain ⟨e',h1,h⟩:=bnd h
            cases h
            exact CN K.pl (S.e X C false _ e' K h1)
      · obtain ⟨e',h1,h⟩:=bnd h
        cases h
        exact CN K.pl (S.e X C false _ e' K h1)
  · split at h
    · cases h
    · obtain ⟨e',h1,h⟩:=bnd h
      cases h
      exact CN K.pl (S.e X C false _ e' K h1)
theorem aAo (S:Snd E T k n) {X:Cx} {C:Cfg} {x:Str} {p pos:Pos} {e:Expr} {r:List Expr} {es':CE} (K:Kn X E T k C) (hg:glB C x=true) (hc:C.fns.contains x=true∨C.mks.contains x=true) (h:cL n C (e :: r)=some es'):JE X E (.Call (.Name x p) (e :: r) [] pos) (wpE T (.cal x es')):=by
  obtain ⟨a,b⟩:=S.l X C _ es' K h
  have s1:=aP (env:=X.env) (es:=r) (b e (List.mem_cons_self ..))
  have s2:=fU (pos:=pos) (env:=X.env) fun y hy=>b y (List.mem_cons_of_mem _ hy)
  rcases hc with hc | hc
  · obtain ⟨ad,fd,ps,F,hb⟩:=K.gf.fns x (by simpa using hc)
    exact aFg F.ok (K.pl.room.mono (Nat.le_succ _)) (K.gl hg) F.mg F.kp hb F.db a s1 s2
  · obtain ⟨c,xi,ad,fd,ps,F,hb⟩:=K.gf.mks x (by simpa using hc)
    exact aGc F.mkr F.ok K.pl.room (K.gl hg) F.mg hb F.ms F.db a s1 s2
theorem ZQ (S:Snd E T k n) {X:Cx} {C:Cfg} {x:Str} {p pos:Pos} {e:Expr} {r:List Expr} {kws:List Keyword} {ks:List Str} {s:Str×Nat×List Str×List Ar} {es' ks':CE} (K:Kn X E T k C) (hg:glB C x=true) (hk:kwN kws=some ks)
    (hf:C.shs.find? (fun s=>s.1 == x && s.2.1 == (e :: r).length && s.2.2.1 == ks)=some s) (h:cL n C (e :: r)=some es') (h2:JK X E kws (wpL T ks')):JE X E (.Call (.Name x p) (e :: r) kws pos) (wpE T (.cak x es' ks' s.2.2.2)):=by
  obtain ⟨a,b⟩:=S.l X C _ es' K h
  have s1:=aP (env:=X.env) (es:=r) (b e (List.mem_cons_self ..))
  have s2:=fU (pos:=pos) (env:=X.env) (es:=e :: r) b
  obtain ⟨hm,hp⟩:=CT hf
  simp only [Bool.and_eq_true,beq_iff_eq] at hp
  obtain ⟨⟨e1,e2⟩,e3⟩:=hp
  obtain ⟨ad,fd,ps,F,hb⟩:=K.gf.shs s hm
  rw [e1] at F
  obtain ⟨k1,k2,k3,k4⟩:=xM (pos:=pos) (env:=X.env) hk
  exact aGe F.ok (K.pl.room.mono (Nat.le_succ _)) (K.gl hg) F.mg F.kp hb F.db a h2 e2.symm (by rw [e3]; exact k4) k1 (by rw [e3]; exact k2) s1 (by rw [s2,k3]; rfl)
theorem aDQ {X:Cx} {C:Cfg} (K:Kn X E T k C):∀ y∈C.nes,NeM X E T k y.1 y.2:=fun y hy=>⟨K.gf.nes y hy⟩
theorem aFp (S:Snd E T k n):∀ X C e c,Kn X E T k C→zE (n + 1) C e=some c→JE X E e (wpE T c):=by
  intro X C e c K h
  unfold zE at h
  split at h
  · split at h
    · rename_i ks hk
      split at h
      · rename_i hc
        simp only [Bool.and_eq_true,Bool.not_eq_true'] at hc
        obtain ⟨i',h1,h⟩:=bnd h
        cases h
        exact aF3 ⟨K.gf.gds _ (dD hk)⟩ (K.gl hc.1.1) (jO hc.1.2).1 (S.e X C false _ i' K h1) (xH hc.2)
      · cases h
    · cases h
  · split at h
    · rename_i ks hk
      split at h
      · rename_i hc
        simp only [Bool.and_eq_true] at hc
        split at h
        · obtain ⟨a',h1,h⟩:=bnd h
          cases h
          exact WS (neg:=false) rfl ⟨K.gf.gds _ (dD hk)⟩ (K.gl hc.1) (jO hc.2).1 (S.e X C false _ a' K h1)
        · obtain ⟨a',h1,h⟩:=bnd h
          cases h
          exact WS (neg:=true) rfl ⟨K.gf.gds _ (dD hk)⟩ (K.gl hc.1) (jO hc.2).1 (S.e X C false _ a' K h1)
        · cases h
      · cases h
    · cases h
  · split at h
    · rename_i hc
      simp only [Bool.and_eq_true,Bool.not_eq_true',beq_iff_eq,List.isEmpty_iff] at hc
      obtain ⟨⟨⟨⟨⟨c1,c2⟩,c3⟩,c4⟩,c5⟩,c6⟩:=hc
      obtain ⟨e',h1,h⟩:=bnd h
      cases h
      subst c2 c5
      exact aGO K.pl (K.pl.room.gd (by have:=K.gf.rp c1; omega)) (K.gl c3) (K.gf.blt _ (by simpa using c4)) (S.e X C false _ e' K h1) (aP c6)
    split at h
    · rename_i hc
      simp only [Bool.and_eq_true,Bool.not_eq_true'] at hc
      obtain ⟨i,h0,h⟩:=bnd h
      obtain ⟨es',h1,h⟩:=bnd h
      cases h
      obtain ⟨a,b⟩:=S.l X C _ es' K h1
      refine aHb (by rw [K.N]; exact bQ h0) (K.vis hc.2) (jO hc.1.2).1 (jO hc.1.2).2 (K.pl.room.mono (Nat.le_succ _)) (fun y hy=>?_) a (aP (b _ (List.mem_cons_self ..))) ?_
      · rw [List.mem_filter] at hy
        exact ⟨⟨K.gf.fvs y hy.1⟩,beq_iff_eq.mp hy.2⟩
      · rw [fU (pos:=_) (env:=X.env) b]; rfl
    · cases h
  · cases h
theorem aFG (S:Snd E T k n):∀ X C m e c,Kn X E T k C→xE (n + 1) C m e=some c→JE X E e (wpE T c):=by
  intro X C m e c K h
  unfold xE at h
  split at h
  · split at h
    · cases h
    · rename_i hs
      obtain ⟨a',h1,h⟩:=bnd h
      obtain ⟨b',h2,h⟩:=bnd h
      cases h
      simp only [Bool.or_eq_true,not_or,Bool.not_eq_true] at hs
      exact aG8 K.pl (aDQ K) (mB hs.1) (S.e X C false _ a' K h1) (S.e X C false _ b' K h2)
  · cases h
theorem aH9 (S:Snd E T k n):∀ X C e c,Kn X E T k C→xT (n + 1) C e=some c→JT X E e (wpT T c):=by
  intro X C e c K h
  unfold xT at h
  split at h
  · split at h
    · cases h
    · rename_i hs
      obtain ⟨a',h1,h⟩:=bnd h
      obtain ⟨b',h2,h⟩:=bnd h
      cases h
      simp only [Bool.or_eq_true,not_or,Bool.not_eq_true] at hs
      exact aGm K.pl (aDQ K) (mB hs.1) (S.e X C false _ a' K h1) (S.e X C false _ b' K h2)
  · cases h
theorem aKl (S:Snd E T k n):∀ X C m e c,Kn X E T k C→cE (n + 1) C m e=some c→JE X E e (wpE T c):=by
  intro X C m e c K h
  unfold cE at h
  split at h
  · rename_i c2 hx
    cases h
    exact S.ze X C e _ K hx
  split at h
  · rename_i c2 hx
    cases h
    exact S.xe X C m e _ K hx
  split at h
  · -- a name
    split at h
    · rename_i hp
      obtain ⟨d1,d2⟩:=jO hp
      split at h
      · rename_i i hs
        split at h
        · rename_i hv
          cases h
          exact aHI (by rw [K.N]; exact bQ hs) (K.vis hv) d1 d2
        · cases h
      · split at h
        · rename_i hg
          rw [Bool.and_eq_true,Bool.or_eq_true] at hg
          cases h
          rcases hg.2 with hh | hh
          · obtain ⟨u,v,h1,h2,h3⟩:=K.gf.gls _ (by simpa using hh)
            exact aG4 (K.gl hg.1) h1 h2 h3 d1
          · obtain ⟨h1,⟨nn,h2,h3⟩,h4⟩:=K.gf.tys _ (by simpa using hh)
            exact aI3 (K.gl hg.1) h1 h2 h3 h4 d1
        · cases h
    · cases h
  · split at h
    · cases h; exact aGH
    · cases h; exact aKg
    · cases h; exact aHc
    · cases h; exact aAy
    · cases h
  · obtain ⟨a',h1,h⟩:=bnd h
    obtain ⟨b',h2,h⟩:=bnd h
    cases h
    exact aHw K.pl (S.e X C false _ a' K h1) (S.e X C false _ b' K h2)
  · split at h
    · obtain ⟨a',h1,h⟩:=bnd h
      cases h
      exact aF7 (S.e X C false _ a' K h1)
    · obtain ⟨a',h1,h⟩:=bnd h
      cases h
      exact aKN K.pl (S.e X C false _ a' K h1)
    · cases h
  · exact S.b X C _ _ c _ K h
  · split at h
    · split at h
      · cases h
      · rename_i hs
        obtain ⟨a',h1,h⟩:=bnd h
        obtain ⟨b',h2,h⟩:=bnd h
        cases h
        exact aFt K.pl (mB (by simpa using hs)) (S.e X C false _ a' K h1) (S.e X C false _ b' K h2)
    · split at h
      · cases h
      · rename_i hs
        obtain ⟨a',h1,h⟩:=bnd h
        obtain ⟨b',h2,h⟩:=bnd h
        obtain ⟨c',h3,h⟩:=bnd h
        cases h
        exact aG2 K.pl (aEe (by simpa using hs)) (S.e X C false _ a' K h1) (S.e X C false _ b' K h2) (S.e X C false _ c' K h3)
    · cases h
  · obtain ⟨es',h1,h⟩:=bnd h
    cases h
    exact aHT (S.l X C _ es' K h1).1
  · obtain ⟨es',h1,h⟩:=bnd h
    cases h
    exact aHZ (S.l X C _ es' K h1).1
  · split at h
    · obtain ⟨a',h1,h⟩:=bnd h
      obtain ⟨l',h2,h⟩:=bnd h
      obtain ⟨u',h3,h⟩:=bnd h
      cases h
      exact aGd K.pl (S.e X C false _ a' K h1) (S.o X C _ l' K h2) (S.o X C _ u' K h3)
    · obtain ⟨a',h1,h⟩:=bnd h
      cases h
      exact aHK K.pl (S.e X C false _ a' K h1)
    · split at h
      · cases h
      · rename_i hs
        obtain ⟨a',h1,h⟩:=bnd h
        obtain ⟨i',h2,h⟩:=bnd h
        cases h
        exact aFJ K.pl (S.e X C false _ a' K h1) (S.e X C false _ i' K h2) (xH (by simpa using hs))
  · split at h
    · cases h
    · rename_i hs
      obtain ⟨a',h1,h⟩:=bnd h
      cases h
      exact aE8 K.pl (S.e X C false _ a' K h1) (sM (by simpa using hs))
  · split at h
    · split at h
      · rename_i hg
        split at h
        · rename_i b hb
          split at h
          · rename_i hc
            obtain ⟨es',h1,h⟩:=bnd h
            cases h
            obtain ⟨a,st⟩:=S.l X C _ es' K h1
            obtain ⟨b1,b2,b3⟩:=aB9 _ (dD hb)
            split
            · rename_i ls hl
              exact aHo K.pl (fun y hy=>⟨K.gf.ows _ (dD hl) b hb y hy⟩) (K.gl hg) (K.gf.blt _ (by simpa using hc)) b1 b2 b3 a (aP (st _ (List.mem_cons_self ..))) (fU fun y hy=>st y (List.mem_cons_of_mem _ hy))
            exact aHU K.pl (K.gl hg) (K.gf.blt _ (by simpa using hc)) b1 b2 b3 a (aP (st _ (List.mem_cons_self ..))) (fU fun y hy=>st y (List.mem_cons_of_mem _ hy))
          · cases h
        · split at h
          · rename_i s hf
            obtain ⟨es',h1,h⟩:=bnd h
            cases h
            exact ZQ S K hg (ks:=[]) rfl hf h1 WI
          · split at h
            · rename_i hc
              obtain ⟨es',h1,h⟩:=bnd h
              cases h
              rw [Bool.or_eq_true] at hc
              exact aAo S K hg hc h1
            · cases h
      · cases h
    · split at h
      · rename_i hg
        obtain ⟨ks,hk,h⟩:=bnd h
        split at h
        · rename_i s hf
          obtain ⟨es',h1,h⟩:=bnd h
          obtain ⟨ks',h2,h⟩:=bnd h
          cases h
          exact ZQ S K hg hk hf h1 (S.kk X C _ ks' K h2)
        · cases h
      · cases h
    · split at h
      · rename_i hg
        obtain ⟨ks,hk,h⟩:=bnd h
        obtain ⟨k1,k2,k3,k4⟩:=xM (pos:=_) (env:=X.env) hk
        split at h
        · rename_i s hf
          obtain ⟨ks',h2,h⟩:=bnd h
          cases h
          obtain ⟨hm,hp⟩:=CT hf
          simp only [Bool.and_eq_true,beq_iff_eq] at hp
          obtain ⟨⟨e1,e2⟩,e3⟩:=hp
          obtain ⟨ad,fd,ps,F,hb⟩:=K.gf.shs s hm
          rw [e1] at F
          rw [e2] at hb
          exact aBy F.ok (K.pl.room.mono (Nat.le_succ _)) (K.gl hg) F.mg F.kp hb F.db (S.kk X C _ ks' K h2) (by rw [e3]; exact k4) k1 (by rw [e3]; exact k2) (by rw [k3]; rfl)
        · split at h
          · rename_i s hf
            obtain ⟨ks',h2,h⟩:=bnd h
            cases h
            obtain ⟨hm,hp⟩:=CT hf
            simp only [Bool.and_eq_true,beq_iff_eq] at hp
            obtain ⟨e1,e3⟩:=hp
            obtain ⟨c,xi,ad,fd,ps,F,hb⟩:=K.gf.mkk s hm
            rw [e1] at F
            exact aDt F.mkr F.ok K.pl.room (K.gl hg) F.mg hb F.ms F.db (S.kk X C _ ks' K h2) (by rw [e3]; exact k4) k1 (by rw [e3]; exact k2) (by rw [k3]; rfl)
          · cases h
      · cases h
    · split at h
      · rename_i hc
        simp only [Bool.and_eq_true,decide_eq_true_eq,Bool.not_eq_true'] at hc
        obtain ⟨⟨⟨e1,e2⟩,e3⟩,e4⟩:=hc
        obtain ⟨o',h1,h⟩:=bnd h
        obtain ⟨e',h2,h⟩:=bnd h
        cases h
        subst e1
        exact aF4 (S.e X C false _ o' K h1) (S.e X C false _ e' K h2) (sM e2) (aP e3) e4
      · split at h
        · rename_i hc
          simp only [Bool.and_eq_true,decide_eq_true_eq,Bool.not_eq_true'] at hc
          obtain ⟨⟨⟨e1,e2⟩,e3⟩,e4⟩:=hc
          obtain ⟨o',h1,h⟩:=bnd h
          obtain ⟨e',h2,h⟩:=bnd h
          cases h
          subst e1
          exact aGL (S.e X C false _ o' K h1) (S.e X C false _ e' K h2) (sM e2) (aP e3) e4
        · cases h
    · cases h
  · split at h
    · split at h
      · rename_i hb
        rw [Bool.and_eq_true] at hb
        obtain ⟨it',h1,h⟩:=bnd h
        obtain ⟨tg',h2,h⟩:=bnd h
        obtain ⟨ts',h3,h⟩:=bnd h
        obtain ⟨el',h4,h⟩:=bnd h
        cases h
        obtain ⟨cl,B,KB⟩:=K.block hb.1
        exact aBQ B K.pl (S.i X C _ _ it' K h1) (fun C0 s₀ H₀ ex=>S.g _ _ _ tg' (KB C0 s₀ H₀ ex) h2) (fun C0 s₀ H₀ ex=>S.ts _ _ _ ts' (KB C0 s₀ H₀ ex) h3) (fun C0 s₀ H₀ ex=>S.e _ _ false _ el' (KB C0 s₀ H₀ ex) h4) (uH (by simpa using hb.2))
      · cases h
    · cases h
  · obtain ⟨es',h1,h⟩:=bnd h
    cases h
    exact aGA (S.j X C _ es' K h1)
  · cases h
theorem snd:∀ n,Snd E T k n
  | 0=>aMy
  | n + 1=>⟨aKl (snd n),aFG (snd n),aFp (snd n),aH9 (snd n),aIs (snd n),aIi (snd n),aJD (snd n),aIg (snd n),aIQ (snd n),aJM (snd n),aJf (snd n),aFA (snd n),aKb (snd n),aF6 (snd n),aKi (snd n)⟩
end
section
variable {X:Cx} {E:Ev} {T:Tb} {k:Nat} {C:Cfg}
theorem vN (K:Kn X E T k C):X.env.blockKind= .function:=by
  unfold Env.blockKind
  rw [K.kd]; rfl
noncomputable def aCV:Expr→Bool
  | .Tuple .. =>true
  | _=>false
noncomputable def MP:Expr→Bool
  | .Tuple vs _ _=> !(vs.all (foldedForSure 8))
  | _=>false
theorem aHj {ts:List Expr} {kt:Nat} {pt:Pos} {value:Expr} {env:Env} (h:aCV value=false):swappedStores [.Tuple ts kt pt] value env=pure none:=by
  cases value <;> first | rfl | (cases h)
theorem aBI {ts vs:List Expr} {kt kv:Nat} {pt pv:Pos} {env:Env} (h:vs.all (foldedForSure 8)=true):swappedStores [.Tuple ts kt pt] (.Tuple vs kv pv) env=pure none:=by
  unfold swappedStores
  dsimp only
  split
  · rfl
  · split
    · rfl
    · split
      · rfl
      · first | rfl | rw [if_pos h]
theorem aAY {ts:List Expr} {kt:Nat} {pt:Pos} {v:Expr} {env:Env} (h:¬MP v=true):swappedStores [.Tuple ts kt pt] v env=pure none:=by
  cases v with
  | Tuple vs kv pv =>
    refine aBI ?_
    cases e:vs.all (foldedForSure 8) with
    | true=>rfl
    | false=>exact absurd (show (!(vs.all (foldedForSure 8)))=true by rw [e]; rfl) h
  | _=>exact aHj rfl
theorem aGv (K:Kn X E T k C) {x y:Str} {px py pt pt2:Pos} {kt k2:Nat} {a b:Expr} (hx:C.names.lookup x=some .local) (hy:C.names.lookup y=some .local) (hl:py.line=px.line) (hne:x≠y) (sa:bP a=false) (sb:bP b=false)
    (nf: [a,b].all (foldedForSure 8)=false) (nc: [a,b].all (constantsAlone 8)=false):swappedStores [.Tuple [.Name x px,.Name y py] kt pt] (.Tuple [a,b] k2 pt2) X.env=pure (some [x,y]):=by
  unfold swappedStores
  dsimp only
  have kx:(X.env.kindOf x == some .local)=true:=by unfold Env.kindOf; rw [K.nm,hx]; rfl
  have ky:(X.env.kindOf y == some .local)=true:=by unfold Env.kindOf; rw [K.nm,hy]; rfl
  have e:∀ e:Expr,bP e=false→(match e with | .Starred .. =>true | _=>false)=false:=fun e h=>by cases e <;> first | rfl | (cases h)
  have c1:(!([Expr.Name x px,Expr.Name y py].length == 2 || [Expr.Name x px,Expr.Name y py].length == 3) || [a,b].length != [Expr.Name x px,Expr.Name y py].length || X.env.blockKind != ScopeKind.function)=false:=by
    rw [vN K]; rfl
  rw [if_neg (by rw [c1]; exact Bool.false_ne_true)]
  have nm:([x,y]:List Str).eraseDups.length=2:=by
    have hb:(y == x)=false:=beq_eq_false_iff_ne.mpr (Ne.symm hne)
    simp [List.eraseDups_cons,hb]
  split
  · rename_i h2
    exfalso
    simp only [List.any_cons,List.any_nil,Bool.or_false,Bool.or_eq_true] at h2
    rcases h2 with h2 | h2
    · cases a <;> first | (cases h2; done) | (cases sa)
    · cases b <;> first | (cases h2; done) | (cases sb)
  · simp only [List.filterMap_cons,List.filterMap_nil,kx,ky,List.head?_cons,Option.map_some,Option.getD_some,Bool.true_and,Expr.pos,hl,beq_self_eq_true,if_true,List.length_cons,List.length_nil,nm,nf,nc]
    rfl
theorem aDi (K:Kn X E T k C) {x y z:Str} {px py pz pt pt2:Pos} {kt k2:Nat} {a b c:Expr} (hx:C.names.lookup x=some .local) (hy:C.names.lookup y=some .local) (hz:C.names.lookup z=some .local) (hl:py.line=px.line) (hl2:pz.line=px.line) (hne:x≠y) (hne2:x≠z) (hne3:y≠z) (sa:bP a=false) (sb:bP b=false) (sc:bP c=false)
    (nf: [a,b,c].all (foldedForSure 8)=false) (nc: [a,b,c].all (constantsAlone 8)=false):swappedStores [.Tuple [.Name x px,.Name y py,.Name z pz] kt pt] (.Tuple [a,b,c] k2 pt2) X.env=pure (some [x,y,z]):=by
  unfold swappedStores
  dsimp only
  have kx:(X.env.kindOf x == some .local)=true:=by unfold Env.kindOf; rw [K.nm,hx]; rfl
  have ky:(X.env.kindOf y == some .local)=true:=by unfold Env.kindOf; rw [K.nm,hy]; rfl
  have kz:(X.env.kindOf z == some .local)=true:=by unfold Env.kindOf; rw [K.nm,hz]; rfl
  have c1:(!([Expr.Name x px,Expr.Name y py,Expr.Name z pz].length == 2 || [Expr.Name x px,Expr.Name y py,Expr.Name z pz].length == 3) || [a,b,c].length != [Expr.Name x px,Expr.Name y py,Expr.Name z pz].length || X.env.blockKind != ScopeKind.function)=false:=by
    rw [vN K]; rfl
  rw [if_neg (by rw [c1]; exact Bool.false_ne_true)]
  have nm:([x,y,z]:List Str).eraseDups.length=3:=by
    have hb:(y == x)=false:=beq_eq_false_iff_ne.mpr (Ne.symm hne)
    have hb2:(z == x)=false:=beq_eq_false_iff_ne.mpr (Ne.symm hne2)
    have hb3:(z == y)=false:=beq_eq_false_iff_ne.mpr (Ne.symm hne3)
    simp [List.eraseDups_cons,hb,hb2,hb3]
  split
  · rename_i h2
    exfalso
    simp only [List.any_cons,List.any_nil,Bool.or_false,Bool.or_eq_true] at h2
    rcases h2 with h2 | h2 | h2
    · cases a <;> first | (cases h2; done) | (cases sa)
    · cases b <;> first | (cases h2; done) | (cases sb)
    · cases c <;> first | (cases h2; done) | (cases sc)
  · simp only [List.filterMap_cons,List.filterMap_nil,kx,ky,kz,List.head?_cons,Option.map_some,Option.getD_some,Bool.true_and,Expr.pos,hl,hl2,beq_self_eq_true,if_true,List.length_cons,List.length_nil,nm,nf,nc]
    rfl
theorem DS {N:List Str} {x y:Str} {i j:Nat} (h1:slot N x=some i) (h2:slot N y=some j) (hne:x≠y):i≠j:=fun e=>by
  subst e
  have a1:=bQ h1
  have a2:=bQ h2
  rw [a1] at a2
  exact hne (Option.some.inj a2)
noncomputable def aIu (C:Cfg):Expr→Bool
  | .Name x _=> !(C.names.lookup x == some .local)
  | _=>false
theorem aES {α β:Type} {f:α→Option β}:∀ {l:List α},(∃ x∈l,f x=none)→(l.filterMap f).length < l.length
  | [],⟨_,h,_⟩=>nomatch h
  | a :: r,⟨x,h,e⟩=>by
    have le:(r.filterMap f).length≤r.length:=List.length_filterMap_le ..
    rcases List.mem_cons.mp h with z | z
    · subst z
      rw [List.filterMap_cons_none e,List.length_cons]; omega
    · have:=aES ⟨x,z,e⟩
      cases ea:f a with
      | none=>rw [List.filterMap_cons_none ea,List.length_cons]; omega
      | some b=>rw [List.filterMap_cons_some ea,List.length_cons,List.length_cons]; omega
theorem aF8 (K:Kn X E T k C) {ts:List Expr} {kt:Nat} {pt:Pos} {v:Expr} (hv:aCV v=true) (h:ts.any (aIu C)=true):swappedStores [.Tuple ts kt pt] v X.env=pure none:=by
  cases v with
  | Tuple vs kv pv =>
    unfold swappedStores
    dsimp only
    split
    · rfl
    · split
      · rfl
      · rw [if_pos ?_]
        obtain ⟨x,hx,hc⟩:=List.any_eq_true.mp h
        rw [Bool.or_eq_true]
        refine .inl ?_
        rw [bne_iff_ne]
        refine Nat.ne_of_lt (aES ⟨x,hx, ?_⟩)
        cases x with
        | Name y p =>
          dsimp only
          rw [if_neg]
          intro z
          rw [Bool.and_eq_true] at z
          have e1:X.env.kindOf y=C.names.lookup y:=by unfold Env.kindOf; rw [K.nm]
          rw [e1] at z
          have hc:(!(C.names.lookup y == some NameKind.local))=true:=hc
          rw [z.1] at hc
          cases hc
        | _=>cases hc
  | _=>cases hv
noncomputable def XF (C:Cfg):Expr→Bool
  | .ListComp .. =>true
  | .List .. =>true
  | .Name x _=>C.ls.contains x
  | _=>false
noncomputable def yS (n:Nat) (C:Cfg) (s:Stmt):Option CS:=match s with
  | .Assign [.Tuple gs kt pt] v pos=>if XF C v then (cE n C false v).bind fun v'=>(cGs n C gs).bind fun g'=>some (.asg (.gl gs.length g') v')
      else if aCV v && gs.any (aIu C) then (cE n C false v).bind fun v'=>(cGs n C gs).bind fun g'=>some (.asg (.gt gs.length g') v') else none
  | .Assign [.Name x px] (.ListComp elt gens sc vp) pos=>if ZS C x && C.names.lookup x == some .cell then (slot C.N x).bind fun i=>(cE n C (C.M.contains x) (.ListComp elt gens sc vp)).bind fun v'=>some (.asg (.gn i) v') else none
  | _=>none
theorem MJ {X:Cx} {E:Ev} {T:Tb} {k:Nat} {C:Cfg} (K:Kn X E T k C) {x:Str} {px vp:Pos} {l:Nat} {elt:Expr} {gens:List Comprehension} {sc:Scope} (c3:(C.names.lookup x == some .cell)=true) :
    swapsWithSole [.Name x px] (.ListComp elt gens sc vp) l X.env=pure false:=by
  unfold swapsWithSole swapsWith
  dsimp only
  have e1:X.env.kindOf x=C.names.lookup x:=by unfold Env.kindOf; rw [K.nm]
  rw [vN K,e1,beq_iff_eq.mp c3]
  rfl
mutual
noncomputable def cS:Nat→Cfg→Stmt→Option CS
  | 0,_,_=>none
  | n + 1,C,s=>match yS n C s with
  | some c=>some c
  | none => match s with
    | .Expr e _=>(match e with
      | .Constant (.str _) _ _=>some .nil
      | e=>if wW e then none else (cE n C false e).bind fun e'=>some (.ex e'))
    | .Pass _=>some .nil
    | .Raise .. =>some .nev
    | .Return o _=>(match o with
      | none=>some .retN
      | some e=>(cE n C C.rm e).bind fun e'=>some (.ret e'))
    | .If c a b _=>(cT n C c).bind fun c'=>(cSs n C a).bind fun a'=>(cSs n C b).bind fun b'=>some (.iff c' a' b')
    | .While c b o _=>(match o with
      | []=>(cT n C c).bind fun c'=>some (.wh c' ((cSs n C b).getD .nev))
      | _=>none)
    | .For tg it b o _=>(match o with
      | []=>if tK it then none else (cI n C tg it).bind fun i'=>(cG n C tg).bind fun g'=>(cSs n C b).bind fun b'=>some (.fr g' i' b')
      | _=>none)
    | .Assign ts v pos=>(match ts with
      | [.Name x px]=>if ZS C x then (slot C.N x).bind fun i=>(match v with
          | .ListComp elt gens sc vp=>(match gens with
            | [⟨tg,iter,ifs,0⟩]=>if OD C sc && !tK iter && C.names.lookup x == some .local && px.line == vp.line && !(sc.names.any fun y=>y.1 == x && (y.2 == .local || y.2 == .cell)) then
                (cI n C tg iter).bind fun it'=>(cG n (JP C sc) tg).bind fun tg'=>(cTs n (JP C sc) ifs).bind fun ts'=>(cE n (JP C sc) false elt).bind fun el'=>some (.asg (.gn i) (.cmpr (C.M.contains x) tg' it' ts' el' ((nG C sc.names).map (·.2))))
              else none
            | _=>none)
          | v=>if wW v then none else (cE n C (C.M.contains x) v).bind fun v'=>some (.asg (.gn i) v')) else none
      | [.Attribute o f _]=>if wW v then none else (cE n C false o).bind fun o'=>(cE n C false v).bind fun v'=>some (.fld o' f v')
      | [.Subscript o i _]=>if wW v || WT i then none else (cE n C false o).bind fun o'=>(cE n C false i).bind fun i'=>(cE n C false v).bind fun v'=>some (.sub o' i' v')
      | [.Tuple gs kt pt]=>if MP v then (match gs,v with
          | [.Name x px,.Name y py],.Tuple [a,b] _ _=>if C.names.lookup x == some .local && C.names.lookup y == some .local && py.line == px.line && x != y && !bP a && !bP b && !([a,b].all (constantsAlone 8)) then
              (slot C.N x).bind fun i=>(slot C.N y).bind fun j=>(cE n C false a).bind fun a'=>(cE n C false b).bind fun b'=>some (.par i j a' b') else none
          | [.Name x px,.Name y py,.Name z pz],.Tuple [a,b,c] _ _=>if C.names.lookup x == some .local && C.names.lookup y == some .local && C.names.lookup z == some .local && py.line == px.line && pz.line == px.line && x != y && x != z && y != z && !bP a && !bP b && !bP c && !([a,b,c].all (constantsAlone 8)) then
              (slot C.N x).bind fun i=>(slot C.N y).bind fun j=>(slot C.N z).bind fun l=>(cE n C false a).bind fun a'=>(cE n C false b).bind fun b'=>(cE n C false c).bind fun c'=>some (.par3 i j l a' b' c') else none
          | _,_=>none)
        else if wW v then none else (cE n C false v).bind fun v'=>(cG n C (.Tuple gs kt pt)).bind fun g'=>some (.asg g' v')
      | _=>none)
    | _=>none
noncomputable def cSs:Nat→Cfg→List Stmt→Option CS
  | 0,_,_=>none
  | n + 1,C,l=>match l with
    | []=>some .nil
    | [s]=>cS n C s
    | s :: t :: r=>(cS n C s).bind fun s'=>(cSs n C (t :: r)).bind fun r'=>some (.seq s' r')
end
theorem tY {e:Expr} {t:Option Expr} {l:Nat} {env:Env} (h:wW e=false):swapsWith e t l env=pure false:=by
  cases e <;> first | rfl | (cases h)
theorem HZ (K:Kn X E T k C) {x:Str} {px vp:Pos} {l:Nat} {elt:Expr} {gens:List Comprehension} {sc:Scope} (c3:(C.names.lookup x == some .local)=true) (c4:(px.line == vp.line)=true) (c5:(!(sc.names.any fun y=>y.1 == x && (y.2 == .local || y.2 == .cell)))=true) :
    swapsWith (.ListComp elt gens sc vp) (some (.Name x px)) l X.env=pure true:=by
  unfold swapsWith
  dsimp only
  have e1:X.env.kindOf x=C.names.lookup x:=by unfold Env.kindOf; rw [K.nm]
  rw [vN K,e1,c3]
  have e2:(!(sc.names.any fun (n,k)=>n == x && (k == .local || k == .cell)))=true:=by rw [←c5]
  show pure (true && true && (px.line == vp.line) && !(sc.names.any fun (n,k)=>n == x && (k == .local || k == .cell)))=pure true
  rw [c4,e2]; rfl
theorem oO {e t:Expr} {l:Nat} {env:Env} (h:wW e=false):swapsWithSole [t] e l env=pure false:=tY h
theorem aDp {o i:Expr} {pos':Pos} {env:Env} (h:WT i=false) (v:Value):assign (.Subscript o i pos') env v=(do
      let ov ←holding [v] (eval o env)
      let iv ←holding [v,ov] (eval i env)
      standAt pos'
      holding [v,ov,iv] (setItem ov iv v)
      release [v,ov,iv] []):=by
  cases i <;> first | rfl | (cases h)
theorem PC {gs:List Expr} {kt:Nat} {pt:Pos} {v:Expr} {l:Nat} {env:Env} (h:XF C v=true):swapsWithSole [.Tuple gs kt pt] v l env=pure false:=by
  cases v <;> first | rfl | (cases h)
theorem aAJ {gs:List Expr} {kt:Nat} {pt:Pos} {v:Expr} {l:Nat} {env:Env} (h:aCV v=true):swapsWithSole [.Tuple gs kt pt] v l env=pure false:=by
  cases v <;> first | rfl | (cases h)
theorem aA4 {v:Expr} (h:XF C v=true):¬MP v=true:=by
  cases v <;> first | (intro z; cases z; done) | (cases h)
structure Sns (E:Ev) (T:Tb) (k:Nat) (n:Nat):Prop where
  s:∀ X C s c,Kn X E T k C→cS n C s=some c→JS X E s (wpS T c)
  ss:∀ X C s c,Kn X E T k C→cSs n C s=some c→JSs X E s (wpS T c)
theorem aHV {n:Nat} (S:Sns E T k n):∀ X C l c,Kn X E T k C→cSs (n + 1) C l=some c→JSs X E l (wpS T c):=by
  intro X C l c K h
  unfold cSs at h
  split at h
  · cases h; exact aGx
  · exact aIa (S.s X C _ c K h)
  · obtain ⟨s',h1,h⟩:=bnd h
    obtain ⟨r',h2,h⟩:=bnd h
    cases h
    exact aGh (S.s X C _ s' K h1) (S.ss X C _ r' K h2)
theorem aIj {n:Nat} (S:Sns E T k n):∀ X C l c,Kn X E T k C→cS (n + 1) C l=some c→JS X E l (wpS T c):=by
  intro X C l c K h
  have R:Snd E T k n:=snd n
  unfold cS at h
  split at h
  · rename_i c2 hx
    cases h
    unfold yS at hx
    split at hx
    · split at hx
      · rename_i hl
        obtain ⟨v',h1,hx⟩:=bnd hx
        obtain ⟨g',h2,hx⟩:=bnd hx
        cases hx
        obtain ⟨ga,gb⟩:=R.gs X C _ g' K h2
        obtain ⟨l1,l2⟩:=vJ (env:=X.env) gb
        exact xG (R.e X C _ _ v' K h1) (aHH K.pl ga l1 l2) (PC hl) (aAY (aA4 hl)) rfl
      · split at hx
        · rename_i hl
          obtain ⟨hl1,hl2⟩:=Bool.and_eq_true_iff.mp hl
          obtain ⟨v',h1,hx⟩:=bnd hx
          obtain ⟨g',h2,hx⟩:=bnd hx
          cases hx
          obtain ⟨ga,gb⟩:=R.gs X C _ g' K h2
          obtain ⟨l1,l2⟩:=vJ (env:=X.env) gb
          exact xG (R.e X C _ _ v' K h1) (aAF K.pl ga l1 l2) (aAJ hl1) (aF8 K hl1 hl2) rfl
        · cases hx
    · split at hx
      · rename_i hc
        obtain ⟨c1,c2⟩:=Bool.and_eq_true_iff.mp hc
        obtain ⟨l1,l2⟩:=K.loc c1
        obtain ⟨i,h1,hx⟩:=bnd hx
        obtain ⟨v',h2,hx⟩:=bnd hx
        cases hx
        exact xG (R.e X C _ _ v' K h2) (DD (by rw [K.N]; exact K.nd) (by rw [K.N]; exact bQ h1) l1 l2) (MJ K c2) rfl rfl
      · cases hx
    · cases hx
  split at h
  · split at h
    · cases h; exact aGa
    · split at h
      · cases h
      · rename_i hc
        obtain ⟨e',h1,h⟩:=bnd h
        cases h
        exact aIE (R.e X C false _ e' K h1) (tY (by simpa using hc))
  · cases h; exact aCI
  · cases h; exact aFY
  · split at h
    · cases h; exact aBW
    · obtain ⟨e',h1,h⟩:=bnd h
      cases h
      exact aFw (R.e X C C.rm _ e' K h1)
  · obtain ⟨c',h1,h⟩:=bnd h
    obtain ⟨a',h2,h⟩:=bnd h
    obtain ⟨b',h3,h⟩:=bnd h
    cases h
    exact aIX (R.t X C _ c' K h1) (S.ss X C _ a' K h2) (S.ss X C _ b' K h3)
  · split at h
    · obtain ⟨c',h1,h⟩:=bnd h
      cases h
      refine aIV K.ps (R.t X C _ c' K h1) ?_
      cases h2:cSs n C _ with
      | none=>exact aCv
      | some b'=>exact S.ss X C _ b' K h2
    · cases h
  · split at h
    · split at h
      · cases h
      · rename_i hs
        obtain ⟨i',h1,h⟩:=bnd h
        obtain ⟨g',h2,h⟩:=bnd h
        obtain ⟨b',h3,h⟩:=bnd h
        cases h
        exact aGu K.pl K.ps (R.i X C _ _ i' K h1) (R.g X C _ g' K h2) (S.ss X C _ b' K h3) (uH (by simpa using hs))
    · cases h
  · split at h
    · split at h
      · rename_i hl
        obtain ⟨i,h1,h⟩:=bnd h
        obtain ⟨l1,l2⟩:=K.loc hl
        split at h
        · split at h
          · split at h
            · rename_i hc
              rw [Bool.and_eq_true,Bool.and_eq_true,Bool.and_eq_true,Bool.and_eq_true] at hc
              obtain ⟨⟨⟨⟨c1,c2⟩,c3⟩,c4⟩,c5⟩:=hc
              obtain ⟨it',g1,h⟩:=bnd h
              obtain ⟨tg',g2,h⟩:=bnd h
              obtain ⟨ts',g3,h⟩:=bnd h
              obtain ⟨el',g4,h⟩:=bnd h
              cases h
              obtain ⟨cl,B,KB⟩:=K.block c1
              refine aCk B K.pl (by rw [K.N]; exact K.nd) (by rw [K.N]; exact bQ h1) (by rw [K.nm]; exact beq_iff_eq.mp c3) (R.i X C _ _ it' K g1) (fun C0 s₀ H₀ ex=>R.g _ _ _ tg' (KB C0 s₀ H₀ ex) g2) (fun C0 s₀ H₀ ex=>R.ts _ _ _ ts' (KB C0 s₀ H₀ ex) g3) (fun C0 s₀ H₀ ex=>R.e _ _ false _ el' (KB C0 s₀ H₀ ex) g4) ?_ (uH (by simpa using c2))
              exact HZ K c3 c4 c5
            · cases h
          · cases h
        · split at h
          · cases h
          · rename_i hc
            obtain ⟨v',h2,h⟩:=bnd h
            cases h
            exact xG (R.e X C _ _ v' K h2) (DD (by rw [K.N]; exact K.nd) (by rw [K.N]; exact bQ h1) l1 l2) (oO (by simpa using hc)) rfl rfl
      · cases h
    · split at h
      · cases h
      · rename_i hc
        obtain ⟨o',h1,h⟩:=bnd h
        obtain ⟨v',h2,h⟩:=bnd h
        cases h
        exact aFf K.pl (R.e X C _ _ o' K h1) (R.e X C _ _ v' K h2) (tY (by simpa using hc))
    · split at h
      · cases h
      · rename_i hc
        obtain ⟨hc1,hc2⟩:=or2 hc
        obtain ⟨o',h1,h⟩:=bnd h
        obtain ⟨i',h2,h⟩:=bnd h
        obtain ⟨v',h3,h⟩:=bnd h
        cases h
        exact aFL (R.e X C _ _ v' K h3) (R.e X C _ _ o' K h1) (R.e X C _ _ i' K h2) (aDp hc2) (oO hc1) rfl
    · split at h
      · split at h
        · split at h
          · rename_i hc
            simp only [Bool.and_eq_true,Bool.not_eq_true',beq_iff_eq,bne_iff_ne,ne_eq] at hc
            obtain ⟨⟨⟨⟨⟨⟨c1,c2⟩,c3⟩,c4⟩,c5⟩,c6⟩,c7⟩:=hc
            obtain ⟨i,g1,h⟩:=bnd h
            obtain ⟨j,g2,h⟩:=bnd h
            obtain ⟨a',g3,h⟩:=bnd h
            obtain ⟨b',g4,h⟩:=bnd h
            cases h
            have ij:i≠j:=fun e=>by
              subst e
              have a1:=bQ g1
              have a2:=bQ g2
              rw [a1] at a2
              exact c4 (Option.some.inj a2)
            exact aGb K.pl (by rw [K.N]; exact K.nd) (by rw [K.N]; exact bQ g1) (by rw [K.N]; exact bQ g2) ij (by rw [K.nm]; exact c1) (by rw [K.nm]; exact c2) (R.e X C _ _ a' K g3) (R.e X C _ _ b' K g4) (aP c5) (aP c6) (aGv K c1 c2 c3 c4 c5 c6 (by have hf:= ‹MP _=true›; unfold MP at hf; exact Bool.not_eq_true' _▸hf) c7) rfl
          · cases h
        · split at h
          · rename_i hc
            simp only [Bool.and_eq_true,Bool.not_eq_true',beq_iff_eq,bne_iff_ne,ne_eq] at hc
            obtain ⟨⟨⟨⟨⟨⟨⟨⟨⟨⟨⟨c1,c2⟩,c3⟩,c4⟩,c5⟩,c6⟩,c7⟩,c8⟩,c9⟩,c10⟩,c11⟩,c12⟩:=hc
            obtain ⟨i,g1,h⟩:=bnd h
            obtain ⟨j,g2,h⟩:=bnd h
            obtain ⟨l,g3,h⟩:=bnd h
            obtain ⟨a',g4,h⟩:=bnd h
            obtain ⟨b',g5,h⟩:=bnd h
            obtain ⟨c',g6,h⟩:=bnd h
            cases h
            exact aCD K.pl (by rw [K.N]; exact K.nd) (by rw [K.N]; exact bQ g1) (by rw [K.N]; exact bQ g2) (by rw [K.N]; exact bQ g3) (DS g1 g2 c6) (DS g1 g3 c7) (DS g2 g3 c8) (by rw [K.nm]; exact c1) (by rw [K.nm]; exact c2) (by rw [K.nm]; exact c3) (R.e X C _ _ a' K g4) (R.e X C _ _ b' K g5) (R.e X C _ _ c' K g6) (aP c9) (aP c10) (aP c11)
              (aDi K c1 c2 c3 c4 c5 c6 c7 c8 c9 c10 c11 (by have hf:= ‹MP _=true›; unfold MP at hf; exact Bool.not_eq_true' _▸hf) c12) rfl
          · cases h
        · cases h
      · rename_i hf
        split at h
        · cases h
        · rename_i hc
          obtain ⟨v',h1,h⟩:=bnd h
          obtain ⟨g',h2,h⟩:=bnd h
          cases h
          exact xG (R.e X C _ _ v' K h1) (R.g X C _ g' K h2) (oO (by simpa using hc)) (aAY hf) rfl
    · cases h
  · cases h
theorem sns:∀ n,Sns E T k n
  | 0=>⟨(fun X C s c K h=>by unfold cS at h; cases h),(fun X C s c K h=>by unfold cSs at h; cases h)⟩
  | n + 1=>⟨aIj (sns n),aHV (sns n)⟩
end
structure bA (K:W.Frag) (x qual:Str) (st:Stmt) (dV:Value) (f:Addr) (fd:FuncData):Prop where
  ex :∃ (oc:Value) (od:Option Addr) (kV doc pm:Value) (an:Option Addr) (cdv ct:Value) (osl:Array (Option Value)),
    fd=W.fnOf x qual (gA st) (aB st) (aA st) dV kV doc pm an cdv ct∧K.lookup f=some ⟨oc,od,.func fd,osl⟩∧W.codeIn K cdv qual=true
  kp:W.keepIn K (.ref f)=true
noncomputable def Wk (Q:PK1):PK1:=fun x G=>∃ G2:Gh,(∀ a o,G2 a=some o→G a=some o)∧(Q x G2∨∃ p xs,x= .ref p∧G2 p=none∧G p=some (.lst xs)∧Q (.lst xs) G2)
theorem Wk.here {Q:PK1} {x:PV} {G:Gh} (q:Q x G):Wk Q x G:=⟨G,fun _ _ z=>z,.inl q⟩
theorem Wk.of {Q:PK1} {x:PV} {G G2:Gh} (q:Q x G2) (h:∀ a o,G2 a=some o→G a=some o):Wk Q x G:=⟨G2,h,.inl q⟩
theorem Wk.frz {Q:PK1} {p:Addr} {xs:List PV} {G G2:Gh} (hG:G p=some (.lst xs)) (q:Q (.lst xs) G2) (h:∀ a o,G2 a=some o→G a=some o) (n:G2 p=none):Wk Q (.ref p) G:=⟨G2,h,.inr ⟨p,xs,rfl,n,hG,q⟩⟩
theorem YC {E:Ev} {F Z Z1 H1:Hp} {G1:Gh} {Q':PK1} {Q:VK} {y:PV} {v:V} (kq:Kq E F Z Q' Q) (s1:aQ Z Z1) (S1:Sim E F H1 Z1 G1) (r1:RP E Z1 y v) (w:Wk Q' y G1):Q v H1:=by
  obtain ⟨G2,hG,q1 | ⟨p,xs,e,n,hp,q1⟩⟩:=w
  · exact kq _ _ _ _ _ s1 (S1.weak hG) r1 q1
  · subst e
    have e:v= .ref p:=r1
    subst e
    obtain ⟨z,o',ho,vs,e,t⟩:=S1.g _ _ hp
    subst e
    refine kq _ _ _ _ _ (s1.trans (dG z _)) ((S1.frz hp ho).weak fun a o q=>?_) (jZ z t) q1
    by_cases ea:a=p
    · subst ea; rw [n] at q; cases q
    · rw [BN ea]; exact hG a o q
noncomputable def aJ (Q:PK1):dF:=⟨fun _ G=>Wk Q .non G,Wk Q,fun _ _=>False,fun _ _=>False⟩
structure aM (st:Stmt) (ps:List Str) (C:Cfg):Prop where
  sc:vH C.N ps (aA st)
  nm:(aA st).names=C.names
  bk:C.blk=false
structure Ck (K:W.Frag) (E:Ev) (T:Tb):Prop where
  hK:E.K=K
  cls:VX E T.cs
  fld:∀ c f,(c,f)∈T.fl→Cls K (E.cls c)∧gR K (E.cls c) f
theorem aN {P:Program} {w:World} {K:W.Frag} {mg:Str→Option Value} {base:Heap} {E:Ev} {T:Tb} {k n:Nat} {C:Cfg} {x qual:Str} {st:Stmt} {dV:Value} {f:Addr} {fd:FuncData} {ps:List Str} {sp:Sp3} {code:CS}
    (F:bA K x qual st dV f fd) (D:aM st ps C) (ck:Ck K E T) (gf:Gf P w K mg base E T k C) (hc:cSs n C (aB st)=some code)
    (len:∀ xs G Q,sp xs G Q→xs.length=ps.length) (hw:∀ xs G Q,sp xs G Q→wpS T code (aJ Q) (aC C.N.length xs) G):bS P w K mg base CX0 (k + 2) f fd ps (fW E sp):=by
  obtain ⟨oc,od,kV,doc,pm,an,cdv,ct,osl,e,lk,hcd⟩:=F.ex
  subst e
  refine aEh lk hcd D.sc (fun vs H Q E' ⟨xs,Z,G,F',Q',r,S,q,kq⟩=>by rw [←r.length]; exact len xs G Q' q) fun A outer s H vs Q E' hr hsp=>?_
  obtain ⟨xs,Z,G,F',Q',r,S,q,kq⟩:=hsp
  have kn:Kn (MN CX0 P w K mg base C.N qual (aA st) f cdv A outer s H E').nox E T k C:=by
    refine ⟨⟨ck.hK,rfl,hr,ck.cls,ck.fld⟩,rfl,D.sc.nd,D.nm,D.sc.kind,fun _ _=>rfl,fun y hy=>?_,PassesOwn.never,gf⟩
    exact xP (n:=s.heap.objs.size + 1) (by rw [D.nm]; exact hy)
  have js:=(sns n).ss _ C _ code kn hc F'
  refine ⟨_,js.nox,aC C.N.length xs,Z,G,aJ Q',RSt.start r,S,hw xs G Q' q,⟨?_, ?_, ?_, ?_⟩⟩
  · rintro σ1 σ2 Z1 G1 H1 s1 S1 rs1 w
    exact YC kq s1 S1 tF w
  · rintro y v Z1 G1 H1 s1 S1 r1 w
    exact YC kq s1 S1 r1 w
  · rintro σ1 σ2 Z1 G1 H1 s1 S1 rs1 z; exact z
  · rintro σ1 σ2 Z1 G1 H1 s1 S1 rs1 z; exact z
noncomputable def CP:Sp3:=fun xs G Q=>∃ ns:List Int,xs=[.scr ns]∧ns.length≤63∧∀ G',Q (.bl true) G'
noncomputable def OB (K:W.Frag):Sp:=fun vs H Q _=>∃ (p:Addr) (ns:List Int),vs=[.ref p]∧SqL K H p (ns.map V.int)∧ns.length≤63∧∀ H',Q (.bl true) H'
theorem aHF {E:Ev} {vs:List V} {H:Hp} {Q:VK} {X:XK} (h:OB E.K vs H Q X):fW E CP vs H Q X:=by
  obtain ⟨p,ns,e,hS,hl,q⟩:=h
  subst e
  refine ⟨[.scr ns],H,fun _=>none,fun _=>none,fun x _=>x= .bl true,⟨.ref p,[],rfl,⟨p,rfl,hS⟩,rfl⟩,⟨aQ.refl H,(fun a o z=>nomatch z),(fun a o z=>nomatch z)⟩,⟨ns,rfl,hl,fun _=>rfl⟩, ?_⟩
  intro x v Z1 G1 H1 s1 S1 r1 e
  subst e
  have e:v= .bl true:=r1
  subst e
  exact q H1
theorem TX {K:W.Frag} {H:Hp} {a:Addr} {ns:List Int} (hl:ns.length≤63) (_:ZB H) (h:SqL K H a (ns.map V.int)):OB K [.ref a] H (fun v _=>v= .bl true) fun _ _ _=>False:=⟨a,ns,rfl,h,hl,fun _=>rfl⟩
theorem aD {K:W.Frag} {x qual:Str} {st:Stmt} {f:Addr} {oc:Value} {od an:Option Addr} {osl:Array (Option Value)} {dV kV doc pm cdv ct:Value} (l:K.lookup f=some ⟨oc,od,.func (W.fnOf x qual (gA st) (aB st) (aA st) dV kV doc pm an cdv ct),osl⟩)
    (c:W.codeIn K cdv qual=true) (k:W.keepIn K (.ref f)=true):bA K x qual st dV f (W.fnOf x qual (gA st) (aB st) (aA st) dV kV doc pm an cdv ct):=⟨⟨oc,od,kV,doc,pm,an,cdv,ct,osl,rfl,l,c⟩,k⟩
theorem bA.binds {K:W.Frag} {x qual:Str} {st:Stmt} {dV:Value} {f:Addr} {fd:FuncData} {ps:List Str} (F:bA K x qual st dV f fd)
    (h:∀ (kV doc pm:Value) (an:Option Addr) (cdv ct:Value) (s:Shared) (us:List Value),K.In s.heap→us.length=ps.length→BindsTo s (W.fnOf x qual (gA st) (aB st) (aA st) dV kV doc pm an cdv ct) ⟨us,[]⟩ (ps.zip us)):L2.aE K fd ps []:=by
  obtain ⟨oc,od,kV,doc,pm,an,cdv,ct,osl,rfl,lk,hcd⟩:=F.ex
  intro s us hK hl
  rw [List.append_nil] at hl ⊢
  exact h kV doc pm an cdv ct s us hK hl
theorem bA.sh {K:W.Frag} {x qual:Str} {st:Stmt} {dV:Value} {f:Addr} {fd:FuncData} {ps:List Str} {n:Nat} {ks:List Str} {ar:List Ar} (F:bA K x qual st dV f fd) (hl:ar.length=ps.length)
    (h:∀ (kV doc pm:Value) (an:Option Addr) (cdv ct:Value) (s:Shared) (us ws:List Value),K.In s.heap→us.length=n→ws.length=ks.length→∃ bs,BindsTo s (W.fnOf x qual (gA st) (aB st) (aA st) dV kV doc pm an cdv ct) ⟨us,ks.zip ws⟩ (ps.zip bs)∧∀ vs zs,aI vs us→aI zs ws→aI (ar.map (Ar.valV (vs ++ zs))) bs):jJ K fd ps n ks ar:=by
  obtain ⟨oc,od,kV,doc,pm,an,cdv,ct,osl,rfl,lk,hcd⟩:=F.ex
  exact ⟨hl,h kV doc pm an cdv ct⟩
theorem ac {α:Type} {P:α→Prop} {x:α} {l:List α} (h:P x) (t:∀ y∈l,P y):∀ y∈x :: l,P y:=List.forall_mem_cons.mpr ⟨h,t⟩
theorem an {α:Type} {P:α→Prop}:∀ y∈([]:List α),P y:=fun _ h=>nomatch h
theorem II {E:Ev} {mg:Str→Option Value} {x:Str} {i:Int} {t:Tok} (h:mg x=some (.int i t)):∃ u v,mg x=some u∧aL v u∧RP E (fun _=>none) (.int i) v:=⟨_,.int i,h,⟨t,rfl⟩,rfl⟩
theorem sD {E:Ev} {mg:Str→Option Value} {x:Str} {c:String} {a:Addr} (h:mg x=some (.ref a)) (e:E.cls c=a):∃ u v,mg x=some u∧aL v u∧RP E (fun _=>none) (.cl c) v:=⟨_,.ref a,h,rfl,by rw [←e]; rfl⟩
theorem vP {E:Ev} {K:W.Frag} {mg:Str→Option Value} {x:Str} {a:Addr} {i j:Int} {t u:Tok} {n:Nat} {sl:Array (Option Value)} (hK:E.K=K) (h:mg x=some (.ref a)) (l:K.lookup a=some ⟨.type "tuple",none,.seq #[.int i t,.int j u] n,sl⟩):∃ u v,mg x=some u∧aL v u∧RP E (fun _=>none) (.tup [.int i,.int j]) v :=
  ⟨_,.ref a,h,rfl,a,[.int i,.int j],rfl,.inr ⟨_,_,_,by rw [hK]; exact l,rfl,rfl,by show 2≤sizeLine; decide,.cons ⟨t,rfl⟩ (.cons ⟨u,rfl⟩ .nil),rfl⟩,_,_,rfl,rfl,_,_,rfl,rfl,rfl⟩
theorem vK {E:Ev} {mg:Str→Option Value} {x:Str} {y z:PV} (h:∃ u v,mg x=some u∧aL v u∧RP E (fun _=>none) y v) (e:z=y):∃ u v,mg x=some u∧aL v u∧RP E (fun _=>none) z v:=e▸h
noncomputable def aI8 (K:W.Frag) (a:Addr) (ns:List Int):Prop:= ∃ us n sl,K.lookup a=some ⟨.type "tuple",none,.seq us.toArray n,sl⟩∧aI (ns.map V.int) us
theorem aI8.rp {E:Ev} {K:W.Frag} {a:Addr} {ns:List Int} (hK:E.K=K) (h:aI8 K a ns) (hz:(ns.map V.int).length≤sizeLine):RP E (fun _=>none) (.tup (ns.map PV.int)) (.ref a):=by
  obtain ⟨us,n,sl,l,r⟩:=h
  exact ⟨a,ns.map V.int,rfl,.inr ⟨_,_,_,by rw [hK]; exact l,rfl,rfl,by show us.length≤sizeLine; rw [←r.length]; exact hz,r,rfl⟩,RPs.ofInts ns⟩
end L3
namespace L3
open PySem PySem.W PyProof.Rows
theorem aKI {p q:Program} {loose:List Str} {Xt:Shared→Bool} {α:Type} {Yf:Shared→α} {Ya:World→α} {N:Nat} {g0:Bool} {H₀:Params→Heap} {gs₀:Array GenState} {d₀:Drawn} {k₀ m₀:Nat} {ann:Option Value} {M:Nat}
    (open_:∀ w:World,(fencedOpening treeTable p w N).map (fun s=>(s.heap,s.gens,s.drawn,s.toks))=some (H₀ w.params,gs₀,d₀,k₀))
    (size:∀ w:World,((H₀ w.params).isNs mainGlobals && gs₀.size == 0,(H₀ w.params).objs.size,(H₀ w.params).nsMap mainGlobals "__annotations__")=(true,m₀,ann)) (le:Nat.ble M N=true)
    (run:∀ (w:World) (os:OsState),∃ s₁,topRun treeTable p w m₀ ann M ⟨H₀ w.params,gs₀,d₀,k₀,os⟩ (topStub p)=some s₁∧
      (staticsOk (importedModules p.main.body) (H₀ w.params) s₁.heap && namesBound p s₁.heap && gensDone s₁ && laidKept (H₀ w.params) s₁.heap,openSeen q loose (importedModules p.main.body) Xt g0 s₁,Yf s₁)=(true,openGood q loose,Ya w)):LeftO p q loose Xt Yf Ya N g0:=fun w=>by
  obtain ⟨⟨h,gs,d,k,os⟩,e,e'⟩:=Option.map_eq_some_iff.mp (open_ w)
  obtain ⟨rfl,rfl,rfl,rfl⟩:h=H₀ w.params∧gs=gs₀∧d=d₀∧k=k₀:=by simpa using e'
  obtain ⟨z1,z2,z3⟩:_∧_∧_:=by simpa only [Prod.mk.injEq] using size w
  obtain ⟨s₁,r,l⟩:=run w os
  obtain ⟨l1,l2,l3⟩:_∧_∧_:=by simpa only [Prod.mk.injEq] using l
  have r:=topRun_mono (N - M) _ _ _ _ r
  rw [show M + (N - M)=N by have:=Nat.le_of_ble_eq_true le; omega] at r
  have t:topFrom treeTable p w N ⟨H₀ w.params,gs,d,k,os⟩=some s₁:=by
    unfold topFrom
    dsimp only
    rw [z1,z2,z3,r]
    show (match staticsOk (importedModules p.main.body) (H₀ w.params) s₁.heap && namesBound p s₁.heap && gensDone s₁ && laidKept (H₀ w.params) s₁.heap with | true=>_ | false=>_)=_
    rw [l1]
  unfold openEnds
  rw [e]
  show (topFrom treeTable p w N _).map _=_
  rw [t]
  exact congrArg some (Prod.ext l2 l3)
noncomputable def aKR (o:Option (Shared×Thread)) (s:Shared):Shared:=match o with | some x=>x.1 | none=>s
noncomputable def aKA (o:Option (Flow×Shared×Code×Pos)) (s:Shared):Shared:=match o with | some x=>x.2.1 | none=>s
end L3
namespace L3
open PySem PySem.Spec
open PyProof.Rows hiding St
open L2
section
variable {G:Gh} {Q:PK1} {x y:PV} {i j:Int} {s:Str} {b c:Bool} {a:Addr}
theorem fZ {C:Int→Int→Prop} {g:Int→Int→PV}:pI C g (.int i) (.int j) G Q=(C i j∧Q (g i j) G):=rfl
theorem dI:EK .Add=EE:=rfl
theorem lS:EK .Sub=pI (fun _ _=>True) fun i j=>.int (i - j):=rfl
theorem rD:EK .Mult (.int i) (.int j) G Q=(AS i j∧Q (.int (i * j)) G):=rfl
theorem oU:EK .FloorDiv=pI AX fun i j=>.int (i / j):=rfl
theorem iI:EK .Mod=pI zJ fun i j=>.int (i % j):=rfl
theorem HJ:EK .Pow=pI CM fun i j=>.int (i ^ j.toNat):=rfl
theorem hW:EE (.int i) (.int j) G Q=Q (.int (i + j)) G:=rfl
theorem pE {t:Str}:EE (.str s) (.str t) G Q=(s.length + t.length≤sizeLine∧Q (.str (s ++ t)) G):=rfl
theorem GN {xs ys:List PV}:EE (.lst xs) (.lst ys) G Q=(xs.length + ys.length≤sizeLine∧Q (.lst (xs ++ ys)) G):=by
  show (∃ xs' ys',some xs=some xs'∧some ys=some ys'∧_)=_
  exact propext ⟨fun ⟨_,_,e1,e2,h⟩=>by cases e1; cases e2; exact h,fun h=>⟨_,_,rfl,rfl,h⟩⟩
theorem XW {xs ys:List PV}:EE (.tup xs) (.tup ys) G Q=(xs≠ []∧ys≠ []∧xs.length + ys.length≤sizeLine∧Q (.tup (xs ++ ys)) G):=rfl
theorem BX:nE .Lt=pI (fun _ _=>True) fun i j=>.bl (decide (i < j)):=rfl
theorem aDh:nE .LtE=pI (fun _ _=>True) fun i j=>.bl (decide (i≤j)):=rfl
theorem pU:nE .Gt=pI (fun _ _=>True) fun i j=>.bl (decide (j < i)):=rfl
theorem vO:nE .GtE=pI (fun _ _=>True) fun i j=>.bl (decide (j≤i)):=rfl
theorem bK:nE .Eq=pEq false:=rfl
theorem NW:nE .NotEq=pEq true:=rfl
theorem nC:nE .Is=pIs false:=rfl
theorem aKL:nE .IsNot=pIs true:=rfl
theorem cM:pEq false (.int i) (.int j) G Q=Q (.bl (decide (i=j))) G:=by
  show (true=true∧true=true∧Q (.bl (i == j)) G)=_
  simp only [true_and]; congr 2
theorem GC:pEq true (.int i) (.int j) G Q=Q (.bl (!decide (i=j))) G:=by
  show (true=true∧true=true∧Q (.bl (!(i == j))) G)=_
  simp only [true_and]; congr 2
theorem bL {R:Bool→Gh→Prop}:CU (.bl b) G R=R b G:=rfl
theorem aJz {R:Bool→Gh→Prop}:CU .non G R=R false G:=rfl
theorem aJY {R:Bool→Gh→Prop} {xs:List PV}:CU (.tup xs) G R=R (!xs.isEmpty) G:=rfl
theorem aAU:aFy (.int i) G Q=Q (.int (-i)) G:=rfl
theorem lP:pIs false .non .non G Q=Q (.bl true) G:=propext ⟨fun h=>h.elim (fun z=>z.2) (fun z=>absurd rfl z.1),fun h=>.inl ⟨rfl,h⟩⟩
theorem vM (h:x≠.non):pIs false x .non G Q=Q (.bl false) G:=propext ⟨fun z=>z.elim (fun z=>absurd z.1 h) (fun z=>z.2),fun q=>.inr ⟨h,q⟩⟩
theorem dH {xs:List PV}:wB (.tup xs) (.int i) G Q=(∃ v,atI xs i=some v∧Q v G):=rfl
theorem UO {ns:List Int}:wB (.scr ns) (.int i) G Q=(∃ n,atI ns i=some n∧Q (.int n) G):=rfl
theorem gE {xs:List PV}:wB (.lst xs) (.int i) G Q=(∃ v,atI xs i=some v∧Q v G):=by
  show (∃ ys v,some xs=some ys∧_)=_
  exact propext ⟨fun ⟨_,v,e1,h⟩=>by cases e1; exact ⟨v,h⟩,fun ⟨v,h⟩=>⟨_,v,rfl,h⟩⟩
theorem fR {xs:List PV} (h:G a=some (.lst xs)):cY G (.ref a)=some xs:=by unfold cY; dsimp only; rw [h]
theorem nB {xs:List PV}:cY G (.lst xs)=some xs:=rfl
theorem UJ {xs:List PV}:cY (gup G a (.lst xs)) (.ref a)=some xs:=fR aU
theorem YO {xs:List PV} (h:G a=some (.lst xs)):wB (.ref a) (.int i) G Q=(∃ v,atI xs i=some v∧Q v G):=by
  show (∃ ys v,cY G (.ref a)=some ys∧_)=_
  rw [fR h]
  exact propext ⟨fun ⟨_,v,e1,h⟩=>by cases e1; exact ⟨v,h⟩,fun ⟨v,h⟩=>⟨_,v,rfl,h⟩⟩
theorem FZ {xs:List PV}:wB (.ref a) (.int i) (gup G a (.lst xs)) Q=(∃ v,atI xs i=some v∧Q v (gup G a (.lst xs))):=YO aU
theorem GF {xs:List PV} {v:PV} {R:Gh→Prop} (h:G a=some (.lst xs)):aC5 (.ref a) (.int i) v G R=(∃ j,ixN xs.length i=some j∧R (gup G a (.lst (xs.set j v)))):=propext
  ⟨fun ⟨_,_,_,j,e1,e2,e3,e4,r⟩=>by cases e1; cases e2; rw [h] at e3; cases e3; exact ⟨j,e4,r⟩,fun ⟨j,e4,r⟩=>⟨_,_,_,j,rfl,rfl,h,e4,r⟩⟩
theorem HB {xs:List PV} {v:PV} {R:Gh→Prop}:aC5 (.ref a) (.int i) v (gup G a (.lst xs)) R=(∃ j,ixN xs.length i=some j∧R (gup G a (.lst (xs.set j v)))):=by
  rw [GF aU]; simp only [mW]
variable {cs:List String}
theorem lY {xs:List PV}:eI cs .len [.tup xs] G Q=Q (.int xs.length) G:=by
  refine propext ⟨fun h=>?_,fun q=>.inl ⟨_,rfl,q⟩⟩
  rcases h with ⟨ys,e,q⟩ | ⟨ys,e,q⟩ | ⟨z,e,_⟩ | ⟨ys,e,q⟩
  · cases e; exact q
  · cases e
  · cases e
  · cases e
theorem wC {xs:List Int}:eI cs .len [.scr xs] G Q=Q (.int xs.length) G:=by
  refine propext ⟨fun h=>?_,fun q=>.inr (.inl ⟨_,rfl,q⟩)⟩
  rcases h with ⟨ys,e,q⟩ | ⟨ys,e,q⟩ | ⟨z,e,_⟩ | ⟨ys,e,q⟩
  · cases e
  · cases e; exact q
  · cases e
  · cases e
theorem vU {xs:List PV}:eI cs .len [.lst xs] G Q=Q (.int xs.length) G:=by
  refine propext ⟨fun h=>?_,fun q=>.inr (.inr (.inr ⟨_,rfl,q⟩))⟩
  rcases h with ⟨ys,e,q⟩ | ⟨ys,e,q⟩ | ⟨z,e,_⟩ | ⟨ys,e,q⟩
  · cases e
  · cases e
  · cases e
  · cases e; exact q
theorem HQ:eI cs .abs [.int i] G Q=Q (.int (i.natAbs:Int)) G:=rfl
theorem xU:eI cs .max [.int i,.int j] G Q=Q (.int (max i j)) G:=rfl
theorem FW:eI cs .min [.int i,.int j] G Q=Q (.int (min i j)) G:=rfl
theorem aIq:eI cs .int [.int i] G Q=Q (.int i) G:=rfl
theorem DL:eI cs .int [.bl b] G Q=Q (.int (if b then 1 else 0)) G:=rfl
theorem vS {n T:String} (h:sY x G=some n):eI cs .isi [x,.ty T] G Q=(T∈nH∧Q (.bl (pA n T)) G):=propext
  ⟨fun ⟨hT,h'⟩=>⟨hT,by
    rcases h' with ⟨m,e,q⟩ | ⟨c,e,_,q⟩
    · rw [h] at e; cases e; exact q
    · exfalso; cases x <;> first | (cases e; done) | skip
      · cases h
      · unfold sY at h; unfold RH at e; dsimp only at h e
        split at h
        · rename_i q; rw [q] at e; cases e
        · cases h⟩,fun ⟨hT,q⟩=>⟨hT,.inl ⟨n,h,q⟩⟩⟩
theorem aJC:sY (.int i) G=some "int":=rfl
theorem aK2:sY (.bl b) G=some "bool":=rfl
theorem aKD:sY (.str s) G=some "str":=rfl
theorem aIy:sY .non G=some "NoneType":=rfl
theorem aJl {xs:List PV}:sY (.tup xs) G=some "tuple":=rfl
theorem aJI {xs:List PV}:sY (.lst xs) G=some "list":=rfl
theorem xD {T:String}:eI cs .isi [.int i,.ty T] G Q=(T∈nH∧Q (.bl (pA "int" T)) G):=vS rfl
theorem vV {T:String} {xs:List PV}:eI cs .isi [.tup xs,.ty T] G Q=(T∈nH∧Q (.bl (pA "tuple" T)) G):=vS rfl
theorem FX {T:String}:eI cs .isi [.non,.ty T] G Q=(T∈nH∧Q (.bl (pA "NoneType" T)) G):=vS rfl
theorem aBX {c:String} {ns:List Str} {xs:List PV}:eI cs .isi [.ob c ns xs,.cl c] G Q=(c∈cs∧Q (.bl true) G):=propext
  ⟨fun ⟨hc,h'⟩=>⟨hc,by
    rcases h' with ⟨m,e,q⟩ | ⟨c',e,_,q⟩
    · cases e
    · cases e; rw [decide_eq_true rfl] at q; exact q⟩,fun ⟨hc,q⟩=>⟨hc,.inr ⟨c,rfl,hc,by rw [decide_eq_true rfl]; exact q⟩⟩⟩
theorem pF {xs:List PV}:eI cs .tuple [.lst xs] G Q=Q (.tup xs) G:=propext
  ⟨fun h=>by
    rcases h with ⟨ys,e,q⟩ | ⟨ys,e,q⟩
    · cases e
    · cases e; exact q,fun q=>.inr ⟨_,rfl,q⟩⟩
theorem EN {xs:List PV} (h:G a=some (.lst xs)):eI cs .tuple [.ref a] G Q=Q (.tup xs) G:=propext
  ⟨fun h'=>by
    rcases h' with ⟨ys,e,q⟩ | ⟨ys,e,q⟩
    · cases e
    · rw [fR h] at e; cases e; exact q,fun q=>.inr ⟨_,fR h,q⟩⟩
theorem mO {xs:List PV}:eI cs .tuple [.ref a] (gup G a (.lst xs)) Q=Q (.tup xs) (gup G a (.lst xs)):=EN aU
theorem XU {xs:List PV}:eI cs .all [.lst xs] G Q=(∃ b,PB xs=some b∧Q (.bl b) G):=propext
  ⟨fun ⟨_,b,e,eb,q⟩=>by cases e; exact ⟨b,eb,q⟩,fun ⟨b,eb,q⟩=>⟨_,b,rfl,eb,q⟩⟩
theorem sJ {xs:List PV}:yM true G xs Q= ∀ p,G p=none→Q (.ref p) (gup G p (.lst xs)):=rfl
theorem bX {xs:List PV}:yM false G xs Q=Q (.lst xs) G:=rfl
theorem fH {xs:List PV} {R:(Gh→Prop)→List PV→Gh→Prop}:WC (.tup xs) G R=R (fun _=>True) xs G:=rfl
theorem FU {xs:List PV} {R:(Gh→Prop)→List PV→Gh→Prop}:WC (.lst xs) G R=R (fun _=>True) xs G:=rfl
theorem aJF {xs:List Int} {R:(Gh→Prop)→List PV→Gh→Prop}:WC (.scr xs) G R=R (fun _=>True) (xs.map .int) G:=rfl
theorem aDL {k:Bool} {R:Bool→Prop}:(∃ c,PV.bl k=PV.bl c∧R c)=R k:=propext ⟨fun ⟨_,e,r⟩=>by cases e; exact r,fun r=>⟨k,rfl,r⟩⟩
theorem bT {v:PV} {R:PV→Prop}:(∃ c,some (some v)=some (some c)∧R c)=R v:=propext ⟨fun ⟨_,e,r⟩=>by cases e; exact r,fun r=>⟨v,rfl,r⟩⟩
theorem cX {α:Type} {v:α} {R:α→Prop}:(∃ c,some v=some c∧R c)=R v:=propext ⟨fun ⟨_,e,r⟩=>by cases e; exact r,fun r=>⟨v,rfl,r⟩⟩
end
theorem at0 {α:Type} {x:α} {xs:List α}:atI (x :: xs) 0=some x:=eN (xs:=x :: xs) (j:=0) rfl
theorem at1 {α:Type} {x y:α} {xs:List α}:atI (x :: y :: xs) 1=some y:=eN (xs:=x :: y :: xs) (j:=1) rfl
theorem at2 {α:Type} {x y z:α} {xs:List α}:atI (x :: y :: z :: xs) 2=some z:=eN (xs:=x :: y :: z :: xs) (j:=2) rfl
theorem at3 {α:Type} {x y z u:α} {xs:List α}:atI (x :: y :: z :: u :: xs) 3=some u:=eN (xs:=x :: y :: z :: u :: xs) (j:=3) rfl
theorem at4 {α:Type} {x y z u v:α} {xs:List α}:atI (x :: y :: z :: u :: v :: xs) 4=some v:=eN (xs:=x :: y :: z :: u :: v :: xs) (j:=4) rfl
theorem aK1 {Q:PK1}:(aJ Q).rt=Wk Q:=rfl
theorem aK0 {Q:PK1} {σ:PSt} {G:Gh}:(aJ Q).nx σ G=Wk Q .non G:=rfl
theorem aG:("int"∈nH)=True∧("bool"∈nH)=True∧("tuple"∈nH)=True∧("str"∈nH)=True∧("list"∈nH)=True:=⟨eq_true (by decide),eq_true (by decide),eq_true (by decide),eq_true (by decide),eq_true (by decide)⟩
theorem aHC:pA "int" "int"=true:=by decide
theorem aHa:pA "int" "bool"=false:=by decide
theorem CY:pA "tuple" "tuple"=true:=by decide
theorem aHm:pA "NoneType" "tuple"=false:=by decide
theorem aFl:pA "int" "tuple"=false:=by decide
theorem sz2:(2:Nat)≤sizeLine:=by decide
theorem sz1:(1:Nat)≤sizeLine:=by decide
theorem sz3:(3:Nat)≤sizeLine:=by decide
noncomputable def FQ (q:Rat):PV:=.tup [.int q.num,.int (q.den:Int)]
noncomputable def cV:Sp3:=fun xs G Q=>∃ i,xs=[.int i]∧Q (.bl true) G
noncomputable def mG:Sp3:=fun xs G Q=>∃ i j:Int,xs=[.int i,.int j]∧0≤i∧0≤j∧Q (.int (Int.gcd i j)) G
noncomputable def jE:Sp3:=fun xs G Q=>∃ q,xs=[FQ q]∧Q (.bl true) G
noncomputable def bV:Sp3:=fun xs G Q=>∃ t b:Int,xs=[.int t,.int b]∧b≠0∧Sm 9000 b∧Q (FQ (Rat.divInt t b)) G
noncomputable def Bd (n:Nat) (q:Rat):Prop:=Sm n q.num∧Sm n (q.den:Int)
theorem Bd.mono {n m:Nat} {q:Rat} (h:Bd n q) (e:n≤m):Bd m q:=⟨h.1.mono e,h.2.mono e⟩
theorem aAc {t b:Int} (hb:b≠0):0 < b.gcd t:=Int.gcd_pos_of_ne_zero_left _ hb
theorem Bd.divInt {n:Nat} {t b:Int} (ht:Sm n t) (hb:Sm n b) (h0:b≠0):Bd n (Rat.divInt t b):=by
  have gp:(0:Int) < (b.gcd t:Int):=by have:=aAc (t:=t) h0; omega
  constructor
  · rw [Rat.num_divInt]
    have e:Sm n (b.sign * t):=by
      rcases Int.lt_trichotomy b 0 with z | z | z
      · rw [Int.sign_eq_neg_one_of_neg z,Int.neg_one_mul]; exact ht.neg
      · exact absurd z h0
      · rw [Int.sign_eq_one_of_pos z,Int.one_mul]; exact ht
    exact e.div gp
  · rw [Rat.den_divInt,if_neg h0]
    have e:Sm n ((b.natAbs:Int)):=by unfold Sm at *; omega
    have:=e.div gp
    rw [Int.natCast_ediv]
    exact this
theorem KM {t b:Int} (hb:0 < b):FQ (Rat.divInt t b)= .tup [.int (t / (Int.gcd t b:Int)),.int (b / (Int.gcd t b:Int))]:=by
  unfold FQ
  rw [Rat.num_divInt,Rat.den_divInt,if_neg (by omega),Int.sign_eq_one_of_pos hb,Int.one_mul,Int.gcd_comm,Int.natCast_ediv]
  have:(b.natAbs:Int)=b:=by omega
  rw [this]
theorem aAs (a b:Rat):Rat.divInt (a.num * (b.den:Int) + b.num * (a.den:Int)) ((a.den:Int) * (b.den:Int))=a + b:=by
  rw [Rat.add_def',←Rat.divInt_ofNat,Int.natCast_mul]
theorem NR (a b:Rat):Rat.divInt (a.num * (b.den:Int) - b.num * (a.den:Int)) ((a.den:Int) * (b.den:Int))=a - b:=by
  rw [Rat.sub_def',←Rat.divInt_ofNat,Int.natCast_mul]
theorem YT (a b:Rat):Rat.divInt (a.num * b.num) ((a.den:Int) * (b.den:Int))=a * b:=by
  rw [Rat.mul_def',←Rat.divInt_ofNat,Int.natCast_mul]
theorem aEP (a b:Rat):Rat.divInt (a.num * (b.den:Int)) ((a.den:Int) * b.num)=a / b:=by
  rw [Rat.div_def,Rat.inv_def]
  conv=>rhs; rw [←Rat.num_divInt_den a]
  rw [Rat.divInt_mul_divInt]
theorem bM {q:Rat}:(q.den:Int)≠0:=by have:=q.den_pos; omega
theorem gD {q:Rat}:(0:Int) < q.den:=by have:=q.den_pos; omega
theorem hU {a b:Int} (ha:a≠0) (hb:b≠0):a * b≠0:=Int.mul_ne_zero ha hb
theorem Bd.add {n m l:Nat} {a b:Rat} (ha:Bd n a) (hb:Bd m b) (e:n + m + 1≤l):Bd l (a + b):=by
  rw [←aAs]
  refine Bd.divInt ?_ ?_ (hU bM bM)
  · exact ((ha.1.mul hb.2)).add ((hb.1.mul ha.2).mono (by omega)) e
  · exact (ha.2.mul hb.2).mono (by omega)
theorem Bd.sub {n m l:Nat} {a b:Rat} (ha:Bd n a) (hb:Bd m b) (e:n + m + 1≤l):Bd l (a - b):=by
  rw [←NR]
  refine Bd.divInt ?_ ?_ (hU bM bM)
  · exact ((ha.1.mul hb.2)).sub ((hb.1.mul ha.2).mono (by omega)) e
  · exact (ha.2.mul hb.2).mono (by omega)
theorem Bd.mul {n m l:Nat} {a b:Rat} (ha:Bd n a) (hb:Bd m b) (e:n + m≤l):Bd l (a * b):=by
  rw [←YT]
  exact Bd.divInt ((ha.1.mul hb.1).mono e) ((ha.2.mul hb.2).mono e) (hU bM bM)
theorem Bd.dv {n m l:Nat} {a b:Rat} (ha:Bd n a) (hb:Bd m b) (h0:b≠0) (e:n + m≤l):Bd l (a / b):=by
  rw [←aEP]
  exact Bd.divInt ((ha.1.mul hb.2).mono e) ((ha.2.mul hb.1).mono e) (hU bM (fun z=>h0 (Rat.num_eq_zero.mp z)))
theorem Bd.int {n:Nat} {i:Int} (h:Sm n i) (e:1≤n):Bd n (i:Rat):=⟨h,by
  show Sm n ((1:Nat):Int)
  unfold Sm
  have:2 ^ 1≤2 ^ n:=Nat.pow_le_pow_right (by decide) e
  show 1 < 2 ^ n
  omega⟩
theorem CF {i:Int}:PV.tup [.int i,.int 1]=FQ (i:Rat):=rfl
theorem smK {x:Int} {n:Nat} (a: -1000000000000≤x) (b:x < 1000000000000) (e:41≤n):Sm n x:=by
  have:Sm 41 x:=by unfold Sm; omega
  exact this.mono e
noncomputable def rN:Sp3:=fun xs G Q=>∃ qs:List Rat,xs=[.tup (qs.map FQ)]∧qs.length≤2∧Q .non G
noncomputable def gO:Sp3:=fun xs G Q=>∃ a b,xs=[FQ a,FQ b]∧Bd 4000 a∧Bd 4000 b∧Q (FQ (a + b)) G
noncomputable def eM:Sp3:=fun xs G Q=>∃ a b,xs=[FQ a,FQ b]∧Bd 4000 a∧Bd 4000 b∧Q (FQ (a - b)) G
noncomputable def dR:Sp3:=fun xs G Q=>∃ a b,xs=[FQ a,FQ b]∧Bd 4000 a∧Bd 4000 b∧Q (FQ (a * b)) G
noncomputable def jR:Sp3:=fun xs G Q=>∃ a b,xs=[FQ a,FQ b]∧Bd 4000 a∧Bd 4000 b∧b≠0∧Q (FQ (a / b)) G
noncomputable def kQ:Sp3:=fun xs G Q=>∃ a b,xs=[FQ a,FQ b]∧Bd 4000 a∧Bd 4000 b∧Q (.bl (decide (a < b))) G
noncomputable def nw (q:Rat):Int:=(2 * q.num + (q.den:Int)) / (2 * (q.den:Int))
noncomputable def BA:Sp3:=fun xs G Q=>∃ a,xs=[FQ a]∧Bd 8900 a∧Q (.int (nw a)) G
noncomputable def eU:Sp3:=fun xs G Q=>∃ a,xs=[FQ a]∧0≤a∧a≤1∧Q (.bl true) G
noncomputable def SH (a b c:Rat):PV:=.ob "Shade" ["ember","leaf","sky"] [FQ a,FQ b,FQ c]
noncomputable def In1 (a:Rat):Prop:=0≤a∧a≤1
noncomputable def nA:Sp3:=fun xs G Q=>∃ a b c,xs=[FQ a,FQ b,FQ c]∧In1 a∧In1 b∧In1 c∧Q (SH a b c) G
noncomputable def pR:Sp3:=fun xs G Q=>∃ p a b c,xs=[.ref p,FQ a,FQ b,FQ c]∧G p=some (.ins "Shade" [] [])∧In1 a∧In1 b∧In1 c∧Q .non (gup G p (.ins "Shade" ["ember","leaf","sky"] [FQ a,FQ b,FQ c]))
noncomputable def gZ:Sp3:=fun xs G Q=>∃ a b c,xs=[SH a b c]∧Q (.bl true) G
noncomputable def iP:Sp3:=fun xs G Q=>∃ a b c,xs=[SH a b c]∧Q .non G
noncomputable def bG:Sp3:=fun xs G Q=>∃ a b c,xs=[SH a b c]∧Q (.tup [FQ a,FQ b,FQ c]) G
noncomputable def gY:Sp3:=fun xs G Q=>∃ x a b c,xs=[x]∧cY G x=some [FQ a,FQ b,FQ c]∧In1 a∧In1 b∧In1 c∧Q (SH a b c) G
noncomputable def pL:Sp3:=fun xs G Q=>∃ g:Int,xs=[.int g]∧1≤g∧g≤1000∧Q .non G
noncomputable def CJ:Sp3:=fun xs G Q=>∃ g:Int,xs=[.int g]∧1≤g∧g≤1000∧Q (.bl true) G
noncomputable def pH:Sp3:=fun xs G Q=>∃ s g:Int,xs=[.int s,.int g]∧0≤s∧s≤g∧Q (.bl true) G
noncomputable def jU:Sp3:=fun xs G Q=>∃ s g:Int,xs=[.int s,.int g]∧0≤s∧s≤g∧Q .non G
noncomputable def stp (a:Rat) (g:Int):PV:=.int (nw (a * (g:Rat)))
noncomputable def tI:Sp3:=fun xs G Q=>∃ a b c g,xs=[SH a b c,.int g]∧1≤g∧g≤1000∧Bd 3000 a∧Bd 3000 b∧Bd 3000 c∧Q (.tup [stp a g,stp b g,stp c g]) G
noncomputable def aGN (s g:Int):Rat:=Rat.divInt (max (2 * s - 1) 0) (2 * g)
noncomputable def aFo (s g:Int):Rat:=if s=g then 1 else Rat.divInt (2 * s + 1) (2 * g)
noncomputable def LY:Sp3:=fun xs G Q=>∃ s g:Int,xs=[.int s,.int g]∧1≤g∧g≤1000∧0≤s∧s≤g∧Q (.tup [FQ (aGN s g),FQ (aFo s g),.bl (decide (s=g))]) G
structure PT (T:Tb):Prop where
  is_whole:T.S "is_whole"=cV
  common:T.S "common"=mG
  is_fraction:T.S "is_fraction"=jE
  lowest:T.S "lowest"=bV
  need_fractions:T.S "need_fractions"=rN
  plus:T.S "plus"=gO
  minus:T.S "minus"=eM
  times:T.S "times"=dR
  over:T.S "over"=jR
  below:T.S "below"=kQ
  nearest_whole:T.S "nearest_whole"=BA
  is_share:T.S "is_share"=eU
  shade:T.S "Shade"=nA
  shadeI:T.S "Shade.__init__"=pR
  is_shade:T.S "is_shade"=gZ
  need_shade:T.S "need_shade"=iP
  shares_of:T.S "shares_of"=bG
  shade_of:T.S "shade_of"=gY
  is_grade:T.S "is_grade"=CJ
  need_grade:T.S "need_grade"=pL
  is_step:T.S "is_step"=pH
  need_step:T.S "need_step"=jU
  printed:T.S "printed"=tI
  span_of:T.S "span_of"=LY
  gv_ONE:T.gv "ONE"=FQ 1
  gv_ZERO:T.gv "ZERO"=FQ 0
  gv_MOST_GRADE:T.gv "MOST_GRADE"= .int 1000
  gv_Shade:T.gv "Shade"= .cl "Shade"
  cs: "Shade"∈T.cs
  fl_e:("Shade",("ember":Str))∈T.fl
  fl_l:("Shade",("leaf":Str))∈T.fl
  fl_s:("Shade",("sky":Str))∈T.fl
  ty_int:T.gv "int"= .ty "int"
  ty_bool:T.gv "bool"= .ty "bool"
  ty_tuple:T.gv "tuple"= .ty "tuple"
theorem aGo {q:Rat} {G:Gh} {Q:PK1} {cs:List String}:eI cs .len [FQ q] G Q=Q (.int 2) G:=lY
theorem KG {q:Rat} {G:Gh} {Q:PK1}:wB (FQ q) (.int 0) G Q=Q (.int q.num) G:=by unfold FQ; rw [dH,at0,cX]
theorem QV {q:Rat} {G:Gh} {Q:PK1}:wB (FQ q) (.int 1) G Q=Q (.int q.den) G:=by unfold FQ; rw [dH,at1,cX]
theorem KF {q:Rat} {G:Gh} {Q:PK1} {cs:List String} {t:String}:eI cs .isi [FQ q,.ty t] G Q=(t∈nH∧Q (.bl (pA "tuple" t)) G):=vV
theorem iX {a b:Rat}:(FQ a=FQ b)=(a=b):=propext ⟨fun h=>by
  unfold FQ at h
  injection h with h
  injection h with h1 h
  injection h with h2 _
  injection h1 with h1
  injection h2 with h2
  exact Rat.ext h1 (by omega),fun h=>by rw [h]⟩
theorem aFX {q:Rat}:(1:Int)≤q.den:=by have:=q.den_pos; omega
theorem aGs {q:Rat}:Int.gcd (q.num.natAbs:Int) (q.den:Int)=1:=q.reduced
theorem aA6 {G:Gh} {Q:PK1} {a b:Rat}:rN [.tup [FQ a,FQ b]] G Q=Q .non G:=propext ⟨fun ⟨_,e,_,q⟩=>q,fun q=>⟨[a,b],rfl,by show 2≤2; decide,q⟩⟩
theorem xK {chk:Gh→Prop} {g:PTG} {tb:PTS} {D:dF} {σ:PSt} {G:Gh}:oZ chk g tb D [] σ G=(chk G∧D.nx σ G):=rfl
theorem tM {chk:Gh→Prop} {g:PTG} {tb:PTS} {D:dF} {x:PV} {r:List PV} {σ:PSt} {G:Gh}:oZ chk g tb D (x :: r) σ G=(chk G∧g x σ G fun σ2 G2=>tb { D with nx:=oZ chk g tb D r,ct:=oZ chk g tb D r,bk:=D.nx } σ2 G2):=rfl
theorem eT {chk:Gh→Prop} {g:PTG} {ts:PTT} {te:PTE} {acc:List PV} {σ:PSt} {G:Gh} {Q:List PV→Gh→Prop}:iN chk g ts te [] acc σ G Q=(chk G∧Q acc G):=rfl
theorem dE {chk:Gh→Prop} {g:PTG} {ts:PTT} {te:PTE} {x:PV} {r acc:List PV} {σ:PSt} {G:Gh} {Q:List PV→Gh→Prop}:iN chk g ts te (x :: r) acc σ G Q=(chk G∧g x σ G fun σ2 G2=>ts σ2 G2 fun ok G3=>if ok=true then te σ2 G3 fun y G4=>iN chk g ts te r (acc ++ [y]) σ2 G4 Q else iN chk g ts te r acc σ2 G3 Q):=rfl
theorem aKs {a:PV}:yU [a]=[.tup [.int 0,a]]:=rfl
theorem aIF {a b:PV}:yU [a,b]=[.tup [.int 0,a],.tup [.int 1,b]]:=rfl
theorem aIv {a b c:PV}:yU [a,b,c]=[.tup [.int 0,a],.tup [.int 1,b],.tup [.int 2,c]]:=rfl
theorem aM2:uI 0 (3:Int).toNat=[.int 0,.int 1,.int 2]:=rfl
theorem sW:uI 0 3=[.int 0,.int 1,.int 2]:=rfl
theorem lR {a b c a' b' c':Rat}:(SH a b c=SH a' b' c')=(a=a'∧b=b'∧c=c'):=propext ⟨fun h=>by
  unfold SH at h
  injection h with _ _ h
  injection h with h1 h
  injection h with h2 h
  injection h with h3 _
  rw [iX] at h1 h2 h3
  exact ⟨h1,h2,h3⟩,fun ⟨h1,h2,h3⟩=>by rw [h1,h2,h3]⟩
set_option hygiene false in
local macro_rules | `(tactic| walk_at "rd") => `(tactic| simp only [wpS, wpE, wpL, wpT, wpO, wpI, wpG, eV, aJ, aC, List.length_cons, List.length_nil, List.cons_append, List.nil_append, List.append_nil, List.replicate, Nat.reduceAdd, Nat.reduceSub, Nat.zero_add, List.getElem?_cons_zero, List.getElem?_cons_succ, List.set_cons_zero, List.set_cons_succ, Option.some.injEq, exists_eq_left', true_and, and_true, ite_self, fZ, oU, iI, BX, vO, bK, NW, cM, GC, bL, aAU, lY, HQ, xD, vV, aG.1, aG.2.1, aG.2.2.1, aHC, aHa, CY, NQ, NB, List.cons.injEq, PV.int.injEq, PV.bl.injEq, PV.str.injEq, PV.ref.injEq, PV.tup.injEq, and_assoc, exists_and_left, eq_self, cV, mG, List.map, Bool.not_true, Bool.not_false, Bool.and_self, Bool.and_true, Bool.true_and, if_true, if_false, ite_true, ite_false, Bool.false_eq_true, decide_eq_true_eq, decide_true, decide_false, reduceCtorEq, sz2, Wk.here, *])
section
variable {T:Tb}
noncomputable def gB:CS:=(.ret (.an (.blt .isi (.cons (.var 0) (.cons (.glo "int") .nil))) (.no (.blt .isi (.cons (.var 0) (.cons (.glo "bool") .nil))))))
theorem wG (h:PT T):∀ xs G Q,cV xs G Q→wpS T gB (aJ Q) (aC 1 xs) G:=by
  rintro xs G Q ⟨i,rfl,q⟩
  unfold gB
  have:=h.ty_int
  have:=h.ty_bool
  walk_at "rd"
theorem EL {x y:Int} (hx:0≤x) (hy:0 < y):Int.gcd y (x % y)=Int.gcd x y:=by
  rw [Int.gcd_comm x y]
  show y.natAbs.gcd (x % y).natAbs=y.natAbs.gcd x.natAbs
  have e:(x % y).natAbs=x.natAbs % y.natAbs:=by rw [Int.natAbs_emod_of_nonneg hx]
  rw [e,Nat.gcd_rec y.natAbs x.natAbs,Nat.gcd_comm]
noncomputable def mN:CS:=(.seq (.wh (.tsb (.cmp .NotEq (.var 1) (.int 0))) (.par 0 1 (.var 1) (.bin .Mod (.var 0) (.var 1))))
  (.ret (.var 0)))
theorem aAA (h:PT T):∀ xs G Q,mG xs G Q→wpS T mN (aJ Q) (aC 2 xs) G:=by
  rintro xs G Q ⟨i,j,rfl,hi,hj,q⟩
  unfold mN
  walk_at "rd"
  refine ⟨fun m σ H=>∃ x y,σ=[some (.int x),some (.int y)]∧H=G∧0≤x∧0≤y∧Int.gcd x y=Int.gcd i j∧m=y.toNat,⟨_,i,j,rfl,rfl,hi,hj,rfl,rfl⟩, ?_⟩
  rintro m σ H ⟨x,y,rfl,rfl,hx,hy,hg,rfl⟩
  walk_at "rd"
  split
  · rename_i hy0
    have hy0:y≠0:=by simpa using hy0
    have h2:=Int.emod_lt_of_pos x (show 0 < y by omega)
    have h3:=Int.emod_nonneg x (show y≠0 by omega)
    exact ⟨by show 0 < y; omega,(x % y).toNat,by omega,h3,(EL hx (by omega)).trans hg,rfl⟩
  · rename_i hy0
    have e:y=0:=by simpa using hy0
    subst e
    have g:((Int.gcd x 0:Nat):Int)=x:=by rw [Int.gcd_zero_right]; omega
    refine Wk.here ?_
    rw [←g,hg]; exact q
noncomputable def fV:CS:=(.seq (.iff (.oo (.no (.tst (.blt .isi (.cons (.var 0) (.cons (.glo "tuple") .nil))))) (.tsb (.cmp .NotEq (.blt .len (.cons (.var 0) .nil)) (.int 2)))) (.ret (.bl false)) .nil)
  (.seq (.asg (.gt 2 (.cons (.gn 1) (.cons (.gn 2) .nil))) (.var 0))
  (.ret (.an (.cal "is_whole" (.cons (.var 1) .nil)) (.an (.cal "is_whole" (.cons (.var 2) .nil)) (.an (.cmp .GtE (.var 2) (.int 1)) (.cmp .Eq (.cal "common" (.cons (.blt .abs (.cons (.var 1) .nil)) (.cons (.var 2) .nil))) (.int 1))))))))
theorem yW (h:PT T):∀ xs G Q,jE xs G Q→wpS T fV (aJ Q) (aC 3 xs) G:=by
  rintro xs G Q ⟨q,rfl,hq⟩
  unfold fV
  have:=h.ty_tuple
  have:=h.is_whole
  have:=h.common
  have h1:=aFX (q:=q)
  have h2:=aGs (q:=q)
  unfold FQ
  walk_at "rd"
  exact ⟨by omega,by omega⟩
noncomputable def mK:CS:=(.seq (.iff (.tsb (.cmp .Lt (.var 1) (.int 0))) (.par 0 1 (.neg (.var 0)) (.neg (.var 1))) .nil)
  (.seq (.asg (.gn 2) (.cal "common" (.cons (.blt .abs (.cons (.var 0) .nil)) (.cons (.var 1) .nil))))
  (.ret (.tup (.cons (.bin .FloorDiv (.var 0) (.var 2)) (.cons (.bin .FloorDiv (.var 1) (.var 2)) .nil))))))
theorem CQ (t b:Int):Int.gcd (t.natAbs:Int) b=Int.gcd t b:=by show (t.natAbs:Int).natAbs.gcd _=_; rw [Int.natAbs_natCast]; rfl
theorem BK {t b:Int} (hb:0 < b) (sb:Sm 9000 b):AX t (Int.gcd t b:Int)∧AX b (Int.gcd t b:Int):=by
  have gp:(0:Int) < (Int.gcd t b:Int):=by have:=Int.gcd_pos_of_ne_zero_right t (show b≠0 by omega); omega
  have gl:(Int.gcd t b:Int)≤b:=Int.le_of_dvd hb (Int.gcd_dvd_right _ _)
  have sg:Sm 9000 (Int.gcd t b:Int):=sb.le (by omega) gl
  exact ⟨aB1 gp sg,aB1 gp sg⟩
theorem aAV (h:PT T):∀ xs G Q,bV xs G Q→wpS T mK (aJ Q) (aC 3 xs) G:=by
  rintro xs G Q ⟨t,b,rfl,h0,sb,hq⟩
  unfold mK
  have:=h.common
  walk_at "rd"
  split
  · rename_i hb
    obtain ⟨d1,d2⟩:=BK (t:= -t) (b:= -b) (by omega) sb.neg
    simp only [CQ]
    refine ⟨by omega,by omega,d1,d2,Wk.here ?_⟩
    rw [←KM (by omega),Rat.neg_divInt_neg]; exact hq
  · rename_i hb
    obtain ⟨d1,d2⟩:=BK (t:=t) (b:=b) (by omega) sb
    simp only [CQ]
    refine ⟨by omega,by omega,d1,d2,Wk.here ?_⟩
    rw [←KM (by omega)]; exact hq
end
set_option hygiene false in
local macro_rules | `(tactic| walk_at "rd") => `(tactic| simp only [wpS, wpE, wpL, wpT, wpO, wpI, wpG, eV, aJ, aC, List.map_cons, List.map_nil, List.length_cons, List.length_nil, List.cons_append, List.nil_append, List.append_nil, List.replicate, Nat.reduceAdd, Nat.reduceSub, Nat.zero_add, List.getElem?_cons_zero, List.getElem?_cons_succ, List.set_cons_zero, List.set_cons_succ, Option.some.injEq, exists_eq_left', true_and, and_true, ite_self, fZ, dI, lS, rD, oU, hW, aDh, bK, cM, bL, xU, pF, bX, fH, aG.1, aG.2.1, aG.2.2.1, List.cons.injEq, PV.int.injEq, PV.bl.injEq, PV.str.injEq, PV.ref.injEq, PV.tup.injEq, and_assoc, exists_and_left, eq_self, KG, QV, iX, cV, jE, bV, aA6, exists_eq', xK, tM, eT, dE, aKs, aIF, aIv, lR, uJ, Option.getD_some, List.map, dR, BA, eU, gZ, iP, bG, pL, CJ, pH, jU, Bool.not_true, Bool.not_false, Bool.and_self, Bool.and_true, Bool.true_and, if_true, if_false, ite_true, ite_false, Bool.false_eq_true, decide_eq_true_eq, decide_true, decide_false, reduceCtorEq, sz1, sz2, sz3, Wk.here, *])
section
variable {T:Tb}
noncomputable def eG:CS:=(.fr (.gt 2 (.cons (.gn 1) (.cons (.gn 2) .nil))) (.ien (.var 0)) (.iff (.no (.tst (.cal "is_fraction" (.cons (.var 2) .nil)))) .nev .nil))
theorem sG (h:PT T):∀ xs G Q,rN xs G Q→wpS T eG (aJ Q) (aC 3 xs) G:=by
  rintro xs G Q ⟨qs,rfl,hl,hq⟩
  unfold eG
  have:=h.is_fraction
  match qs,hl with
  | [],_=>simp only [List.map_nil]; walk_at "rd"; exact ⟨trivial,Wk.here hq⟩
  | [a],_=>simp only [List.map_cons,List.map_nil]; walk_at "rd"
  | [a,b],_=>simp only [List.map_cons,List.map_nil]; walk_at "rd"
noncomputable def nS:CS:=(.seq (.ex (.cal "need_fractions" (.cons (.tup (.cons (.var 0) (.cons (.var 1) .nil))) .nil)))
  (.ret (.cal "lowest" (.cons (.bin .Mult (.idx (.var 0) (.int 0)) (.idx (.var 1) (.int 0))) (.cons (.bin .Mult (.idx (.var 0) (.int 1)) (.idx (.var 1) (.int 1))) .nil)))))
theorem RL {a b:Rat} (ha:Bd 4000 a) (hb:Bd 4000 b):Sm 9000 ((a.den:Int) * (b.den:Int)):=(ha.2.mul hb.2).mono (by decide)
theorem aCq (h:PT T):∀ xs G Q,dR xs G Q→wpS T nS (aJ Q) (aC 2 xs) G:=by
  rintro xs G Q ⟨a,b,rfl,ha,hb,hq⟩
  unfold nS
  have:=h.need_fractions
  have:=h.lowest
  walk_at "rd"
  refine ⟨lM ha.1 hb.1,lM ha.2 hb.2,hU bM bM,RL ha hb,Wk.here ?_⟩
  rw [YT]; exact hq
noncomputable def uN:CS:=(.seq (.ex (.cal "need_fractions" (.cons (.tup (.cons (.var 0) (.cons (.var 1) .nil))) .nil)))
  (.ret (.cal "lowest" (.cons (.bin .Add (.bin .Mult (.idx (.var 0) (.int 0)) (.idx (.var 1) (.int 1))) (.bin .Mult (.idx (.var 1) (.int 0)) (.idx (.var 0) (.int 1)))) (.cons (.bin .Mult (.idx (.var 0) (.int 1)) (.idx (.var 1) (.int 1))) .nil)))))
theorem aGr (h:PT T):∀ xs G Q,gO xs G Q→wpS T uN (aJ Q) (aC 2 xs) G:=by
  rintro xs G Q ⟨a,b,rfl,ha,hb,hq⟩
  unfold uN
  have:=h.need_fractions
  have:=h.lowest
  walk_at "rd"
  refine ⟨lM ha.1 hb.2,lM hb.1 ha.2,lM ha.2 hb.2,hU bM bM,RL ha hb,Wk.here ?_⟩
  rw [aAs]; exact hq
noncomputable def oI:CS:=(.seq (.ex (.cal "need_fractions" (.cons (.tup (.cons (.var 0) (.cons (.var 1) .nil))) .nil)))
  (.ret (.cal "lowest" (.cons (.bin .Sub (.bin .Mult (.idx (.var 0) (.int 0)) (.idx (.var 1) (.int 1))) (.bin .Mult (.idx (.var 1) (.int 0)) (.idx (.var 0) (.int 1)))) (.cons (.bin .Mult (.idx (.var 0) (.int 1)) (.idx (.var 1) (.int 1))) .nil)))))
theorem aCm (h:PT T):∀ xs G Q,eM xs G Q→wpS T oI (aJ Q) (aC 2 xs) G:=by
  rintro xs G Q ⟨a,b,rfl,ha,hb,hq⟩
  unfold oI
  have:=h.need_fractions
  have:=h.lowest
  walk_at "rd"
  refine ⟨lM ha.1 hb.2,lM hb.1 ha.2,lM ha.2 hb.2,hU bM bM,RL ha hb,Wk.here ?_⟩
  rw [NR]; exact hq
noncomputable def iR:CS:=(.ret (.an (.cal "is_fraction" (.cons (.var 0) .nil)) (.chn .LtE .LtE (.int 0) (.idx (.var 0) (.int 0)) (.idx (.var 0) (.int 1)))))
theorem JL {a:Rat} (h:0≤a):0≤a.num:=Rat.num_nonneg.mpr h
theorem aGC {a:Rat} (h:a≤1):a.num≤(a.den:Int):=by
  have:=(Rat.le_iff a 1).mp h
  simpa using this
theorem JD (h:PT T):∀ xs G Q,eU xs G Q→wpS T iR (aJ Q) (aC 1 xs) G:=by
  rintro xs G Q ⟨a,rfl,h0,h1,hq⟩
  unfold iR
  have:=h.is_fraction
  have:=JL h0
  have:=aGC h1
  walk_at "rd"
noncomputable def iU:CS:=(.ret (.blt .isi (.cons (.var 0) (.cons (.glo "Shade") .nil))))
theorem ZR {a b c:Rat} {G:Gh} {Q:PK1} {cs:List String}:eI cs .isi [SH a b c,.cl "Shade"] G Q=("Shade"∈cs∧Q (.bl true) G):=aBX
theorem LG (h:PT T):∀ xs G Q,gZ xs G Q→wpS T iU (aJ Q) (aC 1 xs) G:=by
  rintro xs G Q ⟨a,b,c,rfl,hq⟩
  unfold iU
  have:=h.gv_Shade
  have:=h.cs
  have:=@ZR
  walk_at "rd"
noncomputable def gL:CS:=(.iff (.no (.tst (.cal "is_shade" (.cons (.var 0) .nil)))) .nev .nil)
theorem DR (h:PT T):∀ xs G Q,iP xs G Q→wpS T gL (aJ Q) (aC 1 xs) G:=by
  rintro xs G Q ⟨a,b,c,rfl,hq⟩
  unfold gL
  have:=h.is_shade
  walk_at "rd"
noncomputable def iD:CS:=(.seq (.ex (.cal "need_shade" (.cons (.var 0) .nil)))
  (.ret (.tup (.cons (.att (.var 0) "ember") (.cons (.att (.var 0) "leaf") (.cons (.att (.var 0) "sky") .nil))))))
theorem CG {c:String} {ns:List Str} {xs:List PV} {f:Str} {v:PV} {G:Gh} {Q:PK1} (hf:(c,f)∈T.fl) (hl:(ns.zip xs).lookup f=some v):YB T (.ob c ns xs) f G Q=Q v G:=by
  refine propext ⟨fun h=>?_,fun q=>⟨_,_,_,_,.inl rfl,hf,hl,q⟩⟩
  obtain ⟨c',ns',xs',v',e,_,l,q⟩:=h
  rcases e with e | ⟨_,e,_⟩
  · cases e
    rw [hl] at l
    cases l
    exact q
  · cases e
theorem aFW (h:PT T) {a b c:Rat} {G:Gh} {Q:PK1}:YB T (SH a b c) "ember" G Q=Q (FQ a) G:=CG h.fl_e rfl
theorem aIe (h:PT T) {a b c:Rat} {G:Gh} {Q:PK1}:YB T (SH a b c) "leaf" G Q=Q (FQ b) G:=CG h.fl_l rfl
theorem aFe (h:PT T) {a b c:Rat} {G:Gh} {Q:PK1}:YB T (SH a b c) "sky" G Q=Q (FQ c) G:=CG h.fl_s rfl
theorem FT (h:PT T):∀ xs G Q,bG xs G Q→wpS T iD (aJ Q) (aC 1 xs) G:=by
  rintro xs G Q ⟨a,b,c,rfl,hq⟩
  unfold iD
  have:=h.need_shade
  have e1:=@aFW T h
  have e2:=@aIe T h
  have e3:=@aFe T h
  walk_at "rd"
noncomputable def eF:CS:=(.seq (.fr (.gt 2 (.cons (.gn 4) (.cons (.gn 5) .nil))) (.ien (.tup (.cons (.var 1) (.cons (.var 2) (.cons (.var 3) .nil))))) (.iff (.no (.tst (.cal "is_share" (.cons (.var 5) .nil)))) .nev .nil))
  (.seq (.fld (.var 0) "ember" (.var 1))
  (.seq (.fld (.var 0) "leaf" (.var 2))
  (.fld (.var 0) "sky" (.var 3)))))
theorem uK (h:PT T):∀ xs G Q,pR xs G Q→wpS T eF (aJ Q) (aC 6 xs) G:=by
  rintro xs G Q ⟨p,a,b,c,rfl,hp,⟨a1,a2⟩,⟨b1,b2⟩,⟨c1,c2⟩,hq⟩
  unfold eF
  have:=h.is_share
  walk_at "rd"
  refine ⟨"Shade",[],[],rfl,h.fl_e,by decide,"Shade",["ember"],[FQ a],aU,h.fl_l,by decide,"Shade",["ember","leaf"],[FQ a,FQ b],aU,h.fl_s,by decide, ?_⟩
  simp only [mW]
  exact Wk.here hq
theorem jD (h:PT T):WQ T "Shade" "Shade" "Shade.__init__":=by
  intro xs G Q q p hp
  rw [h.shade] at q
  rw [h.shadeI]
  obtain ⟨a,b,c,rfl,ha,hb,hc,q⟩:=q
  refine ⟨p,a,b,c,rfl,aU,ha,hb,hc,rfl,_,_,aU, ?_⟩
  rw [mW,aAZ hp]
  exact q
end
noncomputable def PU (x y z:Int):GO:=.lst [.int x,.int y,.int z]
noncomputable def Pu (p:Addr) (G:Gh):Prop:= ∃ x y z,G p=some (PU x y z)
noncomputable def Pn (p:Addr) (G G':Gh):Prop:= ∃ x y z,G'=gup G p (PU x y z)
theorem Pn.pu {p:Addr} {G G':Gh} (h:Pn p G G'):Pu p G':=let ⟨x,y,z,e⟩:=h; ⟨x,y,z,by rw [e]; exact aU⟩
theorem Pn.ne {p q:Addr} {G G':Gh} (h:Pn p G G') (n:q≠p):G' q=G q:=let ⟨x,y,z,e⟩:=h; by rw [e]; exact cU n
theorem Pn.trans {p:Addr} {G G1 G2:Gh} (a:Pn p G G1) (b:Pn p G1 G2):Pn p G G2:=let ⟨x,y,z,e⟩:=a; let ⟨x',y',z',e'⟩:=b; ⟨x',y',z',by rw [e',e,mW]⟩
theorem Pu.ne {p q:Addr} {G:Gh} (h:Pu p G) (n:G q=none):q≠p:=fun e=>by subst e; obtain ⟨_,_,_,e⟩:=h; rw [n] at e; cases e
theorem Pu.new {p q:Addr} {G:Gh} {o:GO} (h:Pu p G) (n:G q=none):Pu p (gup G q o):=let ⟨x,y,z,e⟩:=h; ⟨x,y,z,by rw [cU (Ne.symm (h.ne n))]; exact e⟩
theorem Pn.drop {p q:Addr} {G G1 G2:Gh} {o:GO} (h:Pn p (gup G q o) G1) (n:G q=none) (hp:Pu p G):∃ G',Pn p G G'∧∀ a u,G' a=some u→G1 a=some u:=by
  obtain ⟨x,y,z,e⟩:=h
  refine ⟨gup G p (PU x y z),⟨x,y,z,rfl⟩,fun a u q'=>?_⟩
  rw [e]
  by_cases ea:a=p
  · subst ea; rw [aU] at q' ⊢; exact q'
  · rw [cU ea] at q' ⊢
    have:a≠q:=fun z=>by subst z; rw [n] at q'; cases q'
    rw [cU this]; exact q'
noncomputable def kN:Sp3:=fun xs G Q=>∃ p m,xs=[.ref p,.int m]∧Pu p G∧0 < m∧Sm 8000 m∧∀ r G',0≤r→r < m→Pn p G G'→Q (.int r) G'
noncomputable def uG:Sp3:=fun xs G Q=>∃ (ns:List Int) (k:Int),xs=[.scr ns,.int k]∧0≤k∧k < 64∧∀ c,Q (.int c) G
noncomputable def mQ:Sp3:=fun xs G Q=>∃ c:Int,xs=[.int c]∧∀ p x y z,G p=none→Q (.ref p) (gup G p (PU x y z))
noncomputable def jC:Sp3:=fun xs G Q=>∃ p,xs=[.ref p]∧Pu p G∧∀ q G',In1 q→Bd 12 q→Pn p G G'→Q (FQ q) G'
noncomputable def mT:Sp3:=fun xs G Q=>∃ p,xs=[.ref p]∧Pu p G∧∀ a b c G',In1 a→In1 b→In1 c→Bd 12 a→Bd 12 b→Bd 12 c→Pn p G G'→Q (.tup [FQ a,FQ b,FQ c]) G'
noncomputable def BJ:Sp3:=fun xs G Q=>∃ p a b c,xs=[.ref p,.tup [FQ a,FQ b,FQ c]]∧Pu p G∧In1 a∧In1 b∧In1 c∧∀ G',Pn p G G'→Q (SH a b c) G'
noncomputable def jK:Sp3:=fun xs G Q=>∃ q,xs=[FQ q]∧Bd 8900 q∧Q (.bl true) G
structure LT (T:Tb):Prop where
  cell:T.S "_law_cell"=uG
  purse:T.S "_law_purse"=mQ
  pick:T.S "_law_pick"=kN
  whole:T.S "_law_whole"=cV
  low:T.S "_law_low"=bV
  plus:T.S "_law_plus"=gO
  minus:T.S "_law_minus"=eM
  times:T.S "_law_times"=dR
  over:T.S "_law_over"=jR
  below:T.S "_law_below"=kQ
  is_fraction:T.S "_law_is_fraction"=jK
  share:T.S "_law_share"=jC
  shares:T.S "_law_shares"=mT
structure LM (T:Tb):Prop where
  made:T.S "_law_made"=BJ
set_option hygiene false in
local macro_rules | `(tactic| walk_at "rd") => `(tactic| simp only [wpS, wpE, wpL, wpT, wpO, wpI, wpG, eV, aJ, aC, List.length_cons, List.length_nil, List.cons_append, List.nil_append, List.append_nil, List.replicate, Nat.reduceAdd, Nat.reduceSub, Nat.zero_add, List.getElem?_cons_zero, List.getElem?_cons_succ, List.set_cons_zero, List.set_cons_succ, Option.some.injEq, exists_eq_left', true_and, and_true, ite_self, fZ, dI, lS, rD, oU, iI, HJ, hW, BX, pU, vO, bK, NW, GC, bL, gE, FZ, HB, HQ, DL, sJ, bX, aG.1, aG.2.1, aG.2.2.1, CY, at0, at1, at2, aKn, aET, aDP, List.cons.injEq, PV.int.injEq, PV.bl.injEq, PV.str.injEq, PV.ref.injEq, PV.tup.injEq, and_assoc, exists_and_left, eq_self, KG, QV, aGo, KF, cV, bV, List.map, Bool.not_true, Bool.not_false, Bool.and_self, Bool.and_true, Bool.true_and, if_true, if_false, ite_true, ite_false, Bool.false_eq_true, decide_eq_true_eq, decide_true, decide_false, reduceCtorEq, sz2, sz3, Wk.here, *])
section
variable {T:Tb}
noncomputable def pG:CS:=gB
theorem RI (h:PT T):∀ xs G Q,cV xs G Q→wpS T pG (aJ Q) (aC 1 xs) G:=wG h
noncomputable def mE:CS:=(.seq (.sub (.var 0) (.int 2) (.bin .Add (.idx (.var 0) (.int 2)) (.int 1)))
  (.seq (.asg (.gn 2) (.bin .Mod (.idx (.var 0) (.int 0)) (.int 999999937)))
  (.seq (.sub (.var 0) (.int 0) (.bin .Add (.bin .Mult (.var 2) (.bin .Add (.bin .Mod (.var 2) (.int 50021)) (.int 20011))) (.bin .Mult (.int 90001) (.idx (.var 0) (.int 2)))))
  (.seq (.iff (.tsb (.cmp .Gt (.idx (.var 0) (.int 1)) (.int 0))) (.seq (.asg (.gn 3) (.bin .Mod (.idx (.var 0) (.int 1)) (.var 1)))
  (.seq (.sub (.var 0) (.int 1) (.bin .FloorDiv (.idx (.var 0) (.int 1)) (.var 1)))
  (.ret (.var 3)))) .nil)
  (.ret (.bin .Mod (.bin .FloorDiv (.bin .Mod (.idx (.var 0) (.int 0)) (.int 999999937)) (.int 16)) (.var 1)))))))
theorem YS {G:Gh} {p:Addr} {o:GO} (h:G p=some o):gup G p o=G:=by
  funext b; unfold gup; split
  · rename_i e; rw [e]; exact h.symm
  · rfl
theorem LL {x:Int} (a:0≤x) (b:x < 1000000000000):Sm 64 x:=by unfold Sm; omega
theorem XX:∀ xs G Q,kN xs G Q→wpS T mE (aJ Q) (aC 4 xs) G:=by
  rintro xs G Q ⟨p,m,rfl,⟨x,y,z,hp⟩,h0,h1,hq⟩
  unfold mE
  have e:G=gup G p (.lst [.int x,.int y,.int z]):=(YS hp).symm
  have fin:∀ r x' y' z',0≤r→r < m→Q (.int r) (gup G p (.lst [.int x',.int y',.int z'])):=fun r x' y' z' a b=>hq r _ a b ⟨x',y',z',rfl⟩
  generalize hG:gup G p (.lst [.int x,.int y,.int z])=G1 at e
  rw [←hG] at e
  rw [e]
  clear e hG
  walk_at "rd"
  refine ⟨by show (0:Int) < 999999937; decide,by show (0:Int) < 50021; decide,aA0 (LL (Int.emod_nonneg _ (by decide)) (Int.lt_trans (Int.emod_lt_of_pos _ (by decide)) (by decide))),aA0 (LL (by decide) (by decide)), ?_⟩
  split
  · exact ⟨h0,aB1 (k:=8000) h0 h1,Wk.here (fin _ _ _ _ (Int.emod_nonneg _ (by omega)) (Int.emod_lt_of_pos _ h0))⟩
  · exact ⟨by show (0:Int) < 999999937; decide,aB1 (k:=64) (by decide) (LL (by decide) (by decide)),h0,Wk.here (fin _ _ _ _ (Int.emod_nonneg _ (by omega)) (Int.emod_lt_of_pos _ h0))⟩
noncomputable def kB:CS:=(.ret (.lst true (.cons (.bin .Add (.bin .Mult (.bin .Mod (.var 0) (.int 999999937)) (.int 7001)) (.int 3301)) (.cons (.idx (.lst false (.cons (.int 0) (.cons (.var 0) .nil))) (.blt .int (.cons (.cmp .GtE (.var 0) (.bin .Pow (.int 10) (.int 18))) .nil))) (.cons (.int 0) .nil)))))
theorem UH:∀ xs G Q,mQ xs G Q→wpS T kB (aJ Q) (aC 1 xs) G:=by
  rintro xs G Q ⟨c,rfl,hq⟩
  unfold kB
  walk_at "rd"
  refine ⟨by show (0:Int) < 999999937; decide,aJ4 (LL (by decide) (by decide)),⟨by decide,by decide,by decide⟩, ?_⟩
  have e:∃ x,atI [PV.int 0,PV.int c] (if decide ((10:Int) ^ Int.toNat 18≤c)=true then 1 else 0)=some (.int x):=by
    split
    · exact ⟨_,at1⟩
    · exact ⟨_,at0⟩
  obtain ⟨x,e⟩:=e
  simp only [decide_eq_true_eq] at e
  refine ⟨_,e,fun p n=>Wk.here (hq p _ _ _ n)⟩
noncomputable def vY:CS:=(.seq (.par 2 3 (.blt .abs (.cons (.var 0) .nil)) (.var 1))
  (.seq (.wh (.tsb (.cmp .Gt (.var 3) (.int 0))) (.par 2 3 (.var 3) (.bin .Mod (.var 2) (.var 3))))
  (.ret (.tup (.cons (.bin .FloorDiv (.var 0) (.var 2)) (.cons (.bin .FloorDiv (.var 1) (.var 2)) .nil))))))
noncomputable def nU:CS:=(.seq (.iff (.tsb (.cmp .Lt (.var 1) (.int 0))) (.par 0 1 (.bin .Sub (.int 0) (.var 0)) (.bin .Sub (.int 0) (.var 1))) .nil) vY)
theorem ET {t b:Int} {G:Gh} {Q:PK1} (hb:0 < b) (sb:Sm 9000 b) (hq:Q (FQ (Rat.divInt t b)) G) :
    wpS T vY (aJ Q) [some (.int t),some (.int b),none,none] G:=by
  unfold vY
  walk_at "rd"
  refine ⟨fun m σ H=>∃ x y,σ=[some (.int t),some (.int b),some (.int x),some (.int y)]∧H=G∧0≤x∧0≤y∧Int.gcd x y=Int.gcd t b∧m=y.toNat,⟨_,_,_,rfl,rfl,by omega,by omega,CQ t b,rfl⟩, ?_⟩
  rintro m σ H ⟨x,y,rfl,rfl,hx,hy,hg,rfl⟩
  walk_at "rd"
  split
  · rename_i hy0
    have h2:=Int.emod_lt_of_pos x (show 0 < y by omega)
    have h3:=Int.emod_nonneg x (show y≠0 by omega)
    exact ⟨by show 0 < y; omega,(x % y).toNat,by omega,h3,(EL hx (by omega)).trans hg,rfl⟩
  · rename_i hy0
    have e:y=0:=by omega
    subst e
    have g:x=((Int.gcd t b:Nat):Int):=by rw [←hg,Int.gcd_zero_right]; omega
    obtain ⟨d1,d2⟩:=BK (t:=t) (b:=b) hb sb
    subst g
    refine ⟨d1,d2,Wk.here ?_⟩
    rw [←KM hb]; exact hq
theorem aC2:∀ xs G Q,bV xs G Q→wpS T nU (aJ Q) (aC 4 xs) G:=by
  rintro xs G Q ⟨t,b,rfl,h0,sb,hq⟩
  unfold nU
  have e0:∀ x:Int,0 - x= -x:=fun x=>by omega
  walk_at "rd"
  split
  · rename_i hb
    refine ET (by omega) sb.neg ?_
    rw [Rat.neg_divInt_neg]; exact hq
  · rename_i hb
    exact ET (by omega) sb hq
noncomputable def lV:CS:=(.ret (.cal "_law_low" (.cons (.bin .Add (.bin .Mult (.idx (.var 0) (.int 0)) (.idx (.var 1) (.int 1))) (.bin .Mult (.idx (.var 1) (.int 0)) (.idx (.var 0) (.int 1)))) (.cons (.bin .Mult (.idx (.var 0) (.int 1)) (.idx (.var 1) (.int 1))) .nil))))
theorem ZG (h:LT T):∀ xs G Q,gO xs G Q→wpS T lV (aJ Q) (aC 2 xs) G:=by
  rintro xs G Q ⟨a,b,rfl,ha,hb,hq⟩
  unfold lV
  have:=h.low
  walk_at "rd"
  refine ⟨lM ha.1 hb.2,lM hb.1 ha.2,lM ha.2 hb.2,hU bM bM,RL ha hb,Wk.here ?_⟩
  rw [aAs]; exact hq
noncomputable def kF:CS:=(.ret (.cal "_law_low" (.cons (.bin .Sub (.bin .Mult (.idx (.var 0) (.int 0)) (.idx (.var 1) (.int 1))) (.bin .Mult (.idx (.var 1) (.int 0)) (.idx (.var 0) (.int 1)))) (.cons (.bin .Mult (.idx (.var 0) (.int 1)) (.idx (.var 1) (.int 1))) .nil))))
theorem OT (h:LT T):∀ xs G Q,eM xs G Q→wpS T kF (aJ Q) (aC 2 xs) G:=by
  rintro xs G Q ⟨a,b,rfl,ha,hb,hq⟩
  unfold kF
  have:=h.low
  walk_at "rd"
  refine ⟨lM ha.1 hb.2,lM hb.1 ha.2,lM ha.2 hb.2,hU bM bM,RL ha hb,Wk.here ?_⟩
  rw [NR]; exact hq
noncomputable def kI:CS:=(.ret (.cal "_law_low" (.cons (.bin .Mult (.idx (.var 0) (.int 0)) (.idx (.var 1) (.int 0))) (.cons (.bin .Mult (.idx (.var 0) (.int 1)) (.idx (.var 1) (.int 1))) .nil))))
theorem SN (h:LT T):∀ xs G Q,dR xs G Q→wpS T kI (aJ Q) (aC 2 xs) G:=by
  rintro xs G Q ⟨a,b,rfl,ha,hb,hq⟩
  unfold kI
  have:=h.low
  walk_at "rd"
  refine ⟨lM ha.1 hb.1,lM ha.2 hb.2,hU bM bM,RL ha hb,Wk.here ?_⟩
  rw [YT]; exact hq
noncomputable def eS:CS:=(.seq (.iff (.oo (.no (.tst (.blt .isi (.cons (.var 0) (.cons (.glo "tuple") .nil))))) (.oo (.tsb (.cmp .NotEq (.blt .len (.cons (.var 0) .nil)) (.int 2))) (.oo (.no (.tst (.cal "_law_whole" (.cons (.idx (.var 0) (.int 0)) .nil)))) (.no (.tst (.cal "_law_whole" (.cons (.idx (.var 0) (.int 1)) .nil))))))) (.ret (.bl false)) .nil)
  (.ret (.an (.cmp .Gt (.idx (.var 0) (.int 1)) (.int 0)) (.cmp .Eq (.cal "_law_low" (.cons (.idx (.var 0) (.int 0)) (.cons (.idx (.var 0) (.int 1)) .nil))) (.var 0)))))
theorem VT {q:Rat}:shp (FQ q)=true:=rfl
theorem VC {G:Gh} {q:Rat}:pur G (FQ q)=FQ q:=rfl
theorem JU {a b:Rat}:peq (FQ a) (FQ b)=decide (a=b):=by
  have:peq (FQ a) (FQ b)=(a.num == b.num && ((a.den:Int) == (b.den:Int) && true)):=by unfold FQ; simp only [peq,rE]
  rw [this,Bool.and_true,Bool.eq_iff_iff,Bool.and_eq_true,decide_eq_true_eq,beq_iff_eq,beq_iff_eq]
  exact ⟨fun ⟨x,y⟩=>Rat.ext x (by omega),fun e=>by rw [e]; exact ⟨rfl,rfl⟩⟩
theorem NI {G:Gh} {Q:PK1} {a b:Rat}:pEq false (FQ a) (FQ b) G Q=Q (.bl (decide (a=b))) G:=by
  show (shp (pur G (FQ a))=true∧shp (pur G (FQ b))=true∧Q (.bl (peq (FQ a) (FQ b))) G)=_
  rw [VC,VC,VT,VT,JU]; simp
theorem vE (hp:PT T) (h:LT T):∀ xs G Q,jK xs G Q→wpS T eS (aJ Q) (aC 1 xs) G:=by
  rintro xs G Q ⟨q,rfl,hb,hq⟩
  unfold eS
  have:=hp.ty_tuple
  have:=h.whole
  have:=h.low
  have:=gD (q:=q)
  have:=hb.2.mono (show 8900≤9000 by decide)
  have:=bM (q:=q)
  have:=Rat.num_divInt_den q
  have:=@NI
  walk_at "rd"
  exact bM
end
set_option hygiene false in
local macro_rules | `(tactic| walk_at "rd") => `(tactic| simp only [wpS, wpE, wpL, wpT, wpO, wpI, wpG, eV, aJ, aC, List.length_cons, List.length_nil, List.cons_append, List.nil_append, List.append_nil, List.replicate, Nat.reduceAdd, Nat.reduceSub, Nat.zero_add, List.getElem?_cons_zero, List.getElem?_cons_succ, List.set_cons_zero, List.set_cons_succ, Option.some.injEq, exists_eq_left', true_and, and_true, exists_false, ite_self, false_and, and_false, or_false, fZ, dI, rD, iI, hW, BX, bK, cM, dH, UO, gE, FZ, wC, mO, sJ, bX, FU, aG.1, aG.2.1, aG.2.2.1, at0, at1, at2, List.cons.injEq, PV.int.injEq, PV.bl.injEq, PV.str.injEq, PV.ref.injEq, PV.tup.injEq, and_assoc, exists_and_left, eq_self, iX, bV, Int.reduceToNat, Int.reducePow, eT, dE, sW, uJ, Option.getD_some, List.map, kN, jC, nA, Bool.not_true, Bool.not_false, Bool.and_self, Bool.and_true, Bool.true_and, if_true, if_false, ite_true, ite_false, Bool.false_eq_true, decide_eq_true_eq, decide_true, decide_false, reduceCtorEq, sz3, Wk.here, *])
section
variable {T:Tb}
noncomputable def mI:CS:=(.seq (.iff (.tsb (.cmp .Lt (.var 1) (.blt .len (.cons (.var 0) .nil)))) (.ret (.idx (.var 0) (.var 1))) .nil)
  (.seq (.asg (.gn 2) (.bin .Mod (.bin .Mult (.int 60013) (.bin .Add (.bin .Add (.bin .Mult (.var 1) (.var 1)) (.bin .Mult (.int 7) (.var 1))) (.int 3))) (.int 999999937)))
  (.seq (.fr (.gn 3) (.isq (.sli (.var 0) .nil (.tst (.int 4)))) (.asg (.gn 2) (.bin .Mod (.bin .Add (.bin .Mult (.var 2) (.int 30103)) (.var 3)) (.int 999999937))))
  (.ret (.var 2)))))
theorem rL {g:PTG} {tb:PTS} {D:dF} (I:PSt→Gh→Prop):∀ {xs:List PV} {σ:PSt} {G:Gh},I σ G→(∀ x∈xs,∀ σ G R,I σ G→(∀ σ' G',I σ' G'→R σ' G')→g x σ G fun σ2 G2=>tb { D with nx:=R,ct:=R,bk:=D.nx } σ2 G2)→(∀ σ G,I σ G→D.nx σ G)→oZ (fun _=>True) g tb D xs σ G
  | [],σ,G,h,_,hd=>⟨trivial,hd σ G h⟩
  | x :: r,σ,G,h,hs,hd=>⟨trivial,hs x (List.mem_cons_self ..) σ G _ h fun σ' G' h'=>rL I h' (fun y hy=>hs y (List.mem_cons_of_mem _ hy)) hd⟩
theorem aAv {ns:List Int} {lo hi:Option Int} {G:Gh} {Q:PK1}:VY (.scr ns) lo hi G Q=Q (.lst (pO (ns.map .int) lo hi)) G:=rfl
theorem VD:∀ xs G Q,uG xs G Q→wpS T mI (aJ Q) (aC 4 xs) G:=by
  rintro xs G Q ⟨ns,k,rfl,h0,h1,hq⟩
  unfold mI
  have:=@aAv
  walk_at "rd"
  split
  · rename_i hk
    obtain ⟨j,rfl⟩:=Int.eq_ofNat_of_zero_le h0
    have hj:j < ns.length:=by omega
    exact ⟨ns[j],eN (by simp [hj])⟩
  · have sk:Sm 64 k:=LL h0 (by omega)
    refine ⟨aA0 sk,aJ4 sk,aA0 (LL (by decide) (by decide)),by show (0:Int) < 999999937; decide, ?_⟩
    refine rL (fun σ G'=>G'=G∧∃ st u,σ=[some (.scr ns),some (.int k),some (.int st),u]∧0≤st∧st < 999999937) ⟨rfl,_,_,rfl,Int.emod_nonneg _ (by decide),Int.emod_lt_of_pos _ (by decide)⟩ ?_ ?_
    · rintro x hx σ G' R ⟨rfl,st,u,rfl,a1,a2⟩ hR
      have hx':x∈ns.map PV.int:=by
        unfold pO at hx
        exact List.mem_of_mem_drop (List.mem_of_mem_take hx)
      obtain ⟨c,_,rfl⟩:=List.mem_map.mp hx'
      walk_at "rd"
      exact ⟨aA0 (LL a1 (by omega)),by show (0:Int) < 999999937; decide,hR _ _ ⟨rfl,_,_,rfl,Int.emod_nonneg _ (by decide),Int.emod_lt_of_pos _ (by decide)⟩⟩
    · rintro σ G' ⟨rfl,st,u,rfl,a1,a2⟩
      walk_at "rd"
theorem aGM {r k:Int} (a:0≤r) (b:r < 10) (c:0≤k) (d:k < 997):∃ v,atI [PV.int 1,PV.int 2,PV.int 3,PV.int 4,PV.int 6,PV.int 12,PV.int 60,PV.int 255,PV.int 510,PV.int (1 + k)] r=some (.int v)∧1≤v∧v≤997:=by
  have e:r=0∨r=1∨r=2∨r=3∨r=4∨r=5∨r=6∨r=7∨r=8∨r=9:=by omega
  rcases e with rfl | rfl | rfl | rfl | rfl | rfl | rfl | rfl | rfl | rfl
  · exact ⟨_,at0,by omega,by omega⟩
  · exact ⟨_,at1,by omega,by omega⟩
  · exact ⟨_,at2,by omega,by omega⟩
  · exact ⟨_,at3,by omega,by omega⟩
  · exact ⟨_,at4,by omega,by omega⟩
  · exact ⟨_,eN (j:=5) rfl,by omega,by omega⟩
  · exact ⟨_,eN (j:=6) rfl,by omega,by omega⟩
  · exact ⟨_,eN (j:=7) rfl,by omega,by omega⟩
  · exact ⟨_,eN (j:=8) rfl,by omega,by omega⟩
  · exact ⟨_,eN (j:=9) rfl,by omega,by omega⟩
noncomputable def jT:CS:=(.seq (.asg (.gn 1) (.cal "_law_pick" (.cons (.var 0) (.cons (.int 10) .nil))))
  (.seq (.asg (.gn 2) (.idx (.lst false (.cons (.int 1) (.cons (.int 2) (.cons (.int 3) (.cons (.int 4) (.cons (.int 6) (.cons (.int 12) (.cons (.int 60) (.cons (.int 255) (.cons (.int 510) (.cons (.bin .Add (.int 1) (.cal "_law_pick" (.cons (.var 0) (.cons (.int 997) .nil)))) .nil))))))))))) (.var 1)))
  (.ret (.cal "_law_low" (.cons (.cal "_law_pick" (.cons (.var 0) (.cons (.bin .Add (.var 2) (.int 1)) .nil))) (.cons (.var 2) .nil))))))
theorem smP {x:Int} (a:0≤x) (b:x < 1000000000000):Sm 8000 x:=smK (by omega) b (by decide)
theorem aB2 {t b:Int} (h0:0≤t) (h1:t≤b) (hb:0 < b):In1 (Rat.divInt t b):=by
  constructor
  · exact Rat.divInt_nonneg h0 (by omega)
  · rw [Rat.divInt_eq_div]
    have hb':(0:Rat) < (b:Rat):=Rat.intCast_pos.mpr hb
    have h2:(t:Rat)≤(b:Rat):=Rat.intCast_le_intCast.mpr h1
    have h3:(t:Rat) / (b:Rat) * (b:Rat)=(t:Rat):=Rat.div_mul_cancel (by grind)
    refine Rat.le_of_mul_le_mul_right (c:=(b:Rat)) ?_ hb'
    grind
theorem aF0 {t b:Int} {n:Nat} (ht:Sm n t) (hb:Sm n b) (h0:b≠0):Bd n (Rat.divInt t b):=Bd.divInt ht hb h0
theorem SZ (h:LT T):∀ xs G Q,jC xs G Q→wpS T jT (aJ Q) (aC 3 xs) G:=by
  rintro xs G Q ⟨p,rfl,hp,hq⟩
  unfold jT
  have:=h.pick
  have:=h.low
  walk_at "rd"
  refine ⟨by decide,smP (by decide) (by decide),fun r1 G1 a1 b1 n1=>⟨n1.pu,by decide,smP (by decide) (by decide),fun r2 G2 a2 b2 n2=>?_⟩⟩
  obtain ⟨v,e,c1,c2⟩:=aGM a1 b1 a2 b2
  refine ⟨by decide,_,e, ?_⟩
  walk_at "rd"
  refine ⟨n2.pu,by omega,smP (by omega) (by omega),fun r3 G3 a3 b3 n3=>?_⟩
  refine ⟨by omega,smK (by omega) (by omega) (by decide),Wk.here (hq _ _ (aB2 a3 (by omega) (by omega)) (aF0 ?_ ?_ (by omega)) ((n1.trans n2).trans n3))⟩
  · unfold Sm; omega
  · unfold Sm; omega
noncomputable def Pk (p:Addr) (G K:Gh):Prop:= ∃ G',Pn p G G'∧∀ a u,G' a=some u→K a=some u
theorem Pk.of {p:Addr} {G G':Gh} (h:Pn p G G'):Pk p G G':=⟨G',h,fun _ _ z=>z⟩
theorem Pk.new {p l:Addr} {G K:Gh} {o:GO} (h:Pk p G K) (n:K l=none):Pk p G (gup K l o):=by
  obtain ⟨G',a,b⟩:=h
  refine ⟨G',a,fun x u q=>?_⟩
  have:=b x u q
  rw [cU (fun e=>by rw [e,n] at this; cases this)]; exact this
theorem Pk.set {p l:Addr} {G K:Gh} {o:GO} (h:Pk p G K) (n:G l=none) (ne:l≠p):Pk p G (gup K l o):=by
  obtain ⟨G',a,b⟩:=h
  refine ⟨G',a,fun x u q=>?_⟩
  have e:x≠l:=fun e=>by rw [e,a.ne ne,n] at q; cases q
  rw [cU e]; exact b x u q
theorem Pk.pick {p:Addr} {G K K':Gh} (h:Pk p G K) (m:Pn p K K'):Pk p G K':=by
  obtain ⟨G',a,b⟩:=h
  obtain ⟨x,y,z,e⟩:=m
  refine ⟨gup G' p (PU x y z),a.trans ⟨x,y,z,rfl⟩,fun c u q=>?_⟩
  rw [e]
  by_cases ec:c=p
  · subst ec; rw [aU] at q ⊢; exact q
  · rw [cU ec] at q ⊢; exact b c u q
theorem Pk.end_ {p:Addr} {G K:Gh} {Q:PK1} {x:PV} (h:Pk p G K) (q:∀ G',Pn p G G'→Q x G'):Wk Q x K:=let ⟨G',a,b⟩:=h; Wk.of (q G' a) b
noncomputable def iS:CS:=(.seq (.asg (.gn 1) (.cal "_law_pick" (.cons (.var 0) (.cons (.int 8) .nil))))
  (.seq (.asg (.gn 2) (.cmpr true (.gn 1) (.irg (.cons (.int 3) .nil)) .nil (.cal "_law_share" (.cons (.var 2) .nil)) [none,none,some 0]))
  (.seq (.iff (.tsb (.cmp .Eq (.var 1) (.int 1))) (.sub (.var 2) (.bin .Add (.int 1) (.cal "_law_pick" (.cons (.var 0) (.cons (.int 2) .nil)))) (.idx (.var 2) (.int 0))) .nil)
  (.seq (.iff (.tsb (.cmp .Eq (.var 1) (.int 3))) (.asg (.gn 2) (.lst true (.cons (.idx (.var 2) (.int 0)) (.cons (.idx (.var 2) (.int 0)) (.cons (.idx (.var 2) (.int 0)) .nil))))) .nil)
  (.ret (.blt .tuple (.cons (.var 2) .nil)))))))
theorem zQ {j:Int} {R:Int→Prop} {A:Int→Int→Prop}:((∃ k,[PV.int j]=[PV.int k]∧R k)∨(∃ i k,[PV.int j]=[PV.int i,PV.int k]∧A i k))=R j:=propext
  ⟨fun h=>h.elim (fun ⟨_,e,r⟩=>by cases e; exact r) (fun ⟨_,_,e,_⟩=>by cases e),fun r=>.inl ⟨_,rfl,r⟩⟩
theorem MO (h:LT T):∀ xs G Q,mT xs G Q→wpS T iS (aJ Q) (aC 3 xs) G:=by
  rintro xs G Q ⟨p,rfl,hp,hq⟩
  unfold iS
  have:=h.pick
  have:=h.share
  walk_at "rd"
  refine ⟨by decide,smP (by decide) (by decide),fun r1 G1 a1 b1 n1=>?_⟩
  refine ⟨by decide,by decide,n1.pu,fun q1 G2 i1 d1 m1=>⟨m1.pu,fun q2 G3 i2 d2 m2=>⟨m2.pu,fun q3 G4 i3 d3 m3 l hl=>?_⟩⟩⟩
  have nn:=((n1.trans m1).trans m2).trans m3
  have lp:l≠p:=m3.pu.ne hl
  have gl:G l=none:=by rw [←nn.ne lp]; exact hl
  have k0:Pk p G (gup G4 l (.lst [FQ q1,FQ q2,FQ q3])):=(Pk.of nn).new hl
  split
  · rename_i e1
    refine ⟨m3.pu.new hl,by decide,smP (by decide) (by decide),fun r G5 a b m4=>?_⟩
    have g5:G5 l=some (.lst [FQ q1,FQ q2,FQ q3]):=by rw [m4.ne lp]; exact aU
    have hr:r=0∨r=1:=by omega
    rw [GF g5]
    have ne3:¬r1=3:=by omega
    have k1:∀ o,Pk p G (gup G5 l o):=fun o=>(k0.pick m4).set gl lp
    rcases hr with rfl | rfl
    · refine ⟨1,aET, ?_⟩
      rw [if_neg ne3,mO]
      exact (k1 _).end_ fun G' g=>hq _ _ _ G' i1 i1 i3 d1 d1 d3 g
    · refine ⟨2,aDP, ?_⟩
      rw [if_neg ne3,mO]
      exact (k1 _).end_ fun G' g=>hq _ _ _ G' i1 i2 i1 d1 d2 d1 g
  · split
    · intro l2 hl2
      exact (k0.new hl2).end_ fun G' g=>hq _ _ _ G' i1 i1 i1 d1 d1 d1 g
    · exact k0.end_ fun G' g=>hq _ _ _ G' i1 i2 i3 d1 d2 d3 g
noncomputable def mD:CS:=(.seq (.iff (.tsb (.cmp .Eq (.cal "_law_pick" (.cons (.var 0) (.cons (.int 2) .nil))) (.int 1))) (.ret (.cak "Shade" .nil (.cons (.idx (.var 1) (.int 2)) (.cons (.idx (.var 1) (.int 0)) (.cons (.idx (.var 1) (.int 1)) .nil))) [.arg 1,.arg 2,.arg 0])) .nil)
  (.ret (.cal "Shade" (.cons (.idx (.var 1) (.int 0)) (.cons (.idx (.var 1) (.int 1)) (.cons (.idx (.var 1) (.int 2)) .nil))))))
theorem aAM (hp:PT T) (h:LT T):∀ xs G Q,BJ xs G Q→wpS T mD (aJ Q) (aC 2 xs) G:=by
  rintro xs G Q ⟨p,a,b,c,rfl,hpu,ha,hb,hc,hq⟩
  unfold mD
  have:=h.pick
  have:=hp.shade
  walk_at "rd"
  refine ⟨by decide,smP (by decide) (by decide),fun r1 G1 a1 b1 n1=>?_⟩
  have:=hq G1 n1
  simp only [Ar.val,List.getD_cons_zero,List.getD_cons_succ]
  walk_at "rd"
end
noncomputable abbrev R3:=Rat×Rat×Rat
noncomputable def shV (r:R3):PV:=SH r.1 r.2.1 r.2.2
theorem bd0:Bd 2 0:=⟨by unfold Sm; decide,by unfold Sm; decide⟩
noncomputable def uS:Sp3:=fun xs G Q=>∃ a b c a' b' c',xs=[SH a b c,SH a' b' c']∧Q (.bl (decide (a=a') && (decide (b=b') && decide (c=c')))) G
theorem aD7 {a b c:Rat}:shp (.tup [FQ a,FQ b,FQ c])=true:=rfl
theorem HN:rE [] []=true:=by simp only [rE]
theorem zU {x y:PV} {xs ys:List PV}:rE (x :: xs) (y :: ys)=(peq x y && rE xs ys):=by simp only [rE]
theorem aGP {G:Gh} {Q:PK1} {a b c a' b' c':Rat}:pEq false (.tup [FQ a,FQ b,FQ c]) (.tup [FQ a',FQ b',FQ c']) G Q=Q (.bl (decide (a=a') && (decide (b=b') && decide (c=c')))) G:=by
  show (shp (.tup [FQ a,FQ b,FQ c])=true∧shp (.tup [FQ a',FQ b',FQ c'])=true∧Q (.bl (peq (.tup [FQ a,FQ b,FQ c]) (.tup [FQ a',FQ b',FQ c']))) G)=_
  simp only [aD7,true_and,peq,zU,HN,JU,Bool.and_true]
theorem aCQ {G:Gh} {Q:PK1} {a b c a' b' c':Rat}:pEq true (.tup [FQ a,FQ b,FQ c]) (.tup [FQ a',FQ b',FQ c']) G Q=Q (.bl (!(decide (a=a') && (decide (b=b') && decide (c=c'))))) G:=by
  show (shp (.tup [FQ a,FQ b,FQ c])=true∧shp (.tup [FQ a',FQ b',FQ c'])=true∧Q (.bl (!peq (.tup [FQ a,FQ b,FQ c]) (.tup [FQ a',FQ b',FQ c']))) G)=_
  simp only [aD7,true_and,peq,zU,HN,JU,Bool.and_true]
theorem av0 {xs:List PV} {x:PV}:Ar.val (x :: xs) (.arg 0)=x:=rfl
theorem av1 {xs:List PV} {x y:PV}:Ar.val (x :: y :: xs) (.arg 1)=y:=rfl
theorem av2 {xs:List PV} {x y z:PV}:Ar.val (x :: y :: z :: xs) (.arg 2)=z:=rfl
theorem avn {xs:List PV}:Ar.val xs .non= .non:=rfl
set_option hygiene false in
local macro_rules | `(tactic| walk_at "rd") => `(tactic| simp only [wpS, wpE, wpL, wpT, wpO, wpI, wpG, eV, aJ, aC, List.length_cons, List.length_nil, List.cons_append, List.nil_append, List.append_nil, List.replicate, Nat.reduceAdd, Nat.reduceSub, Nat.zero_add, List.getElem?_cons_zero, List.getElem?_cons_succ, List.set_cons_zero, List.set_cons_succ, Option.some.injEq, exists_eq_left', true_and, and_true, ite_self, bK, bL, aG.1, aG.2.1, aG.2.2.1, List.cons.injEq, PV.int.injEq, PV.bl.injEq, PV.str.injEq, PV.ref.injEq, PV.tup.injEq, and_assoc, exists_and_left, eq_self, iX, ZR, Int.reduceToNat, Int.reducePow, lR, List.map, nA, bG, Bool.not_true, Bool.not_false, Bool.and_self, Bool.and_true, Bool.true_and, if_true, if_false, ite_true, ite_false, Bool.false_eq_true, decide_eq_true_eq, decide_true, decide_false, reduceCtorEq, Wk.here, aGP, *])
section
variable {T:Tb}
noncomputable def iW:CS:=(.seq (.asg (.gl 3 (.cons (.gn 1) (.cons (.gn 2) (.cons (.gn 3) .nil)))) (.var 0))
  (.ret (.cal "Shade" (.cons (.var 1) (.cons (.var 2) (.cons (.var 3) .nil))))))
theorem HS (h:PT T):∀ xs G Q,gY xs G Q→wpS T iW (aJ Q) (aC 4 xs) G:=by
  rintro xs G Q ⟨x,a,b,c,rfl,hx,ia,ib,ic,hq⟩
  unfold iW
  have:=h.shade
  walk_at "rd"
noncomputable def fB:CS:=(.ret (.an (.blt .isi (.cons (.var 1) (.cons (.glo "Shade") .nil))) (.cmp .Eq (.cal "shares_of" (.cons (.var 0) .nil)) (.cal "shares_of" (.cons (.var 1) .nil)))))
theorem wK (h:PT T):∀ xs G Q,uS xs G Q→wpS T fB (aJ Q) (aC 2 xs) G:=by
  rintro xs G Q ⟨a,b,c,a',b',c',rfl,hq⟩
  unfold fB
  have:=h.shares_of
  have:=h.gv_Shade
  have:=h.cs
  walk_at "rd"
end
noncomputable def sg:Nat→Nat | 0=>0 | 1=>1 | 2=>1 | 3=>2 | 4=>2 | _=>0
noncomputable def sl:Nat→Nat | 0=>2 | 1=>2 | 2=>0 | 3=>0 | 4=>1 | _=>1
noncomputable def sm:Nat→Nat | 0=>1 | 1=>0 | 2=>2 | 3=>1 | 4=>0 | _=>2
noncomputable def ss:Nat→Int | 0=>0 | 1=>2 | 2=>2 | 3=>4 | 4=>4 | _=>6
noncomputable def sw:Nat→Int | 0=>1 | 1=> -1 | 2=>1 | 3=> -1 | 4=>1 | _=> -1
noncomputable def p3 (i:Nat) (a b c:Rat):Rat:=match i with | 0=>a | 1=>b | _=>c
noncomputable def MG (k:Nat) (a b c:Rat):Bool:= !decide (p3 (sg k) a b c < p3 (sm k) a b c) && !decide (p3 (sm k) a b c < p3 (sl k) a b c)
noncomputable def kOf (a b c:Rat):Nat:=if MG 0 a b c=true then 0 else if MG 1 a b c=true then 1 else if MG 2 a b c=true then 2 else if MG 3 a b c=true then 3 else if MG 4 a b c=true then 4 else 5
noncomputable def lo (a b c:Rat):Rat:=p3 (sl (kOf a b c)) a b c
noncomputable def hi (a b c:Rat):Rat:=p3 (sg (kOf a b c)) a b c
noncomputable def mi (a b c:Rat):Rat:=p3 (sm (kOf a b c)) a b c
noncomputable def tn (a b c:Rat):Rat:=(ss (kOf a b c):Rat) + (sw (kOf a b c):Rat) * ((mi a b c - lo a b c) / (hi a b c - lo a b c))
noncomputable def tO (a b c:Rat):Option Rat:=if hi a b c=lo a b c then none else some (tn a b c)
noncomputable def c0 (t:Rat):Rat:=if t≤1 then 1 else if t≤2 then 2 - t else if t≤4 then 0 else if t≤5 then t - 4 else 1
noncomputable def c1 (t:Rat):Rat:=if t≤1 then t else if t≤3 then 1 else if t≤4 then 4 - t else 0
noncomputable def c2 (t:Rat):Rat:=if t≤2 then 0 else if t≤3 then t - 2 else if t≤5 then 1 else 6 - t
noncomputable def At (w g t a b c:Rat):Prop:=a=w + c0 t * (g - w)∧b=w + c1 t * (g - w)∧c=w + c2 t * (g - w)
noncomputable def r6 (q:Rat):Rat:=q - ((6 * (q.num / (6 * (q.den:Int))):Int):Rat)
theorem sub_int (q:Rat) (z:Int):(q - (z:Rat)).num=q.num - z * (q.den:Int)∧(q - (z:Rat)).den=q.den:=by
  have e:q - (z:Rat)=Rat.divInt (q.num - z * (q.den:Int)) (q.den:Int):=by
    have:=NR q (z:Rat)
    rw [←this]
    show Rat.divInt (q.num * ((1:Nat):Int) - z * (q.den:Int)) ((q.den:Int) * ((1:Nat):Int))=_
    congr 1 <;> omega
  have hd:=gD (q:=q)
  have g:Int.gcd (q.den:Int) (q.num - z * (q.den:Int))=1:=by
    rw [Int.gcd_sub_mul_right_right]
    have:=q.reduced
    rw [Int.gcd_comm]; exact this
  constructor
  · rw [e,Rat.num_divInt,g,Int.sign_eq_one_of_pos hd]; simp
  · rw [e,Rat.den_divInt,if_neg (by omega),g]; simp
noncomputable def stV (k:Nat):PV:=.tup [.int (sg k:Int),.int (sl k:Int),.int (sm k:Int),.int (ss k),.int (sw k)]
noncomputable def tV:Option Rat→PV
  | none=>.non
  | some t=>FQ t
noncomputable def aGk (a b c:Rat):PV:=.tup [tV (tO a b c),FQ (lo a b c),FQ (1 - hi a b c)]
noncomputable def TOk (w b:Rat):Option Rat→Prop
  | none=>w + b=1
  | some t=>(0≤t∧t < 6)∧w + b < 1
noncomputable def TBd (n:Nat):Option Rat→Prop
  | none=>True
  | some t=>Bd n t
noncomputable def BW (w b:Rat) (o:Option Rat) (x y z:Rat):Prop:=match o with
  | none=>x=w∧y=w∧z=w
  | some t=>At w (1 - b) t x y z
noncomputable def rot (n:Int) (a b c:Rat):R3:=if n % 3=0 then (a,b,c) else if n % 3=1 then (c,a,b) else (b,c,a)
noncomputable def HW:Sp3:=fun xs G Q=>∃ a b,xs=[FQ a,FQ b]∧Bd 4000 a∧Bd 4000 b∧Q (.bl (decide (a < b))) G
noncomputable def BC:Sp3:=fun xs G Q=>∃ a b c k,xs=[.tup [FQ a,FQ b,FQ c],stV k]∧Bd 4000 a∧Bd 4000 b∧Bd 4000 c∧Q (.bl (MG k a b c)) G
noncomputable def zP:Sp3:=fun xs G Q=>∃ a b c,xs=[.tup [FQ a,FQ b,FQ c]]∧Bd 4000 a∧Bd 4000 b∧Bd 4000 c∧Q (stV (kOf a b c)) G
noncomputable def NH:Sp3:=fun xs G Q=>∃ a b c,xs=[SH a b c]∧Bd 600 a∧Bd 600 b∧Bd 600 c∧Q (aGk a b c) G
noncomputable def CZ:Sp3:=fun xs G Q=>∃ a,xs=[FQ a]∧0≤a∧Q (.bl true) G
noncomputable def aBY:Sp3:=fun xs G Q=>∃ w b o,xs=[FQ w,FQ b,tV o]∧TOk w b o∧Bd 600 w∧Bd 600 b∧TBd 3000 o∧Q .non G
noncomputable def aIT:Sp3:=fun xs G Q=>∃ w b o,xs=[FQ w,FQ b,tV o]∧0≤w∧0≤b∧TOk w b o∧Bd 300 w∧Bd 300 b∧TBd 1100 o∧∀ x y z,BW w b o x y z→Q (SH x y z) G
noncomputable def FS:Sp3:=fun xs G Q=>∃ p,xs=[FQ p]∧In1 p∧Q (FQ p) G
noncomputable def WB:Sp3:=fun xs G Q=>∃ a b c q p,xs=[SH a b c,FQ q,FQ p]∧(In1 a∧In1 b∧In1 c)∧In1 q∧In1 p∧(Bd 260 a∧Bd 260 b∧Bd 260 c)∧Bd 2 q∧Bd 12 p∧Q (SH (a + p * (q - a)) (b + p * (q - b)) (c + p * (q - c))) G
noncomputable def aAO (q:Rat):Sp3:=fun xs G Q=>∃ a b c p,xs=[SH a b c,FQ p]∧(In1 a∧In1 b∧In1 c)∧In1 p∧(Bd 260 a∧Bd 260 b∧Bd 260 c)∧Bd 12 p∧Q (SH (a + p * (q - a)) (b + p * (q - b)) (c + p * (q - c))) G
noncomputable def aJo:Sp3:=fun xs G Q=>∃ a b c,xs=[SH a b c]∧(In1 a∧In1 b∧In1 c)∧(Bd 260 a∧Bd 260 b∧Bd 260 c)∧Q (SH (1 - a) (1 - b) (1 - c)) G
noncomputable def HG:Sp3:=fun xs G Q=>∃ a b c n,xs=[SH a b c,.int n]∧(In1 a∧In1 b∧In1 c)∧Q (shV (rot n a b c)) G
noncomputable def aGw:Sp3:=fun xs G Q=>xs=[SH 0 0 0]∧Q (.int 0) G
noncomputable def RC:Sp3:=fun xs G Q=>∃ p,xs=[.ref p]∧Pu p G∧∀ w b o G',0≤w→0≤b→TOk w b o→Bd 12 w→Bd 40 b→TBd 12 o→Pn p G G'→Q (.tup [FQ w,FQ b,tV o]) G'
noncomputable def aCC:Sp3:=fun xs G Q=>∃ o n,xs=[tV o,.int n]∧TBd 1100 o∧Sm 80 n∧Q (tV (o.map fun t=>r6 (t + (n:Rat)))) G
noncomputable def VR:Sp3:=fun xs G Q=>∃ w b p,xs=[FQ w,FQ b,FQ p]∧Bd 600 w∧Bd 600 b∧Bd 12 p∧Q (.tup [FQ (w + p * (1 - w)),FQ (b - p * b)]) G
noncomputable def aCb:Sp3:=fun xs G Q=>∃ x a b c n p,xs=[x,SH a b c,.int n,FQ p]∧(In1 a∧In1 b∧In1 c)∧(Bd 250 a∧Bd 250 b∧Bd 250 c)∧Sm 75 n∧In1 p∧Bd 12 p∧Q (.bl true) G
structure L17 (T:Tb):Prop where
  less:T.S "less"=HW
  falls:T.S "falls"=BC
  stretch_of:T.S "stretch_of"=zP
  wheel_of:T.S "wheel_of"=NH
  is_from_0:T.S "is_from_0"=CZ
  need_turn:T.S "need_turn"=aBY
  by_wheel:T.S "by_wheel"=aIT
  part_of:T.S "part_of"=FS
  toward:T.S "toward"=WB
  darker:T.S "darker"=aAO 0
  lighter:T.S "lighter"=aAO 1
  opposite:T.S "opposite"=aJo
  turned:T.S "turned"=HG
  eqS:T.S "Shade.__eq__"=uS
  lenS:T.S "Shade.__len__"=aGw
  turn_row:T.S "_law_turn_row"=RC
  round:T.S "_law_round"=aCC
  lifted:T.S "_law_lifted"=VR
  right:T.S "_law_right"=aCb
  gv_HALF:T.gv "HALF"= .tup [.int 1,.int 2]
  gv_ST:T.gv "STRETCHES"= .tup [stV 0,stV 1,stV 2,stV 3,stV 4,stV 5]
noncomputable def aJG (a b c:Rat):PV→Bool
  | .tup [.int g,.int l,.int m,_,_]=> !decide (p3 g.toNat a b c < p3 m.toNat a b c) && !decide (p3 m.toNat a b c < p3 l.toNat a b c)
  | _=>false
theorem aJ1 {k:Nat} {a b c:Rat}:aJG a b c (stV k)=MG k a b c:=rfl
theorem NV {o:Option Rat} {G:Gh} {Q:PK1}:pIs false (tV o) .non G Q=Q (.bl o.isNone) G:=by
  cases o with
  | none=>exact lP
  | some t=>exact vM (fun z=>by cases z)
set_option hygiene false in
local macro_rules | `(tactic| walk_at "rd") => `(tactic| simp only [wpS, wpE, wpL, wpT, wpO, wpI, wpG, eV, aJ, aC, List.length_cons, List.length_nil, List.cons_append, List.nil_append, List.append_nil, List.replicate, Nat.reduceAdd, Nat.reduceSub, Nat.zero_add, List.getElem?_cons_zero, List.getElem?_cons_succ, List.set_cons_zero, List.set_cons_succ, Option.some.injEq, exists_eq_left', true_and, and_true, ite_self, false_and, or_false, fZ, rD, vO, bK, nC, cM, bL, lP, dH, gE, bX, fH, aG.1, aG.2.1, aG.2.2.1, at0, List.cons.injEq, PV.int.injEq, PV.bl.injEq, PV.str.injEq, PV.ref.injEq, PV.tup.injEq, and_assoc, exists_and_left, eq_self, KG, QV, iX, jE, bV, aA6, NI, Int.reduceToNat, Int.reducePow, exists_eq', lR, Option.getD_some, List.map, gO, eM, dR, jR, kQ, bG, Bool.not_true, Bool.not_false, Bool.and_self, Bool.and_true, Bool.true_and, if_true, if_false, ite_true, ite_false, Bool.false_eq_true, decide_eq_true_eq, decide_true, decide_false, reduceCtorEq, sz2, sz3, Wk.here, HW, BC, CZ, *])
section
variable {T:Tb}
noncomputable def sO:CS:=(.seq (.ex (.cal "need_fractions" (.cons (.tup (.cons (.var 0) (.cons (.var 1) .nil))) .nil)))
  (.seq (.iff (.tsb (.cmp .Eq (.idx (.var 1) (.int 0)) (.int 0))) .nev .nil)
  (.ret (.cal "lowest" (.cons (.bin .Mult (.idx (.var 0) (.int 0)) (.idx (.var 1) (.int 1))) (.cons (.bin .Mult (.idx (.var 0) (.int 1)) (.idx (.var 1) (.int 0))) .nil))))))
theorem aGT (h:PT T):∀ xs G Q,jR xs G Q→wpS T sO (aJ Q) (aC 2 xs) G:=by
  rintro xs G Q ⟨a,b,rfl,ha,hb,h0,hq⟩
  unfold sO
  have:=h.need_fractions
  have:=h.lowest
  have n0:¬b.num=0:=fun z=>h0 (Rat.num_eq_zero.mp z)
  walk_at "rd"
  refine ⟨lM ha.1 hb.2,lM ha.2 hb.1,hU bM n0,(ha.2.mul hb.1).mono (by decide),Wk.here ?_⟩
  rw [aEP]; exact hq
theorem bd1:Bd 2 1:=⟨by unfold Sm; decide,by unfold Sm; decide⟩
end
theorem tE {a q p:Rat} (ha:In1 a) (hq:In1 q) (hp:In1 p):In1 (a + p * (q - a)):=by
  have x1:0≤(1 - p) * a:=Rat.mul_nonneg (by have:=hp.2; grind) ha.1
  have x2:0≤p * q:=Rat.mul_nonneg hp.1 hq.1
  have x3:0≤(1 - p) * (1 - a):=Rat.mul_nonneg (by have:=hp.2; grind) (by have:=ha.2; grind)
  have x4:0≤p * (1 - q):=Rat.mul_nonneg hp.1 (by have:=hq.2; grind)
  exact ⟨by grind,by grind⟩
theorem tJ {a:Rat} (h:In1 a):In1 (1 - a):=⟨by have:=h.2; grind,by have:=h.1; grind⟩
theorem yY:In1 0:=⟨by decide,by decide⟩
theorem aDn:In1 1:=⟨by decide,by decide⟩
theorem aA3 {ks:List Key} {xs:List PV} {i:Int} {G:Gh} {Q:PK1}:wB (.dct ks xs) (.int i) G Q=(∃ v,AO ks xs (.inl i)=some v∧Q v G):=rfl
set_option hygiene false in
local macro_rules | `(tactic| walk_at "rd") => `(tactic| simp only [wpS, wpE, wpL, wpT, wpO, wpI, wpG, eV, aJ, aC, List.length_cons, List.length_nil, List.cons_append, List.nil_append, List.append_nil, List.replicate, Nat.reduceAdd, Nat.reduceSub, Nat.zero_add, List.getElem?_cons_zero, List.getElem?_cons_succ, List.set_cons_zero, List.set_cons_succ, Option.some.injEq, exists_eq_left', true_and, and_true, exists_false, ite_self, false_and, and_false, or_false, fZ, lS, oU, iI, pU, nC, bL, dH, vU, nB, bX, fH, aG.1, aG.2.1, aG.2.2.1, at0, at1, at2, aIk, NQ, NB, aKG, List.cons.injEq, PV.int.injEq, PV.bl.injEq, PV.str.injEq, PV.ref.injEq, PV.tup.injEq, and_assoc, exists_and_left, eq_self, KG, QV, iX, cV, Int.reduceToNat, Int.reducePow, exists_eq', xK, tM, eT, dE, sW, lR, uJ, Option.getD_some, List.map, gO, eM, dR, eU, nA, iP, bG, gY, Bool.not_true, Bool.not_false, Bool.and_self, Bool.and_true, Bool.true_and, if_true, if_false, ite_true, ite_false, Bool.false_eq_true, decide_eq_true_eq, decide_true, decide_false, reduceCtorEq, sz2, sz3, Wk.here, CZ, FS, NV, aA3, *])
section
variable {T:Tb}
noncomputable def oY:CS:=(.seq (.iff (.tsb (.cmp .Is (.var 0) .non)) (.ret (.glo "HALF")) .nil)
  (.seq (.iff (.no (.tst (.cal "is_share" (.cons (.var 0) .nil)))) .nev .nil)
  (.ret (.var 0))))
theorem ZU {t:Rat} {G:Gh} {Q:PK1}:pIs false (FQ t) .non G Q=Q (.bl false) G:=vM (fun z=>by cases z)
noncomputable def uQ:CS:=(.ret (.cal "shade_of" (.cons (.cmpr false (.gn 1) (.isq (.cal "shares_of" (.cons (.var 0) .nil))) .nil (.cal "plus" (.cons (.var 1) (.cons (.cal "times" (.cons (.var 3) (.cons (.cal "minus" (.cons (.var 2) (.cons (.var 1) .nil))) .nil))) .nil))) [none,none,some 1,some 2]) .nil)))
noncomputable def uV:CS:=(.seq (.ex (.cal "need_shade" (.cons (.var 0) .nil)))
  (.ret (.cal "toward" (.cons (.var 0) (.cons (.glo "ZERO") (.cons (.cal "part_of" (.cons (.var 1) .nil)) .nil))))))
noncomputable def pK:CS:=(.seq (.ex (.cal "need_shade" (.cons (.var 0) .nil)))
  (.ret (.cal "toward" (.cons (.var 0) (.cons (.glo "ONE") (.cons (.cal "part_of" (.cons (.var 1) .nil)) .nil))))))
noncomputable def nI:CS:=(.ret (.cal "shade_of" (.cons (.cmpr false (.gn 1) (.isq (.cal "shares_of" (.cons (.var 0) .nil))) .nil (.cal "minus" (.cons (.glo "ONE") (.cons (.var 1) .nil))) [none,none]) .nil)))
noncomputable def iO:CS:=(.seq (.ex (.cal "need_shade" (.cons (.var 0) .nil)))
  (.seq (.iff (.tsb (.cmp .Is (.var 1) .non)) (.asg (.gn 1) (.int 1)) .nil)
  (.seq (.iff (.no (.tst (.cal "is_whole" (.cons (.var 1) .nil)))) .nev .nil)
  (.seq (.asg (.gn 2) (.cal "shares_of" (.cons (.var 0) .nil)))
  (.ret (.cal "shade_of" (.cons (.cmpr false (.gn 1) (.irg (.cons (.int 3) .nil)) .nil (.idx (.var 3) (.bin .Mod (.bin .Sub (.var 1) (.var 2)) (.int 3))) [none,none,some 1,some 2]) .nil)))))))
theorem FE {n:Int} {G:Gh} {Q:PK1}:pIs false (.int n) .non G Q=Q (.bl false) G:=vM (fun z=>by cases z)
theorem aAp (h:PT T):∀ xs G Q,HG xs G Q→wpS T iO (aJ Q) (aC 3 xs) G:=by
  rintro xs G Q ⟨a,b,c,n,rfl,⟨ia,ib,ic⟩,hq⟩
  unfold iO
  have:=h.need_shade
  have:=h.is_whole
  have:=h.shares_of
  have:=h.shade_of
  have:=@zQ
  have:=@FE
  unfold rot shV at hq
  have e:n % 3=0∨n % 3=1∨n % 3=2:=by omega
  have c3:∀ i:Int,zJ i 3:=fun _=>by show (0:Int) < 3; decide
  rcases e with e | e | e
  · rw [if_pos e] at hq
    have e0:(0 - n) % 3=0:=by omega
    have e1:(1 - n) % 3=1:=by omega
    have e2:(2 - n) % 3=2:=by omega
    walk_at "rd"
    exact ⟨by decide,by decide⟩
  · rw [if_neg (by omega),if_pos e] at hq
    have e0:(0 - n) % 3=2:=by omega
    have e1:(1 - n) % 3=0:=by omega
    have e2:(2 - n) % 3=1:=by omega
    walk_at "rd"
    exact ⟨by decide,by decide⟩
  · rw [if_neg (by omega),if_neg (by omega)] at hq
    have e0:(0 - n) % 3=1:=by omega
    have e1:(1 - n) % 3=2:=by omega
    have e2:(2 - n) % 3=0:=by omega
    walk_at "rd"
    exact ⟨by decide,by decide⟩
end
section
variable {T:Tb}
theorem aM1:PV.tup [.int 1,.int 1]=FQ 1:=rfl
end
theorem BF {sep:Str} {ys:List Str}:Txt.join sep ys=Str.join sep ys:=eq_of_beq (join_closes rfl)
theorem aJW {s:Str}:Txt.join ("":Str) [s]=s:=by rw [BF]; rfl
noncomputable def iT (n:Int):Str:=toString n
theorem lN {n:Int} (h:n.natAbs < 10 ^ 64):(iT n).length≤65:=by
  have h1:=int_text_length_le10 (k:=64) (by decide) h
  unfold iT
  show (Str.ofString (toString n)).length≤65
  rw [PySem.ofString_length]; omega
noncomputable def wr (q:Rat):Str:=if (q.den:Int)=1 then iT q.num else iT q.num ++ (("/":Str) ++ iT (q.den:Int))
noncomputable def MB (r:R3):Str:=Txt.join (" ":Str) [wr r.1,wr r.2.1,wr r.2.2]
noncomputable def aJ9 (r:R3):Str:=("Shade(":Str) ++ MB r ++ (")":Str)
theorem bC {a b:Str}:(a ++ b).length=a.length + b.length:=by
  show (a ++ b).cps.size=_
  rw [Str.cps_append,Array.size_append]; rfl
theorem uR {n:Int} (h:Sm 200 n):n.natAbs < 10 ^ 64:=Nat.lt_trans (show n.natAbs < 2 ^ 200 from h) (by decide)
theorem kX {q:Rat} (h:Bd 200 q):(wr q).length≤131:=by
  have h1:=lN (uR h.1)
  have h2:=lN (uR h.2)
  have h3:("/":Str).length=1:=rfl
  unfold wr
  split
  · omega
  · rw [bC,bC]; omega
theorem HL {r:R3} (h1:Bd 200 r.1) (h2:Bd 200 r.2.1) (h3:Bd 200 r.2.2):(MB r).length≤395:=by
  unfold MB
  rw [BF]
  show (wr r.1 ++ (" ":Str) ++ (wr r.2.1 ++ (" ":Str) ++ wr r.2.2)).length≤395
  have e:(" ":Str).length=1:=rfl
  have:=kX h1
  have:=kX h2
  have:=kX h3
  rw [bC,bC,bC,bC,e]; omega
noncomputable def hlf:Rat:=⟨1,2,by decide,by decide⟩
noncomputable def hf (o:Option Rat):Rat:=o.getD hlf
noncomputable def POk (o:Option Rat):Prop:= ∀ p,o=some p→In1 p∧Bd 12 p
theorem rT:In1 hlf:=⟨by decide,by decide⟩
theorem kO:Bd 12 hlf:=⟨by unfold Sm; decide,by unfold Sm; decide⟩
theorem POk.hf {o:Option Rat} (h:POk o):In1 (hf o)∧Bd 12 (L3.hf o):=by
  cases o with
  | none=>exact ⟨rT,kO⟩
  | some p=>exact h p rfl
noncomputable def Sh7 (n:Nat) (r:R3):Prop:=(In1 r.1∧In1 r.2.1∧In1 r.2.2)∧Bd n r.1∧Bd n r.2.1∧Bd n r.2.2
theorem Sh7.mono {n m:Nat} {r:R3} (h:Sh7 n r) (e:n≤m):Sh7 m r:=⟨h.1,h.2.1.mono e,h.2.2.1.mono e,h.2.2.2.mono e⟩
noncomputable def tw (q p:Rat) (r:R3):R3:=(r.1 + p * (q - r.1),r.2.1 + p * (q - r.2.1),r.2.2 + p * (q - r.2.2))
noncomputable def md (r:R3):Rat:=(r.1 + r.2.1 + r.2.2) / 3
noncomputable def op3 (r:R3):R3:=(1 - r.1,1 - r.2.1,1 - r.2.2)
noncomputable def rt (n:Int) (r:R3):R3:=rot n r.1 r.2.1 r.2.2
noncomputable def iV:Option Int→PV
  | none=>.non
  | some n=>.int n
noncomputable def cnt (r:R3):Int:=((if 0 < r.1 then 1 else 0) + (if 0 < r.2.1 then 1 else 0) + (if 0 < r.2.2 then 1 else 0):Int)
theorem aEX {r:R3} (h:In1 r.1∧In1 r.2.1∧In1 r.2.2):In1 (md r):=by
  obtain ⟨⟨a,b⟩,⟨c,d⟩,e,f⟩:=h
  have e3:md r * 3=r.1 + r.2.1 + r.2.2:=Rat.div_mul_cancel (by decide)
  constructor
  · grind
  · grind
theorem aKW {q p:Rat} {r:R3} (h:In1 r.1∧In1 r.2.1∧In1 r.2.2) (hq:In1 q) (hp:In1 p):In1 (tw q p r).1∧In1 (tw q p r).2.1∧In1 (tw q p r).2.2:=⟨tE h.1 hq hp,tE h.2.1 hq hp,tE h.2.2 hq hp⟩
theorem aIx:Bd 3 3:=⟨by unfold Sm; decide,by unfold Sm; decide⟩
noncomputable def rV (r:R3):PV:=.tup [FQ r.1,FQ r.2.1,FQ r.2.2]
noncomputable def EF:Sp3:=fun xs G Q=>∃ n:Int,xs=[.int n]∧0≤n∧Sm 200 n∧Q (.str (iT n)) G
noncomputable def QX:Sp3:=fun xs G Q=>∃ q,xs=[FQ q]∧0≤q∧Bd 200 q∧Q (.str (wr q)) G
noncomputable def wY:Sp3:=fun xs G Q=>∃ r,xs=[shV r]∧Sh7 200 r∧Q (.str (MB r)) G
noncomputable def wI:Sp3:=fun xs G Q=>∃ r,xs=[shV r]∧Sh7 200 r∧Q (.str (aJ9 r)) G
noncomputable def xZ:Sp3:=fun xs G Q=>∃ r,xs=[shV r]∧Q (.int (cnt r)) G
noncomputable def aCu:Sp3:=fun xs G Q=>∃ o,xs=[tV o]∧POk o∧Q (FQ (hf o)) G
noncomputable def aFE:Sp3:=fun xs G Q=>∃ r q p,xs=[shV r,FQ q,FQ p]∧Sh7 40 r∧In1 q∧Bd 140 q∧In1 p∧Bd 12 p∧Q (shV (tw q p r)) G
noncomputable def BT (f:R3→Rat):Sp3:=fun xs G Q=>∃ r o,xs=[shV r,tV o]∧Sh7 40 r∧POk o∧Q (shV (tw (f r) (hf o) r)) G
noncomputable def aF1:Sp3:=fun xs G Q=>∃ r,xs=[shV r]∧Sh7 40 r∧Q (shV (op3 r)) G
noncomputable def aDm:Sp3:=fun xs G Q=>∃ r o,xs=[shV r,iV o]∧Sh7 40 r∧Q (shV (rt (o.getD 1) r)) G
noncomputable def Dd (w:Str) (x:PV) (f:R3→R3):Prop :=
  (w="lighter"∧∃ o,x=tV o∧POk o∧f=tw 1 (hf o))∨(w="darker"∧∃ o,x=tV o∧POk o∧f=tw 0 (hf o))∨(w="duller"∧∃ o,x=tV o∧POk o∧f=fun r=>tw (md r) (hf o) r)∨
  (w="turned"∧∃ o,x=iV o∧f=rt (o.getD 1))∨(w="opposite"∧∃ o,x=tV o∧f=op3)
noncomputable def eD:List Str:=["lighter","darker","duller","turned","opposite"]
noncomputable def aB7:Sp3:=fun xs G Q=>∃ r w x f,xs=[rV r,.str w,x]∧Sh7 12 r∧Dd w x f∧Q (rV (f r)) G
noncomputable def aHu:Sp3:=fun xs G Q=>∃ r w x f i,xs=[.str w,shV r,x,.int i]∧(i=0∨i=1)∧Sh7 12 r∧Dd w x f∧Q (shV (f r)) G
noncomputable def aKS:Sp3:=fun xs G Q=>∃ p w,xs=[.ref p,.str w]∧Pu p G∧w∈eD∧∀ x f G',Dd w x f→Pn p G G'→Q x G'
noncomputable def wU:Sp3:=QX
noncomputable def GI:Sp3:=fun xs G Q=>∃ r,xs=[shV r,rV r]∧Sh7 200 r∧Q (.bl true) G
noncomputable def aGD:Sp3:=fun xs G Q=>∃ r,xs=[shV r,rV r]∧Sh7 12 r∧Q (.bl true) G
noncomputable def aHk:Sp3:=fun xs G Q=>∃ r n,xs=[shV r,rV r,.int n]∧Sh7 12 r∧1≤n∧n≤50∧Q (.bl true) G
structure L7 (T:Tb):Prop where
  figures:T.S "figures"=EF
  written:T.S "written"=QX
  strS:T.S "Shade.__str__"=wY
  repS:T.S "Shade.__repr__"=wI
  lenS:T.S "Shade.__len__"=xZ
  eqS:T.S "Shade.__eq__"=uS
  part_of:T.S "part_of"=aCu
  toward:T.S "toward"=aFE
  lighter:T.S "lighter"=BT (fun _=>1)
  darker:T.S "darker"=BT (fun _=>0)
  duller:T.S "duller"=BT md
  opposite:T.S "opposite"=aF1
  turned:T.S "turned"=aDm
  deed:T.S "_law_deed"=aB7
  asked:T.S "_law_asked"=aHu
  by_:T.S "_law_by"=aKS
  text:T.S "_law_text"=wU
  is_:T.S "_law_is"=GI
  left:T.S "_law_left_out"=aGD
  home:T.S "_law_home"=aHk
  gv_HALF:T.gv "HALF"= .tup [.int 1,.int 2]
  gv_PIECE:T.gv "PIECE"= .int (10 ^ 64)
  gv_PF:T.gv "PIECE_FIGURES"= .int 64
  gv_str:T.gv "str"= .ty "str"
theorem sQ {α:Type} {chk:Gh→Prop} {g:PTG} {tb:PTS} {D:dF} (src:α→PV) (J:List α→PSt→Gh→Prop) (hc:∀ l σ G,J l σ G→chk G)
    (step:∀ x r σ G (R:PSt→Gh→Prop),J (x :: r) σ G→(∀ σ' G',J r σ' G'→R σ' G')→g (src x) σ G fun σ2 G2=>tb { D with nx:=R,ct:=R,bk:=D.nx } σ2 G2)
    (fin:∀ σ G,J [] σ G→D.nx σ G):∀ (l:List α) σ G,J l σ G→oZ chk g tb D (l.map src) σ G
  | [],σ,G,h=>⟨hc _ _ _ h,fin _ _ h⟩
  | x :: r,σ,G,h=>⟨hc _ _ _ h,step x r σ G _ h fun σ' G' h'=>sQ src J hc step fin r σ' G' h'⟩
noncomputable def OkX (x:Rat):Prop:=In1 x∧Bd 600 x
noncomputable def Ok3 (r:R3):Prop:=OkX r.1∧OkX r.2.1∧OkX r.2.2
noncomputable def WOk (ws:List Int):Prop:=(∀ w∈ws,0≤w∧w≤1000000)∧0 < ws.sum
noncomputable def aKr:List (Rat×Int)→Rat
  | []=>0
  | p :: r=>p.1 * (p.2:Rat) + aKr r
noncomputable def mq (xs:List Rat) (ws:List Int):Rat:=aKr (xs.zip ws) / (ws.sum:Rat)
noncomputable def LO:Sp3:=fun xs G Q=>∃ t b:Int,xs=[.int t,.int b]∧b≠0∧Sm 9000 b∧Q (FQ (Rat.divInt t b)) G
noncomputable def aDo:Sp3:=fun xs G Q=>∃ (rs:List R3) (a b:Int),xs=[.tup (rs.map shV),.int a,.int b]∧a≤(rs.length:Int)∧(rs.length:Int)≤b∧rs.length≤1000∧Q (.bl true) G
noncomputable def aFr:Sp3:=fun xs G Q=>∃ w l:Int,xs=[.int w,.int l]∧l≤w∧w≤1000000∧Q (.bl true) G
noncomputable def aC3:Sp3:=fun xs G Q=>∃ (ws:List Int) (n:Int),xs=[.tup (ws.map .int),.int n]∧n=(ws.length:Int)∧ws.length≤1000∧WOk ws∧Q (.bl true) G
noncomputable def aFj:Sp3:=fun xs G Q=>∃ (qs:List Rat) (ws:List Int),xs=[.lst (qs.map FQ),.tup (ws.map .int)]∧qs.length=ws.length∧ws.length≤4∧(∀ x∈qs,Bd 600 x)∧WOk ws∧Q (FQ (mq qs ws)) G
noncomputable def aM0 (rs:List R3) (ws:List Int):R3:=(mq (rs.map (·.1)) ws,mq (rs.map (·.2.1)) ws,mq (rs.map (·.2.2)) ws)
noncomputable def WV (x:PV) (ws:List Int) (n:Nat):Prop:=(x= .non∧ws=List.replicate n 1)∨x= .tup (ws.map .int)
noncomputable def aMp (rs:List R3) (ws:List Int):Prop:=rs.length=ws.length∧1≤rs.length∧rs.length≤4∧(∀ r∈rs,Ok3 r)∧WOk ws
noncomputable def aKa:Sp3:=fun xs G Q=>∃ (rs:List R3) (ws:List Int) (x:PV),xs=[.tup (rs.map shV),x]∧WV x ws rs.length∧aMp rs ws∧Q (shV (aM0 rs ws)) G
noncomputable def PO (o:Option Rat):Prop:= ∀ p,o=some p→In1 p∧Bd 60 p
theorem PO.hf {o:Option Rat} (h:PO o):In1 (hf o)∧Bd 60 (L3.hf o):=by
  cases o with
  | none=>exact ⟨rT,kO.mono (by decide)⟩
  | some p=>exact h p rfl
noncomputable def pJ:Sp3:=fun xs G Q=>∃ o,xs=[tV o]∧PO o∧Q (FQ (hf o)) G
noncomputable def xQ:Sp3:=fun xs G Q=>∃ r q p,xs=[shV r,FQ q,FQ p]∧Sh7 600 r∧In1 q∧Bd 1900 q∧In1 p∧Bd 60 p∧Q (shV (tw q p r)) G
noncomputable def bU (f:R3→Rat):Sp3:=fun xs G Q=>∃ r o,xs=[shV r,tV o]∧Sh7 600 r∧PO o∧Q (shV (tw (f r) (hf o) r)) G
noncomputable def wA:Sp3:=fun xs G Q=>∃ r,xs=[shV r]∧Sh7 600 r∧Q (shV (op3 r)) G
noncomputable def rY:Sp3:=fun xs G Q=>∃ r o,xs=[shV r,iV o]∧Sh7 600 r∧Q (shV (rt (o.getD 1) r)) G
noncomputable def DdX (w:Str) (x:PV) (f:R3→R3):Prop :=
  (w="lighter"∧∃ o,x=tV o∧PO o∧f=tw 1 (hf o))∨(w="darker"∧∃ o,x=tV o∧PO o∧f=tw 0 (hf o))∨(w="duller"∧∃ o,x=tV o∧PO o∧f=fun r=>tw (md r) (hf o) r)∨
  (w="turned"∧∃ o,x=iV o∧f=rt (o.getD 1))
noncomputable def DX (d:PV) (f:R3→R3):Prop:=(∃ w x,DdX w x f∧(d= .tup [.str w,x]∨(x= .non∧d= .tup [.str w])))∨(d= .tup [.str "opposite"]∧f=op3)
noncomputable def JN:List PV→R3→R3→Prop
  | [],r,r'=>r'=r
  | d :: ds,r,r'=>∃ f,DX d f∧Sh7 600 r∧JN ds (f r) r'
noncomputable def wS:Sp3:=fun xs G Q=>∃ w x f,xs=[.str w,x]∧DdX w x f∧Q (.bl true) G
noncomputable def lT:Sp3:=fun xs G Q=>∃ d f,xs=[d]∧DX d f∧Q (.bl true) G
noncomputable def rG:Sp3:=fun xs G Q=>∃ ds,xs=[.tup ds]∧ds.length≤20∧(∀ d∈ds,∃ f,DX d f)∧Q .non G
noncomputable def rF:Sp3:=fun xs G Q=>∃ r d f,xs=[shV r,d]∧Sh7 600 r∧DX d f∧Q (shV (f r)) G
noncomputable def wX:Sp3:=fun xs G Q=>∃ r r' ds,xs=[shV r,.tup ds]∧ds.length≤20∧JN ds r r'∧Q (shV r') G
noncomputable def aCY:Sp3:=fun xs G Q=>∃ r r',xs=[shV r,shV r']∧r=r'∧Q (.bl true) G
noncomputable def aJ8:Sp3:=fun xs G Q=>∃ p n,xs=[.ref p,.int n]∧Pu p G∧1≤n∧n≤4∧∀ (ws:List Int) G',(ws.length:Int)=n→WOk ws→Pn p G G'→Q (.tup (ws.map .int)) G'
noncomputable def aLv (rs:List R3):Prop:=1≤rs.length∧rs.length≤4∧∀ r∈rs,Sh7 12 r
noncomputable def P12 (p:Rat):Prop:=In1 p∧Bd 12 p
noncomputable def ZF:Sp3:=fun xs G Q=>∃ rs ws p n,xs=[.tup (rs.map shV),.tup (ws.map .int),FQ p,.int n]∧aLv rs∧rs.length=ws.length∧WOk ws∧P12 p∧Q (.bl true) G
noncomputable def aBk:Sp3:=fun xs G Q=>∃ r p q,xs=[shV r,FQ p,FQ q]∧Sh7 12 r∧P12 p∧P12 q∧Q (.bl true) G
noncomputable def aBJ:Sp3:=fun xs G Q=>∃ r p n m,xs=[shV r,FQ p,.int n,.int m]∧Sh7 12 r∧P12 p∧Q (.bl true) G
noncomputable def aAa:Sp3:=fun xs G Q=>∃ r p,xs=[shV r,FQ p]∧Sh7 12 r∧P12 p∧Q (.bl true) G
structure L10 (T:Tb):Prop where
  fraction:T.S "fraction"=LO
  are_shades:T.S "are_shades"=aDo
  is_weight:T.S "is_weight"=aFr
  are_weights:T.S "are_weights"=aC3
  mean:T.S "mean_share"=aFj
  mix:T.S "mix"=aKa
  eqS:T.S "Shade.__eq__"=uS
  part_of:T.S "part_of"=pJ
  toward:T.S "toward"=xQ
  lighter:T.S "lighter"=bU (fun _=>1)
  darker:T.S "darker"=bU (fun _=>0)
  duller:T.S "duller"=bU md
  opposite:T.S "opposite"=wA
  turned:T.S "turned"=rY
  is_by:T.S "is_by"=wS
  is_deed:T.S "is_deed"=lT
  need_deeds:T.S "need_deeds"=rG
  do_one:T.S "do_one"=rF
  done:T.S "done"=wX
  less:T.S "less"=HW
  falls:T.S "falls"=BC
  stretch_of:T.S "stretch_of"=zP
  wheel_of:T.S "wheel_of"=NH
  alike:T.S "_law_alike"=aCY
  weights:T.S "_law_weights"=aJ8
  mixedR:T.S "_law_mixed_right"=ZF
  twice:T.S "_law_twice_right"=aBk
  turnR:T.S "_law_turned_right"=aBJ
  wheelR:T.S "_law_wheel_right"=aAa
  gv_MS:T.gv "MOST_SHADES"= .int 60
  gv_MW:T.gv "MOST_WEIGHT"= .int 1000000
  gv_MD:T.gv "MOST_DEEDS"= .int 20
  gv_HALF:T.gv "HALF"= .tup [.int 1,.int 2]
  gv_ST:T.gv "STRETCHES"= .tup [stV 0,stV 1,stV 2,stV 3,stV 4,stV 5]
  ty_str:T.gv "str"= .ty "str"
noncomputable def IsI (x:Rat):Prop:= ∃ n:Int,x=(n:Rat)
theorem IsI.add {a b:Rat} (h:IsI a) (h':IsI b):IsI (a + b):=let ⟨n,e⟩:=h; let ⟨m,e'⟩:=h'; ⟨n + m,by rw [e,e',Rat.intCast_add]⟩
theorem IsI.sub {a b:Rat} (h:IsI a) (h':IsI b):IsI (a - b):=let ⟨n,e⟩:=h; let ⟨m,e'⟩:=h'; ⟨n - m,by rw [e,e',Rat.intCast_sub]⟩
theorem IsI.mul {a b:Rat} (h:IsI a) (h':IsI b):IsI (a * b):=let ⟨n,e⟩:=h; let ⟨m,e'⟩:=h'; ⟨n * m,by rw [e,e',Rat.intCast_mul]⟩
theorem IsI.int (n:Int):IsI (n:Rat):=⟨n,rfl⟩
theorem IsI.cast {a b:Rat} (h:IsI a) (e:b=a):IsI b:=e▸h
theorem pT (q:Rat):q * ((q.den:Int):Rat)=(q.num:Rat):=by
  have d0:((q.den:Int):Rat)≠0:=by have:=gD (q:=q); have:(0:Rat) < ((q.den:Int):Rat):=Rat.intCast_pos.mpr this; grind
  conv=>lhs; lhs; rw [←Rat.num_divInt_den q]
  rw [Rat.divInt_eq_div]; exact Rat.div_mul_cancel d0
theorem aCR {q:Rat} {D:Int} (h:IsI (q * (D:Rat))):(q.den:Int) ∣ D:=by
  obtain ⟨n,e⟩:=h
  have e1:=pT q
  have e2:q.num * D=n * (q.den:Int):=by
    have:((q.num * D:Int):Rat)=((n * (q.den:Int):Int):Rat):=by
      rw [Rat.intCast_mul,Rat.intCast_mul,←e1,←e]; grind
    exact Rat.intCast_inj.mp this
  have hd:q.den ∣ q.num.natAbs * D.natAbs:=by
    have h1:(q.den:Int) ∣ q.num * D:=⟨n,by rw [e2,Int.mul_comm]⟩
    have h2:=Int.natAbs_dvd_natAbs.mpr h1
    rw [Int.natAbs_mul] at h2
    simpa using h2
  have hc:Nat.Coprime q.den q.num.natAbs:=Nat.Coprime.symm q.reduced
  have h3:=Nat.Coprime.dvd_of_dvd_mul_left hc hd
  exact Int.natAbs_dvd_natAbs.mp (by simpa using h3)
noncomputable def CD (B:Nat) (r:R3):Prop:=(In1 r.1∧In1 r.2.1∧In1 r.2.2)∧∃ D:Int,0 < D∧D≤(B:Int)∧IsI (r.1 * (D:Rat))∧IsI (r.2.1 * (D:Rat))∧IsI (r.2.2 * (D:Rat))
theorem NY {q:Rat} {D:Int} {n:Nat} (h:In1 q) (hD:0 < D) (hI:IsI (q * (D:Rat))) (hn:D < 2 ^ n):Bd n q:=by
  have d1:=aCR hI
  have d2:(q.den:Int)≤D:=Int.le_of_dvd hD d1
  have d3:=gD (q:=q)
  have h0:0≤q.num:=Rat.num_nonneg.mpr h.1
  have h1:q.num≤(q.den:Int):=by
    have:=(Rat.le_iff q 1).mp h.2
    simpa using this
  have e:((2 ^ n:Nat):Int)=(2:Int) ^ n:=by simp
  constructor
  · unfold Sm; omega
  · unfold Sm; omega
theorem CD.sh {B:Nat} {r:R3} {n:Nat} (h:CD B r) (hB:B < 2 ^ n):Sh7 n r:=by
  obtain ⟨⟨i1,i2,i3⟩,D,d0,dB,a,b,c⟩:=h
  have e:((2 ^ n:Nat):Int)=(2:Int) ^ n:=by simp
  have hD:D < 2 ^ n:=by omega
  exact ⟨⟨i1,i2,i3⟩,NY i1 d0 a hD,NY i2 d0 b hD,NY i3 d0 c hD⟩
theorem aFk {a q p:Rat} {D P C:Int} (ha:IsI (a * (D:Rat))) (hp:IsI (p * (P:Rat))) (hq:IsI (q * ((C * D:Int):Rat))):IsI ((a + p * (q - a)) * ((C * D * P:Int):Rat)):=by
  refine IsI.cast ((((IsI.int C).mul ((IsI.int P).mul ha)).add (hp.mul (hq.sub ((IsI.int C).mul ha))))) ?_
  simp only [Rat.intCast_mul]
  grind
noncomputable def PM (m:Nat) (o:Option Rat):Prop:= ∀ p,o=some p→In1 p∧Bd 12 p∧p.den≤m
theorem PM.hf {m:Nat} {o:Option Rat} (h:PM m o) (hm:2≤m):In1 (hf o)∧(L3.hf o).den≤m:=by
  cases o with
  | none=>exact ⟨rT,hm⟩
  | some p=>exact ⟨(h p rfl).1,(h p rfl).2.2⟩
theorem aAh {B m:Nat} {q p:Rat} {r:R3} (h:CD B r) (hq:In1 q) (hp:In1 p) (hm:p.den≤m) (hI:∀ D:Int,IsI (r.1 * (D:Rat))→IsI (r.2.1 * (D:Rat))→IsI (r.2.2 * (D:Rat))→IsI (q * ((3 * D:Int):Rat))):CD (B * (3 * m)) (tw q p r):=by
  obtain ⟨i3,D,d0,dB,a,b,c⟩:=h
  have hP:IsI (p * ((p.den:Int):Rat)):=⟨p.num,pT p⟩
  have p0:=gD (q:=p)
  refine ⟨aKW i3 hq hp,3 * D * (p.den:Int),Int.mul_pos (by omega) p0, ?_,aFk a hP (hI D a b c),aFk b hP (hI D a b c),aFk c hP (hI D a b c)⟩
  have h1:3 * D * (p.den:Int)≤3 * (B:Int) * (m:Int):=Int.mul_le_mul (by omega) (by omega) (by omega) (by omega)
  have e:((B * (3 * m):Nat):Int)=3 * (B:Int) * (m:Int):=by
    rw [Int.natCast_mul,Int.natCast_mul,←Int.mul_assoc,Int.mul_comm (B:Int) _]; rfl
  rw [e]; exact h1
theorem CD.le {B B':Nat} {r:R3} (h:CD B r) (e:B≤B'):CD B' r:=by
  obtain ⟨i3,D,d0,dB,r⟩:=h
  exact ⟨i3,D,d0,by omega,r⟩
theorem aEq {q:Rat} (h:IsI q):∀ D:Int,IsI (q * ((3 * D:Int):Rat)):=fun D=>h.mul (IsI.int _)
noncomputable def DdM (m:Nat) (w:Str) (x:PV) (f:R3→R3):Prop :=
  (w="lighter"∧∃ o,x=tV o∧PM m o∧f=tw 1 (hf o))∨(w="darker"∧∃ o,x=tV o∧PM m o∧f=tw 0 (hf o))∨(w="duller"∧∃ o,x=tV o∧PM m o∧f=fun r=>tw (md r) (hf o) r)∨
  (w="turned"∧∃ o:Option Int,x=iV o∧(∀ n,o=some n→n.natAbs < 10 ^ 40)∧f=rt (o.getD 1))
noncomputable def DbX (m:Nat) (d:PV) (f:R3→R3):Prop:=(∃ w x,DdM m w x f∧(d= .tup [.str w,x]∨(x= .non∧d= .tup [.str w])))∨(d= .tup [.str "opposite"]∧f=op3)
theorem DdM.x {m:Nat} {w:Str} {x:PV} {f:R3→R3} (h:DdM m w x f):DdX w x f:=by
  have po:∀ {o:Option Rat},PM m o→PO o:=fun {o} h p e=>⟨(h p e).1,(h p e).2.1.mono (by decide)⟩
  rcases h with ⟨a,o,b,c,d⟩ | ⟨a,o,b,c,d⟩ | ⟨a,o,b,c,d⟩ | ⟨a,o,b,c,d⟩
  · exact .inl ⟨a,o,b,po c,d⟩
  · exact .inr (.inl ⟨a,o,b,po c,d⟩)
  · exact .inr (.inr (.inl ⟨a,o,b,po c,d⟩))
  · exact .inr (.inr (.inr ⟨a,o,b,d⟩))
theorem DdM.d {m:Nat} {w:Str} {x:PV} {f:R3→R3} (h:DdM m w x f):Dd w x f:=by
  have po:∀ {o:Option Rat},PM m o→POk o:=fun {o} h p e=>⟨(h p e).1,(h p e).2.1⟩
  rcases h with ⟨a,o,b,c,d⟩ | ⟨a,o,b,c,d⟩ | ⟨a,o,b,c,d⟩ | ⟨a,o,b,c,d⟩
  · exact .inl ⟨a,o,b,po c,d⟩
  · exact .inr (.inl ⟨a,o,b,po c,d⟩)
  · exact .inr (.inr (.inl ⟨a,o,b,po c,d⟩))
  · exact .inr (.inr (.inr (.inl ⟨a,o,b,d⟩)))
theorem DbX.x {m:Nat} {d:PV} {f:R3→R3} (h:DbX m d f):DX d f:=by
  rcases h with ⟨w,x,a,b⟩ | h
  · exact .inl ⟨w,x,a.x,b⟩
  · exact .inr h
theorem VF {m B:Nat} {d:PV} {f:R3→R3} {r:R3} (hm:2≤m) (h:DbX m d f) (c:CD B r):CD (B * (3 * m)) (f r):=by
  have big:B≤B * (3 * m):=by
    have:B * 1≤B * (3 * m):=Nat.mul_le_mul_left _ (by omega)
    omega
  rcases h with ⟨w,x,dd,_⟩ | ⟨_,rfl⟩
  · rcases dd with ⟨_,o,_,p,rfl⟩ | ⟨_,o,_,p,rfl⟩ | ⟨_,o,_,p,rfl⟩ | ⟨_,o,_,_,rfl⟩
    · exact aAh c aDn (p.hf hm).1 (p.hf hm).2 fun D _ _ _=>aEq (IsI.int 1) D
    · exact aAh c yY (p.hf hm).1 (p.hf hm).2 fun D _ _ _=>aEq (IsI.int 0) D
    · refine aAh c (aEX c.1) (p.hf hm).1 (p.hf hm).2 fun D a b e=>((a.add b).add e).cast ?_
      have e3:md r * 3=r.1 + r.2.1 + r.2.2:=Rat.div_mul_cancel (by decide)
      rw [Rat.intCast_mul]
      have:((3:Int):Rat)=3:=rfl
      rw [this]
      grind
    · obtain ⟨⟨i1,i2,i3⟩,D,d0,dB,a,b,e⟩:=c
      refine CD.le ?_ big
      unfold rt rot
      split
      · exact ⟨⟨i1,i2,i3⟩,D,d0,dB,a,b,e⟩
      · split
        · exact ⟨⟨i3,i1,i2⟩,D,d0,dB,e,a,b⟩
        · exact ⟨⟨i2,i3,i1⟩,D,d0,dB,b,e,a⟩
  · obtain ⟨⟨i1,i2,i3⟩,D,d0,dB,a,b,e⟩:=c
    refine CD.le ?_ big
    have k:∀ {q:Rat},IsI (q * (D:Rat))→IsI ((1 - q) * (D:Rat)):=fun {q} h=>((IsI.int D).sub h).cast (by grind)
    exact ⟨⟨tJ i1,tJ i2,tJ i3⟩,D,d0,dB,k a,k b,k e⟩
noncomputable def iJ (m:Nat):List PV→R3→R3→Prop
  | [],r,r'=>r'=r
  | d :: ds,r,r'=>∃ f,DbX m d f∧iJ m ds (f r) r'
noncomputable def oA (m:Nat) (ds:List PV):Prop:= ∀ d∈ds,∃ f,DbX m d f
theorem iJ.ex {m:Nat}:∀ {ds:List PV} (r:R3),oA m ds→∃ r',iJ m ds r r'
  | [],r,_=>⟨r,rfl⟩
  | d :: ds,r,h=>by
    obtain ⟨f,a⟩:=h d (List.mem_cons_self ..)
    obtain ⟨r',b⟩:=iJ.ex (m:=m) (ds:=ds) (f r) fun x hx=>h x (List.mem_cons_of_mem _ hx)
    exact ⟨r',f,a,b⟩
theorem iJ.all {m:Nat}:∀ {ds:List PV} {r r':R3},iJ m ds r r'→oA m ds
  | [],_,_,_,_,h=>by cases h
  | d :: ds,r,r',⟨f,a,t⟩,e,h=>by
    rcases List.mem_cons.mp h with rfl | h
    · exact ⟨f,a⟩
    · exact iJ.all t e h
theorem iJ.split {m:Nat}:∀ {ds es:List PV} {r r':R3},iJ m (ds ++ es) r r'→∃ r1,iJ m ds r r1∧iJ m es r1 r'
  | [],es,r,r',h=>⟨r,rfl,h⟩
  | d :: ds,es,r,r',⟨f,a,t⟩=>by
    obtain ⟨r1,b,c⟩:=iJ.split (ds:=ds) t
    exact ⟨r1,⟨f,a,b⟩,c⟩
theorem iJ.cd {m:Nat} (hm:2≤m):∀ {ds:List PV} {r r':R3} {B:Nat},iJ m ds r r'→CD B r→CD (B * (3 * m) ^ ds.length) r'
  | [],r,r',B,h,c=>by
    have h:r'=r:=h
    subst h
    simpa using c
  | d :: ds,r,r',B,⟨f,a,t⟩,c=>by
    have:=iJ.cd hm t (VF hm a c)
    rw [List.length_cons,Nat.pow_succ,Nat.mul_comm ((3 * m) ^ ds.length),←Nat.mul_assoc]
    exact this
theorem iJ.s {m:Nat} (hm:2≤m):∀ {ds:List PV} {r r':R3} {B:Nat},iJ m ds r r'→CD B r→B * (3 * m) ^ ds.length < 2 ^ 110→JN ds r r'
  | [],r,r',B,h,c,_=>h
  | d :: ds,r,r',B,⟨f,a,t⟩,c,hB=>by
    rw [List.length_cons,Nat.pow_succ,Nat.mul_comm ((3 * m) ^ ds.length),←Nat.mul_assoc] at hB
    have p1:1≤(3 * m) ^ ds.length:=Nat.one_le_pow _ _ (by omega)
    have hB2:B * (3 * m) * 1≤B * (3 * m) * (3 * m) ^ ds.length:=Nat.mul_le_mul_left _ p1
    have big:B * 1≤B * (3 * m):=Nat.mul_le_mul_left _ (by omega)
    exact ⟨f,a.x,(c.sh (n:=110) (by omega)).mono (by decide),iJ.s hm t (VF hm a c) hB⟩
noncomputable def rO:Sp3:=fun xs G Q=>∃ p,xs=[.ref p]∧Pu p G∧∀ q G',In1 q→Bd 12 q→IsI (q * ((60:Int):Rat))→Pn p G G'→Q (FQ q) G'
noncomputable def pY:Sp3:=fun xs G Q=>∃ r w x f,xs=[rV r,.str w,x]∧Sh7 110 r∧Dd w x f∧Q (rV (f r)) G
noncomputable def OH:Sp3:=fun xs G Q=>∃ p w,xs=[.ref p,.str w]∧Pu p G∧w∈eD∧∀ x G',(w="opposite"∨∃ f,DdM 4096 w x f)→Pn p G G'→Q x G'
noncomputable def rM:Sp3:=fun xs G Q=>∃ p n,xs=[.ref p,.int n]∧Pu p G∧0≤n∧n≤20∧∀ ds G',(ds.length:Int)=n→oA 4096 ds→Pn p G G'→Q (.tup ds) G'
noncomputable def rW:Sp3:=fun xs G Q=>∃ ds,xs=[.tup ds]∧ds.length≤20∧oA 4096 ds∧∀ ds',ds'.length=ds.length→oA 3 ds'→Q (.tup ds') G
noncomputable def pB (m B:Nat) (ds:List PV) (r r':R3):Prop:=2≤m∧m≤4096∧ds.length≤20∧iJ m ds r r'∧CD B r∧B * (3 * m) ^ ds.length < 2 ^ 110
noncomputable def pS:Sp3:=fun xs G Q=>∃ m B ds r r',xs=[rV r,.tup ds]∧pB m B ds r r'∧Q (rV r') G
noncomputable def pM:Sp3:=fun xs G Q=>∃ m B ds r r' i,xs=[shV r,rV r,.tup ds,.int i]∧pB m B ds r r'∧0≤i∧i≤(ds.length:Int)∧Q (.bl true) G
structure L8 (T:Tb):Prop where
  figures:T.S "figures"=EF
  written:T.S "written"=QX
  strS:T.S "Shade.__str__"=wY
  repS:T.S "Shade.__repr__"=wI
  lenS:T.S "Shade.__len__"=xZ
  eqS:T.S "Shade.__eq__"=uS
  text:T.S "_law_text"=wU
  is_:T.S "_law_is"=GI
  part_of:T.S "part_of"=pJ
  toward:T.S "toward"=xQ
  lighter:T.S "lighter"=bU (fun _=>1)
  darker:T.S "darker"=bU (fun _=>0)
  duller:T.S "duller"=bU md
  opposite:T.S "opposite"=wA
  turned:T.S "turned"=rY
  is_by:T.S "is_by"=wS
  is_deed:T.S "is_deed"=lT
  need_deeds:T.S "need_deeds"=rG
  do_one:T.S "do_one"=rF
  done:T.S "done"=wX
  plain:T.S "_law_plain_share"=rO
  deed:T.S "_law_deed"=pY
  by_:T.S "_law_by"=OH
  deeds:T.S "_law_deeds"=rM
  short_:T.S "_law_short"=rW
  doneL:T.S "_law_done"=pS
  right:T.S "_law_right"=pM
  gv_MD:T.gv "MOST_DEEDS"= .int 20
  gv_HALF:T.gv "HALF"= .tup [.int 1,.int 2]
  gv_PIECE:T.gv "PIECE"= .int (10 ^ 64)
  gv_PF:T.gv "PIECE_FIGURES"= .int 64
  ty_str:T.gv "str"= .ty "str"
theorem NM:PV.tup [.int 1,.int 2]=FQ hlf:=rfl
theorem aIK:PV.tup [.int 3,.int 1]=FQ 3:=rfl
theorem FG {i:Int} {cs:List String} {G:Gh} {Q:PK1}:eI cs .str [.int i] G Q=(i.natAbs.log2 < 1920∧Q (.str (iT i)) G):=rfl
theorem aAn {i:Int} (h:Sm 200 i):i.natAbs.log2 < 1920:=by
  by_cases e:i.natAbs=0
  · rw [e]; decide
  · exact Nat.lt_of_lt_of_le ((Nat.log2_lt e).mpr h) (by decide)
theorem aJd:(10:Int) ^ 64=10000000000000000000000000000000000000000000000000000000000000000:=by decide
theorem aL7 {n:Int} (h:Sm 200 n):n < 10 ^ 64:=by
  have:n.natAbs < 10 ^ 64:=uR h
  have e:((10 ^ 64:Nat):Int)=(10:Int) ^ 64:=by decide
  omega
theorem OE {r:R3}:shV r=SH r.1 r.2.1 r.2.2:=rfl
theorem aGq {n:Int} (h:Sm 200 n):¬(10:Int) ^ 64≤n:=by have:=aL7 h; omega
set_option hygiene false in
local macro_rules | `(tactic| walk_at "rd") => `(tactic| simp only [wpS, wpE, wpL, wpT, wpO, wpI, wpG, eV, aJ, aC, List.length_cons, List.length_nil, List.cons_append, List.nil_append, List.append_nil, List.replicate, Nat.reduceAdd, Nat.reduceSub, Nat.zero_add, List.getElem?_cons_zero, List.getElem?_cons_succ, List.set_cons_zero, List.set_cons_succ, Option.some.injEq, exists_eq_left', true_and, and_true, exists_false, ite_self, false_and, or_false, fZ, pU, vO, bK, cM, nB, UJ, sJ, bX, fH, aG.1, aG.2.1, aG.2.2.1, List.cons.injEq, PV.int.injEq, PV.bl.injEq, PV.str.injEq, PV.ref.injEq, PV.tup.injEq, and_assoc, exists_and_left, eq_self, KG, QV, Int.reduceToNat, Int.reducePow, exists_eq', eT, dE, lR, uJ, List.map, bG, Bool.not_true, Bool.not_false, Bool.and_self, Bool.and_true, Bool.true_and, if_true, if_false, ite_true, ite_false, Bool.false_eq_true, decide_eq_true_eq, decide_true, decide_false, reduceCtorEq, sz3, FG, OE, wpJ, Str.empty_append, *])
section
variable {T:Tb}
noncomputable def lA:CS:=(.seq (.asg (.gn 1) (.lst true .nil))
  (.seq (.wh (.tsb (.cmp .GtE (.var 0) (.glo "PIECE"))) .nev)
  (.seq (.ex (.app (.var 1) (.blt .str (.cons (.var 0) .nil))))
  (.ret (.joi (.str "") (.rev (.var 1)))))))
theorem SS (k:L8 T):∀ xs G Q,EF xs G Q→wpS T lA (aJ Q) (aC 3 xs) G:=by
  rintro xs G Q ⟨n,rfl,h0,sn,hq⟩
  unfold lA
  have:=k.gv_PIECE
  have:=aGq sn
  have:=aAn sn
  walk_at "rd"
  refine ⟨Nat.zero_le _,fun p hp=>?_⟩
  refine ⟨fun m σ H=>σ=[some (.int n),some (.ref p),none]∧H=gup G p (.lst []),⟨0,rfl,rfl⟩, ?_⟩
  rintro m σ H ⟨rfl,rfl⟩
  walk_at "rd"
  rw [if_neg (by rw [←aJd]; assumption)]
  refine ⟨_,aU,by decide,[iT n],rfl, ?_, ?_⟩
  · have:=lN (uR sn)
    show (iT n).length + 0 + 1 * 0≤16777216
    omega
  · rw [aJW]
    refine Wk.of hq fun a o z=>?_
    rw [mW,cU (fun e=>by subst e; rw [hp] at z; cases z)]; exact z
noncomputable def kS:CS:=(.seq (.iff (.tsb (.cmp .Eq (.idx (.var 0) (.int 1)) (.int 1))) (.ret (.cal "figures" (.cons (.idx (.var 0) (.int 0)) .nil))) .nil)
  (.ret (.fst (.cons (.cal "figures" (.cons (.idx (.var 0) (.int 0)) .nil)) (.cons (.str "/") (.cons (.cal "figures" (.cons (.idx (.var 0) (.int 1)) .nil)) .nil))))))
theorem SV (k:L8 T):∀ xs G Q,QX xs G Q→wpS T kS (aJ Q) (aC 1 xs) G:=by
  rintro xs G Q ⟨q,rfl,h0,bq,hq⟩
  unfold kS
  have e1:=k.figures
  have fg:∀ {n:Int} {G:Gh} {Q:PK1},0≤n→Sm 200 n→Q (.str (iT n)) G→T.S "figures" [.int n] G Q:=fun {n G Q} h h' q=>by rw [e1]; exact ⟨n,rfl,h,h',q⟩
  clear e1
  unfold wr at hq
  walk_at "rd"
  by_cases e:(q.den:Int)=1
  · rw [if_pos e] at hq ⊢
    exact fg (JL h0) bq.1 (Wk.here hq)
  · rw [if_neg e] at hq ⊢
    have l1:=lN (uR bq.1)
    have l2:=lN (uR bq.2)
    have l3:("/":Str).length=1:=rfl
    have hs:=sizeLine_eq
    walk_at "rd"
    refine fg (JL h0) bq.1 ⟨_,rfl,by omega,by omega,by omega,by rw [bC]; omega,fg (Int.natCast_nonneg _) bq.2 ⟨_,rfl,by omega, ?_, ?_, ?_⟩⟩
    · rw [bC,bC]; omega
    · rw [bC,bC]; omega
    · rw [Str.append_assoc]; exact Wk.here hq
theorem sp1:(" ":Str).length=1:=rfl
noncomputable def eQ:CS:=(.ret (.joi (.str " ") (.cmpr false (.gn 1) (.isq (.cal "shares_of" (.cons (.var 0) .nil))) .nil (.cal "written" (.cons (.var 1) .nil)) [none,none])))
theorem vB (h:PT T) (k:L8 T):∀ xs G Q,wY xs G Q→wpS T eQ (aJ Q) (aC 1 xs) G:=by
  rintro xs G Q ⟨r,rfl,⟨⟨i1,i2,i3⟩,b1,b2,b3⟩,hq⟩
  unfold eQ
  have:=h.shares_of
  have e1:=k.written
  have wt:∀ {q:Rat} {G:Gh} {Q:PK1},In1 q→Bd 200 q→Q (.str (wr q)) G→T.S "written" [FQ q] G Q:=fun {q G Q} h h' z=>by rw [e1]; exact ⟨q,rfl,h.1,h',z⟩
  clear e1
  have l1:=kX b1
  have l2:=kX b2
  have l3:=kX b3
  walk_at "rd"
  refine wt i1 b1 (wt i2 b2 (wt i3 b3 ⟨[wr r.1,wr r.2.1,wr r.2.2],rfl, ?_,Wk.here hq⟩))
  show (wr r.1).length + ((wr r.2.1).length + ((wr r.2.2).length + 0)) + 3 * 1≤16777216
  omega
noncomputable def eE:CS:=(.ret (.fst (.cons (.str "Shade(") (.cons (.bow .str [("Shade","Shade.__str__")] (.cons (.var 0) .nil)) (.cons (.str ")") .nil)))))
theorem oX {b:Bn} {c:String} {m:Str} {ns:List Str} {ys:List PV} {G:Gh} {Q:PK1} (q:T.S m [.ob c ns ys] G fun v G'=>aJ3 b v G' Q):aBZ T b [(c,m)] [.ob c ns ys] G Q:=.inl ⟨c,m,ns,ys,List.mem_singleton.mpr rfl,rfl,q⟩
theorem uB (k:L8 T):∀ xs G Q,wI xs G Q→wpS T eE (aJ Q) (aC 1 xs) G:=by
  rintro xs G Q ⟨r,rfl,s,hq⟩
  unfold eE
  have e1:=k.strS
  have l:=HL s.2.1 s.2.2.1 s.2.2.2
  have l1:("Shade(":Str).length=6:=rfl
  have l2:(")":Str).length=1:=rfl
  have hs:=sizeLine_eq
  walk_at "rd"
  refine ⟨by decide,by decide,oX ?_⟩
  rw [e1]
  refine ⟨r,rfl,s,_,rfl,_,rfl,by omega,by rw [bC]; omega,by decide,by rw [bC,bC]; omega,by rw [bC,bC]; omega,Wk.here hq⟩
noncomputable def aAL:PV→Bool
  | .tup (.int n :: _)=>decide (0 < n)
  | _=>false
theorem aHy {q:Rat}:aAL (FQ q)=decide (0 < q):=decide_eq_decide.mpr (by rw [Rat.lt_iff]; simp)
theorem NL {r:R3}:((([FQ r.1,FQ r.2.1,FQ r.2.2].filter aAL).length:Nat):Int)=cnt r:=by
  unfold cnt
  simp only [List.filter_cons,List.filter_nil,aHy,decide_eq_true_eq]
  by_cases h1:0 < r.1 <;> by_cases h2:0 < r.2.1 <;> by_cases h3:0 < r.2.2 <;> simp [h1,h2,h3]
theorem IE {chk:Gh→Prop} {ts:PTT} {te:PTE} {G:Gh} {Q:List PV→Gh→Prop} (p:PV→Bool) (hc:chk G) :
    ∀ (l acc:List PV) (v:Option PV),(∀ x∈l,∀ R,R (p x) G→ts [none,some x] G R)→(∀ x∈l,∀ R,R x G→te [none,some x] G R)→Q (acc ++ l.filter p) G→iN chk (fun x σ G Q=>Q (σ.set 1 (some x)) G) ts te l acc [none,v] G Q
  | [],acc,v,_,_,q=>⟨hc,by simpa using q⟩
  | x :: l,acc,v,h1,h2,q=>by
    refine ⟨hc, ?_⟩
    show ts [none,some x] G _
    refine h1 x (List.mem_cons_self ..) _ ?_
    cases hp:p x with
    | true =>
      rw [if_pos rfl]
      refine h2 x (List.mem_cons_self ..) _ ?_
      refine IE p hc l (acc ++ [x]) (some x) (fun y hy=>h1 y (List.mem_cons_of_mem _ hy)) (fun y hy=>h2 y (List.mem_cons_of_mem _ hy)) ?_
      rw [List.filter_cons,hp,if_pos rfl] at q
      rw [List.append_assoc]; exact q
    | false =>
      rw [if_neg Bool.false_ne_true]
      refine IE p hc l acc (some x) (fun y hy=>h1 y (List.mem_cons_of_mem _ hy)) (fun y hy=>h2 y (List.mem_cons_of_mem _ hy)) ?_
      rw [List.filter_cons,hp,if_neg Bool.false_ne_true] at q
      exact q
theorem aLX {r:R3} {x:PV} (h:x∈ [FQ r.1,FQ r.2.1,FQ r.2.2]):∃ q,x=FQ q:=by
  simp only [List.mem_cons,List.not_mem_nil,or_false] at h
  rcases h with h | h | h <;> exact ⟨_,h⟩
theorem aEu {r:R3} {G:Gh} {Q:List PV→Gh→Prop} (hq:Q ([FQ r.1,FQ r.2.1,FQ r.2.2].filter aAL) G):iN (fun _=>True) (wpG T (.gn 1)) (wpT T (.tsb (.cmp .Gt (.idx (.var 1) (.int 0)) (.int 0)))) (wpE T (.var 1)) [FQ r.1,FQ r.2.1,FQ r.2.2] [] [none,none] G Q:=by
  simp only [wpG]
  refine IE aAL trivial _ _ _ ?_ ?_ hq
  · intro x hx R hR
    obtain ⟨q,rfl⟩:=aLX hx
    have e:aAL (FQ q)=decide (0 < q.num):=rfl
    rw [e] at hR
    walk_at "rd"
  · intro x hx R hR
    walk_at "rd"
noncomputable def cQ:CS:=(.ret (.blt .len (.cons (.cmpr false (.gn 1) (.isq (.cal "shares_of" (.cons (.var 0) .nil))) (.tsb (.cmp .Gt (.idx (.var 1) (.int 0)) (.int 0))) (.var 1) [none,none]) .nil)))
theorem oH (h:PT T):∀ xs G Q,xZ xs G Q→wpS T cQ (aJ Q) (aC 1 xs) G:=by
  rintro xs G Q ⟨r,rfl,hq⟩
  unfold cQ
  have:=h.shares_of
  simp only [wpS,wpE,wpL,wpI,bX,uJ,aC,this,bG]
  refine ⟨_,rfl,_,_,_,rfl,(show 3≤sizeLine by decide),aEu ?_⟩
  rw [vU,NL]
  exact Wk.here hq
end
theorem UV:PV.tup [.int 1,.int 1]=FQ 1:=rfl
theorem aEU:PV.tup [.int 0,.int 1]=FQ 0:=rfl
noncomputable def trd:Rat:=⟨1,3,by decide,by decide⟩
theorem aH3:PV.tup [.int 1,.int 3]=FQ trd:=rfl
theorem aLd:trd * 3=1:=by
  rw [Rat.mul_def]; decide
theorem aEj {r:R3}:trd * (r.1 + (r.2.1 + r.2.2))=md r:=by
  have h:=aLd
  have e3:md r * 3=r.1 + r.2.1 + r.2.2:=Rat.div_mul_cancel (by decide)
  grind
theorem OJ {a:Str}:shp (.str a)=PyData.strOk a:=by
  show SeqAt.shaped (.str a)=_
  unfold SeqAt.shaped
  have:decide ((PyData.str a).depth≤64)=true:=rfl
  rw [this,Bool.and_true]; rfl
theorem mY {a b:Str} {G:Gh} {Q:PK1}:pEq false (.str a) (.str b) G Q=(PyData.strOk a=true∧PyData.strOk b=true∧Q (.bl (a == b)) G):=by
  show (shp (.str a)=true∧shp (.str b)=true∧Q (.bl (peq (.str a) (.str b))) G)=_
  simp only [OJ,peq]
theorem aBo {a b:Str} {G:Gh} {Q:PK1}:pEq true (.str a) (.str b) G Q=(PyData.strOk a=true∧PyData.strOk b=true∧Q (.bl (!(a == b))) G):=by
  show (shp (.str a)=true∧shp (.str b)=true∧Q (.bl (!peq (.str a) (.str b))) G)=_
  simp only [OJ,peq]
theorem eK (s:String):PyData.strOk (Str.ofString s)=true:=by
  rw [Str.ofString_eq_toList]
  unfold PyData.strOk
  simp only [List.all_toArray,List.all_eq_true,List.mem_map,decide_eq_true_eq]
  rintro x ⟨c,_,rfl⟩
  have h:=c.valid
  show c.val.toNat < 1114112
  rcases h with h | ⟨_,h⟩
  · have:c.val.toNat < 0xd800:=h
    omega
  · have:c.val.toNat < 0x110000:=h
    exact this
theorem gF {a b:Str} (ha:PyData.strOk a=true) (hb:PyData.strOk b=true):PyData.strOk (a ++ b)=true:=by
  unfold PyData.strOk at *
  rw [Str.cps_append,Array.all_append,ha,hb]; rfl
theorem aBF:PyData.strOk ("lighter":Str)=true:=eK _
theorem aCe:PyData.strOk ("darker":Str)=true:=eK _
theorem aDd:PyData.strOk ("duller":Str)=true:=eK _
theorem UX:PyData.strOk ("turned":Str)=true:=eK _
theorem aBn:PyData.strOk ("opposite":Str)=true:=eK _
theorem WA {q:Rat}:PyData.strOk (wr q)=true:=by
  unfold wr iT
  split
  · exact eK _
  · exact gF (eK _) (gF (eK _) (eK _))
theorem aD0 {r:R3}:PyData.strOk (MB r)=true:=by
  unfold MB
  rw [BF]
  exact gF (gF WA (eK _)) (gF (gF WA (eK _)) WA)
theorem aIS {r:R3}:PyData.strOk (aJ9 r)=true:=gF (gF (eK _) aD0) (eK _)
theorem aHg:(("lighter":Str) == ("opposite":Str))=false:=by decide
theorem aG5:(("darker":Str) == ("opposite":Str))=false:=by decide
theorem aIf:(("duller":Str) == ("opposite":Str))=false:=by decide
theorem aG3:(("turned":Str) == ("opposite":Str))=false:=by decide
theorem aJy:(("darker":Str) == ("lighter":Str))=false:=by decide
theorem aJT:(("duller":Str) == ("lighter":Str))=false:=by decide
theorem aKw:(("turned":Str) == ("lighter":Str))=false:=by decide
theorem aKc:(("duller":Str) == ("darker":Str))=false:=by decide
theorem aKZ:(("turned":Str) == ("darker":Str))=false:=by decide
theorem aJX:(("opposite":Str) == ("lighter":Str))=false:=by decide
theorem aJV:(("opposite":Str) == ("darker":Str))=false:=by decide
theorem aI7:(("lighter":Str) == ("darker":Str))=false:=by decide
theorem aHS:(("duller":Str) == ("turned":Str))=false:=by decide
theorem aFU:(("lighter":Str) == ("turned":Str))=false:=by decide
theorem aGl:(("darker":Str) == ("turned":Str))=false:=by decide
theorem aJg:(("opposite":Str) == ("turned":Str))=false:=by decide
theorem LB {a:Str}:(a == a)=true:=beq_self_eq_true a
set_option hygiene false in
local macro_rules | `(tactic| walk_at "rd") => `(tactic| simp only [wpS, wpE, wpL, wpT, wpO, wpI, wpG, eV, aJ, aC, List.length_cons, List.length_nil, List.append_nil, List.replicate, Nat.reduceAdd, Nat.reduceSub, Nat.zero_add, List.getElem?_cons_zero, Option.some.injEq, exists_eq_left', true_and, ite_self, dI, pE, bK, cM, gE, DL, bX, aG.1, aG.2.1, aG.2.2.1, List.cons.injEq, PV.int.injEq, PV.bl.injEq, PV.str.injEq, PV.ref.injEq, PV.tup.injEq, eq_self, KG, QV, Int.reduceToNat, Int.reducePow, List.map, Bool.not_true, Bool.not_false, Bool.and_self, Bool.and_true, Bool.true_and, if_true, if_false, ite_true, ite_false, Bool.false_eq_true, decide_eq_true_eq, decide_true, decide_false, reduceCtorEq, FG, *])
section
variable {T:Tb}
noncomputable def lQ:CS:=(.ret (.bin .Add (.blt .str (.cons (.idx (.var 0) (.int 0)) .nil)) (.idx (.lst false (.cons (.bin .Add (.str "/") (.blt .str (.cons (.idx (.var 0) (.int 1)) .nil))) (.cons (.str "") .nil))) (.blt .int (.cons (.cmp .Eq (.idx (.var 0) (.int 1)) (.int 1)) .nil)))))
theorem aAH:∀ xs G Q,wU xs G Q→wpS T lQ (aJ Q) (aC 1 xs) G:=by
  rintro xs G Q ⟨q,rfl,h0,bq,hq⟩
  unfold lQ
  have l1:=lN (uR bq.1)
  have l2:=lN (uR bq.2)
  have g1:=aAn bq.1
  have g2:=aAn bq.2
  have l3:("/":Str).length=1:=rfl
  have hs:=sizeLine_eq
  unfold wr at hq
  walk_at "rd"
  refine ⟨by omega,by decide, ?_⟩
  by_cases e:(q.den:Int)=1
  · rw [if_pos e] at hq ⊢
    refine ⟨_,at1, ?_⟩
    rw [pE]
    refine ⟨by show (iT q.num).length + 0≤sizeLine; omega, ?_⟩
    have ee:iT q.num ++ ("":Str)=iT q.num:=Str.append_empty _
    rw [ee]; exact Wk.here hq
  · rw [if_neg e] at hq ⊢
    refine ⟨_,at0, ?_⟩
    rw [pE]
    exact ⟨by rw [bC]; omega,Wk.here hq⟩
end
theorem aI9 {r:R3}:rV r= .tup [FQ r.1,FQ r.2.1,FQ r.2.2]:=rfl
theorem aBK {o:Option Int} {G:Gh} {Q:PK1}:pIs false (iV o) .non G Q=Q (.bl o.isNone) G:=by
  cases o with
  | none=>exact lP
  | some t=>exact vM (fun z=>by cases z)
theorem aAI {a p:Rat}:a - p * a=a + p * (0 - a):=by grind
set_option hygiene false in
local macro_rules | `(tactic| walk_at "rd") => `(tactic| simp only [wpS, wpE, wpL, wpT, wpO, wpI, wpG, eV, aJ, aC, List.length_cons, List.length_nil, List.cons_append, List.nil_append, List.replicate, Nat.reduceAdd, Nat.reduceSub, Nat.zero_add, List.getElem?_cons_zero, List.getElem?_cons_succ, List.set_cons_zero, List.set_cons_succ, bT, aDL, Option.some.injEq, exists_eq_left', true_and, and_true, exists_false, ite_self, false_and, and_false, or_false, fZ, dI, iI, hW, bK, nC, dH, gE, HB, DL, pF, mO, sJ, bX, fH, aG.1, aG.2.1, aG.2.2.1, at0, at1, at2, List.cons.injEq, PV.int.injEq, PV.bl.injEq, PV.str.injEq, PV.ref.injEq, PV.tup.injEq, and_assoc, exists_and_left, eq_self, iX, Int.reduceToNat, Int.reducePow, xK, tM, eT, dE, sW, uJ, Option.getD_some, List.map, gO, eM, dR, Bool.not_true, Bool.not_false, Bool.and_self, Bool.and_true, Bool.true_and, if_true, if_false, ite_true, ite_false, Bool.false_eq_true, decide_eq_true_eq, decide_true, decide_false, reduceCtorEq, sz2, sz3, NV, NM, UV, aH3, mY, aBF, aCe, aDd, UX, aBn, aHg, aG5, aIf, aG3, aJy, aJT, aKw, aKc, aKZ, aJX, aJV, aI7, aHS, aFU, aGl, aJg, LB, aI9, aBK, *])
local macro_rules | `(tactic| walk_at "ry") => `(tactic| simp only [wpS, wpT, wpE, aJ, bT, List.getElem?_cons_zero, List.getElem?_cons_succ, bK, mY, aBF, aCe, aDd, UX, aBn, aJy, aJT, aKw, aKc, aKZ, aJX, aJV, aI7, aHg, aG5, aIf, aG3, aHS, aFU, aGl, aJg, LB, aDL, true_and, if_true, if_false, Bool.false_eq_true])
section
variable {T:Tb}
noncomputable def ddT:CS:=(.seq (.asg (.gn 4) (.lst true (.cons .non (.cons .non (.cons .non .nil)))))
  (.seq (.fr (.gn 5) (.irg (.cons (.int 3) .nil)) (.sub (.var 4) (.bin .Mod (.bin .Add (.var 5) (.idx (.lst false (.cons (.var 2) (.cons (.int 1) .nil))) (.blt .int (.cons (.cmp .Is (.var 2) .non) .nil)))) (.int 3)) (.idx (.var 0) (.var 5))))
  (.ret (.blt .tuple (.cons (.var 4) .nil)))))
theorem aJu {r:R3} {o:Option Int} {w x3 x4 x5 x6:Option PV} {G:Gh} {Q:PK1} (hq:Q (rV (rt (o.getD 1) r)) G):wpS T ddT (aJ Q) [some (rV r),w,some (iV o),x3,x4,x5,x6] G:=by
  obtain ⟨a,b,c⟩:=r
  unfold ddT
  have:=@zQ
  have c3:∀ i:Int,zJ i 3:=fun _=>by show (0:Int) < 3; decide
  have am:atI [iV o,.int 1] (if o.isNone=true then (1:Int) else 0)=some (.int (o.getD 1)):=by
    cases o with
    | none=>exact at1
    | some n=>exact at0
  unfold rt rot at hq
  generalize o.getD 1=n at *
  walk_at "rd"
  have m3:=Int.emod_nonneg n (show (3:Int)≠0 by decide)
  have m4:=Int.emod_lt_of_pos n (show (0:Int) < 3 by decide)
  intro p hp
  refine ⟨by decide,by decide, ?_⟩
  have fin:∀ {x y z:PV},Q (.tup [x,y,z]) G→Wk Q (.tup [x,y,z]) (gup G p (.lst [x,y,z])):=fun {x y z} q=>Wk.of q fun a o z=>by rw [cU (fun e=>by subst e; rw [hp] at z; cases z)]; exact z
  have e:n % 3=0∨n % 3=1∨n % 3=2:=by omega
  rcases e with e | e | e
  · rw [if_pos e] at hq
    rw [show (0 + n) % 3=0 by omega,show (1 + n) % 3=1 by omega,show (2 + n) % 3=2 by omega]
    exact ⟨0,rfl,1,rfl,2,rfl,fin hq⟩
  · rw [if_neg (by omega),if_pos e] at hq
    rw [show (0 + n) % 3=1 by omega,show (1 + n) % 3=2 by omega,show (2 + n) % 3=0 by omega]
    exact ⟨1,rfl,2,rfl,0,rfl,fin hq⟩
  · rw [if_neg (by omega),if_neg (by omega)] at hq
    rw [show (0 + n) % 3=2 by omega,show (1 + n) % 3=0 by omega,show (2 + n) % 3=1 by omega]
    exact ⟨2,rfl,0,rfl,1,rfl,fin hq⟩
noncomputable def dd1:CS:=(.ret (.blt .tuple (.cons (.cmpr false (.gn 1) (.isq (.var 0)) .nil (.cal "_law_plus" (.cons (.var 1) (.cons (.cal "_law_times" (.cons (.var 2) (.cons (.cal "_law_minus" (.cons (.tup (.cons (.int 1) (.cons (.int 1) .nil))) (.cons (.var 1) .nil))) .nil))) .nil))) [none,none,some 3]) .nil)))
noncomputable def dd2:CS:=(.ret (.blt .tuple (.cons (.cmpr false (.gn 1) (.isq (.var 0)) .nil (.cal "_law_minus" (.cons (.var 1) (.cons (.cal "_law_times" (.cons (.var 2) (.cons (.var 1) .nil))) .nil))) [none,none,some 3]) .nil)))
noncomputable def dd3:CS:=(.ret (.blt .tuple (.cons (.cmpr false (.gn 1) (.isq (.var 0)) .nil (.cal "_law_minus" (.cons (.tup (.cons (.int 1) (.cons (.int 1) .nil))) (.cons (.var 1) .nil))) [none,none]) .nil)))
noncomputable def dd5:CS:=(.seq (.asg (.gn 6) (.cal "_law_times" (.cons (.tup (.cons (.int 1) (.cons (.int 3) .nil))) (.cons (.cal "_law_plus" (.cons (.idx (.var 0) (.int 0)) (.cons (.cal "_law_plus" (.cons (.idx (.var 0) (.int 1)) (.cons (.idx (.var 0) (.int 2)) .nil))) .nil))) .nil))))
  (.ret (.blt .tuple (.cons (.cmpr false (.gn 1) (.isq (.var 0)) .nil (.cal "_law_plus" (.cons (.var 1) (.cons (.cal "_law_times" (.cons (.var 3) (.cons (.cal "_law_minus" (.cons (.var 2) (.cons (.var 1) .nil))) .nil))) .nil))) [none,none,some 6,some 3]) .nil))))
noncomputable def ddR:CS:=(.seq (.iff (.tsb (.cmp .Eq (.var 1) (.str "lighter"))) dd1 .nil)
  (.seq (.iff (.tsb (.cmp .Eq (.var 1) (.str "darker"))) dd2 .nil)
  (.seq (.iff (.tsb (.cmp .Eq (.var 1) (.str "opposite"))) dd3 .nil)
  (.seq (.iff (.tsb (.cmp .Eq (.var 1) (.str "turned"))) ddT .nil) dd5))))
noncomputable def iG:CS:=(.seq (.asg (.gn 3) (.var 2))
  (.seq (.iff (.tsb (.cmp .Is (.var 2) .non)) (.asg (.gn 3) (.tup (.cons (.int 1) (.cons (.int 2) .nil)))) .nil) ddR))
noncomputable def DdR (w:Str) (x y:PV) (f:R3→R3):Prop :=
  (w="lighter"∧∃ p,y=FQ p∧Bd 12 p∧f=tw 1 p)∨(w="darker"∧∃ p,y=FQ p∧Bd 12 p∧f=tw 0 p)∨(w="duller"∧∃ p,y=FQ p∧Bd 12 p∧f=fun r=>tw (md r) p r)∨
  (w="turned"∧∃ o,x=iV o∧f=rt (o.getD 1))∨(w="opposite"∧f=op3)
theorem aD8:Bd 3 trd:=⟨by unfold Sm; decide,by unfold Sm; decide⟩
noncomputable def Tw4 (p q:Rat) (r:R3):Prop:=Bd 4000 p∧Bd 4000 (q - r.1)∧Bd 4000 (q - r.2.1)∧Bd 4000 (q - r.2.2)∧Bd 4000 (p * (q - r.1))∧Bd 4000 (p * (q - r.2.1))∧Bd 4000 (p * (q - r.2.2))
theorem tw4 {p q:Rat} {m:Nat} {r:R3} (s:Sh7 110 r) (bp:Bd 12 p) (bq:Bd m q) (hm:m≤1000):Tw4 p q r :=
  ⟨bp.mono (by decide),bq.sub s.2.1 (by omega),bq.sub s.2.2.1 (by omega),bq.sub s.2.2.2 (by omega),bp.mul (bq.sub s.2.1 (Nat.le_refl _)) (by omega),bp.mul (bq.sub s.2.2.1 (Nat.le_refl _)) (by omega),bp.mul (bq.sub s.2.2.2 (Nat.le_refl _)) (by omega)⟩
theorem aI5 (l:LT T) {r:R3} {p:Rat} {x1 x2 x4 x5 x6:Option PV} {D:dF} {G:Gh} (s:Sh7 110 r) (bp:Bd 12 p) (hq:D.rt (rV (tw 1 p r)) G):wpS T dd1 D [some (rV r),x1,x2,some (FQ p),x4,x5,x6] G:=by
  unfold dd1
  have:=l.plus
  have:=l.minus
  have:=l.times
  obtain ⟨t1,t2,t3,t4,t5,t6,t7⟩:=tw4 s bp bd1 (by decide)
  have o4:Bd 4000 1:=bd1.mono (by decide)
  have a4:=s.2.1.mono (show 110≤4000 by decide)
  have b4:=s.2.2.1.mono (show 110≤4000 by decide)
  have c4:=s.2.2.2.mono (show 110≤4000 by decide)
  walk_at "rd"
  exact hq
theorem aJA (l:LT T) {r:R3} {p:Rat} {x1 x2 x4 x5 x6:Option PV} {D:dF} {G:Gh} (s:Sh7 110 r) (bp:Bd 12 p) (hq:D.rt (rV (tw 0 p r)) G):wpS T dd2 D [some (rV r),x1,x2,some (FQ p),x4,x5,x6] G:=by
  unfold dd2
  have:=l.minus
  have:=l.times
  have m1:=bp.mul s.2.1 (show 12 + 110≤4000 by decide)
  have m2:=bp.mul s.2.2.1 (show 12 + 110≤4000 by decide)
  have m3:=bp.mul s.2.2.2 (show 12 + 110≤4000 by decide)
  have p4:=bp.mono (show 12≤4000 by decide)
  have a4:=s.2.1.mono (show 110≤4000 by decide)
  have b4:=s.2.2.1.mono (show 110≤4000 by decide)
  have c4:=s.2.2.2.mono (show 110≤4000 by decide)
  walk_at "rd"
  rw [aAI,aAI,aAI]
  exact hq
theorem aIA (l:LT T) {r:R3} {x1 x2 x3 x4 x5 x6:Option PV} {D:dF} {G:Gh} (s:Sh7 110 r) (hq:D.rt (rV (op3 r)) G):wpS T dd3 D [some (rV r),x1,x2,x3,x4,x5,x6] G:=by
  unfold dd3
  have:=l.minus
  have o4:Bd 4000 1:=bd1.mono (by decide)
  have a4:=s.2.1.mono (show 110≤4000 by decide)
  have b4:=s.2.2.1.mono (show 110≤4000 by decide)
  have c4:=s.2.2.2.mono (show 110≤4000 by decide)
  walk_at "rd"
  exact hq
theorem aKC (l:LT T) {r:R3} {p:Rat} {x1 x2 x4 x5 x6:Option PV} {D:dF} {G:Gh} (s:Sh7 110 r) (bp:Bd 12 p) (hq:D.rt (rV (tw (md r) p r)) G):wpS T dd5 D [some (rV r),x1,x2,some (FQ p),x4,x5,x6] G:=by
  unfold dd5
  have:=l.plus
  have:=l.minus
  have:=l.times
  have a4:=s.2.1.mono (show 110≤4000 by decide)
  have b4:=s.2.2.1.mono (show 110≤4000 by decide)
  have c4:=s.2.2.2.mono (show 110≤4000 by decide)
  have d1:=s.2.2.1.add s.2.2.2 (show 110 + 110 + 1≤221 by decide)
  have d2:=s.2.1.add d1 (show 110 + 221 + 1≤332 by decide)
  have d3:Bd 400 (md r):=by rw [←aEj]; exact aD8.mul d2 (by decide)
  obtain ⟨t1,t2,t3,t4,t5,t6,t7⟩:=tw4 s bp d3 (by decide)
  have e:=@aEj r
  have t8:=aD8.mono (show 3≤4000 by decide)
  have d1':=d1.mono (show 221≤4000 by decide)
  have d2':=d2.mono (show 332≤4000 by decide)
  have d3':=d3.mono (show 400≤4000 by decide)
  walk_at "rd"
  exact hq
theorem aIm (l:LT T) {r:R3} {w:Str} {x y:PV} {f:R3→R3} {x4 x5 x6:Option PV} {G:Gh} {Q:PK1} (s:Sh7 110 r) (d:DdR w x y f) (hq:Q (rV (f r)) G) :
    wpS T ddR (aJ Q) [some (rV r),some (.str w),some x,some y,x4,x5,x6] G:=by
  unfold ddR
  rcases d with ⟨rfl,p,rfl,bp,rfl⟩ | ⟨rfl,p,rfl,bp,rfl⟩ | ⟨rfl,p,rfl,bp,rfl⟩ | ⟨rfl,o,rfl,rfl⟩ | ⟨rfl,rfl⟩
  · have z:=fun D h=>aI5 (x1:=some (.str "lighter")) (x2:=some x) (x4:=x4) (x5:=x5) (x6:=x6) (D:=D) (G:=G) l s bp h
    walk_at "ry"
    exact z _ (Wk.here hq)
  · have z:=fun D h=>aJA (x1:=some (.str "darker")) (x2:=some x) (x4:=x4) (x5:=x5) (x6:=x6) (D:=D) (G:=G) l s bp h
    walk_at "ry"
    exact z _ (Wk.here hq)
  · have z:=fun D h=>aKC (x1:=some (.str "duller")) (x2:=some x) (x4:=x4) (x5:=x5) (x6:=x6) (D:=D) (G:=G) l s bp h
    walk_at "ry"
    exact z _ (Wk.here hq)
  · walk_at "ry"
    exact aJu hq
  · have z:=fun D h=>aIA (x1:=some (.str "opposite")) (x2:=some x) (x3:=some y) (x4:=x4) (x5:=x5) (x6:=x6) (D:=D) (G:=G) l s h
    walk_at "ry"
    exact z _ (Wk.here hq)
theorem EO (l:LT T):∀ xs G Q,pY xs G Q→wpS T iG (aJ Q) (aC 7 xs) G:=by
  rintro xs G Q ⟨r,w,x,f,rfl,s,d,hq⟩
  unfold iG
  have go:∀ {y:PV},DdR w x y f→wpS T ddR (aJ Q) [some (rV r),some (.str w),some x,some y,none,none,none] G:=fun d=>aIm l s d hq
  rcases d with ⟨rfl,o,rfl,ok,rfl⟩ | ⟨rfl,o,rfl,ok,rfl⟩ | ⟨rfl,o,rfl,ok,rfl⟩ | ⟨rfl,o,rfl,rfl⟩ | ⟨rfl,o,rfl,rfl⟩
  · walk_at "rd"
    cases o with
    | none=>exact go (.inl ⟨rfl,hlf,rfl,kO,rfl⟩)
    | some p=>exact go (.inl ⟨rfl,p,rfl,(ok p rfl).2,rfl⟩)
  · walk_at "rd"
    cases o with
    | none=>exact go (.inr (.inl ⟨rfl,hlf,rfl,kO,rfl⟩))
    | some p=>exact go (.inr (.inl ⟨rfl,p,rfl,(ok p rfl).2,rfl⟩))
  · walk_at "rd"
    cases o with
    | none=>exact go (.inr (.inr (.inl ⟨rfl,hlf,rfl,kO,rfl⟩)))
    | some p=>exact go (.inr (.inr (.inl ⟨rfl,p,rfl,(ok p rfl).2,rfl⟩)))
  · walk_at "rd"
    cases o with
    | none=>exact go (.inr (.inr (.inr (.inl ⟨rfl,none,rfl,rfl⟩))))
    | some n=>exact go (.inr (.inr (.inr (.inl ⟨rfl,some n,rfl,rfl⟩))))
  · walk_at "rd"
    cases o with
    | none=>exact go (.inr (.inr (.inr (.inr ⟨rfl,rfl⟩))))
    | some n=>exact go (.inr (.inr (.inr (.inr ⟨rfl,rfl⟩))))
end
theorem tU {w:Str} (h:w∈eD):w="lighter"∨w="darker"∨w="duller"∨w="turned"∨w="opposite":=by
  simpa [eD] using h
theorem WZ {T:Tb} {a b c:Rat} {G:Gh} {Q:PK1} (q:Q (.bl false) G):VW T [("Shade","Shade.__eq__")] (.tup [FQ a,FQ b,FQ c]) (.tup [FQ a,FQ b,FQ c]) G Q:=by
  refine .inr ?_
  rw [aCQ]
  simpa using q
theorem aA2 {T:Tb} {a:Str} {G:Gh} {Q:PK1} (h:PyData.strOk a=true) (q:Q (.bl false) G):VW T [("Shade","Shade.__eq__")] (.str a) (.str a) G Q:=by
  refine .inr ?_
  rw [aBo]
  refine ⟨h,h, ?_⟩
  rw [LB]; exact q
theorem aI6 {T:Tb} {r:R3} {G:Gh} {Q:PK1} (h:T.S "Shade.__eq__"=uS) (q:Q (.bl false) G):VW T [("Shade","Shade.__eq__")] (shV r) (shV r) G Q :=
  .inl ⟨"Shade","Shade.__eq__",_,_,_,_,List.mem_singleton.mpr rfl,rfl,rfl,by rw [h]; exact ⟨_,_,_,_,_,_,rfl,true,by simp,q⟩⟩
theorem aGU {r:R3}:0≤cnt r∧cnt r < 2 ^ 63:=by
  unfold cnt
  split <;> split <;> split <;> decide
theorem at6 {a b c d e f:PV} {i:Int} {P:PV→Prop} (h0:0≤i) (h6:i < 6) (q0:P a) (q1:P b) (q2:P c) (q3:P d) (q4:P e) (q5:P f):∃ v,atI [a,b,c,d,e,f] i=some v∧P v:=by
  have:i=0∨i=1∨i=2∨i=3∨i=4∨i=5:=by omega
  rcases this with rfl | rfl | rfl | rfl | rfl | rfl
  · exact ⟨_,at0,q0⟩
  · exact ⟨_,at1,q1⟩
  · exact ⟨_,at2,q2⟩
  · exact ⟨_,at3,q3⟩
  · exact ⟨_,at4,q4⟩
  · exact ⟨f,(show atI [a,b,c,d,e,f] ((5:Nat):Int)=some f from eN rfl),q5⟩
set_option hygiene false in
local macro_rules | `(tactic| walk_at "rd") => `(tactic| simp only [wpS, wpE, wpL, wpT, wpO, wpI, wpG, eV, aJ, aC, List.length_cons, List.length_nil, List.cons_append, List.nil_append, List.replicate, Nat.reduceAdd, Nat.reduceSub, Nat.zero_add, List.getElem?_cons_zero, List.getElem?_cons_succ, List.set_cons_zero, List.set_cons_succ, Option.some.injEq, exists_eq_left', true_and, and_true, ite_self, fZ, dI, pE, pU, bK, cM, bL, dH, nB, XU, bX, fH, aG.1, aG.2.1, aG.2.2.1, at0, at1, at2, List.cons.injEq, PV.int.injEq, PV.bl.injEq, PV.str.injEq, PV.ref.injEq, PV.tup.injEq, and_assoc, exists_and_left, eq_self, iX, Int.reduceToNat, Int.reducePow, eT, dE, lR, uJ, List.map, jK, gZ, bG, Bool.not_true, Bool.not_false, Bool.and_self, Bool.and_true, Bool.true_and, if_true, if_false, ite_true, ite_false, Bool.false_eq_true, decide_eq_true_eq, decide_true, decide_false, reduceCtorEq, sz3, Wk.here, OE, aI9, *])
section
variable {T:Tb}
theorem EY {w:Str} (h:w∈eD):PyData.strOk w=true:=by
  rcases tU h with rfl | rfl | rfl | rfl | rfl <;> exact eK _
noncomputable def is3:CS:=(.seq (.asg (.gn 3) (.bow .len [("Shade","Shade.__len__")] (.cons (.cmpr false (.gn 1) (.isq (.var 1)) (.tsb (.cmp .Gt (.idx (.var 1) (.int 0)) (.int 0))) (.var 1) [none,none]) .nil)))
  (.ret (.an (.cmp .Eq (.bow .len [("Shade","Shade.__len__")] (.cons (.var 0) .nil)) (.var 3)) (.cmp .Eq (.bow .bool [("Shade","Shade.__len__")] (.cons (.var 0) .nil)) (.cmp .Gt (.var 3) (.int 0))))))
theorem aI4 (k:L8 T) {r:R3} {x2 x3:Option PV} {G:Gh} {Q:PK1} (hq:Q (.bl true) G):wpS T is3 (aJ Q) [some (shV r),some (rV r),x2,x3] G:=by
  unfold is3
  have e1:=k.lenS
  obtain ⟨c0,c1⟩:=aGU (r:=r)
  simp only [wpS,wpE,wpL,wpI,bX,uJ,rV]
  refine ⟨_,rfl,(show 3≤sizeLine by decide),aEu (.inr ?_)⟩
  rw [vU,NL]
  walk_at "rd"
  refine oX ?_
  rw [e1]
  refine ⟨r,rfl,_,rfl,c0,c1, ?_⟩
  walk_at "rd"
  refine oX ?_
  rw [e1]
  refine ⟨r,rfl,_,rfl,c0,c1, ?_⟩
  walk_at "rd"
  have e:(cnt r != 0)=decide (0 < cnt r):=by
    by_cases z:cnt r=0
    · rw [z]; rfl
    · rw [decide_eq_true (by omega)]; simpa using z
  rw [e]
  refine ⟨rfl,rfl, ?_⟩
  simp only [pur,peq,beq_self_eq_true,Bool.false_eq_true,if_false]
  exact Wk.here hq
noncomputable def is2:CS:=(.seq (.iff (.oo (.tsb (.cne [("Shade","Shade.__eq__")] (.bow .str [("Shade","Shade.__str__")] (.cons (.var 0) .nil)) (.var 2))) (.tsb (.cne [("Shade","Shade.__eq__")] (.bow .repr [("Shade","Shade.__repr__")] (.cons (.var 0) .nil)) (.bin .Add (.bin .Add (.str "Shade(") (.var 2)) (.str ")"))))) (.ret (.bl false)) .nil) is3)
theorem aKz (k:L8 T) {r:R3} {x3:Option PV} {G:Gh} {Q:PK1} (s:Sh7 200 r) (hq:Q (.bl true) G):wpS T is2 (aJ Q) [some (shV r),some (rV r),some (.str (MB r)),x3] G:=by
  unfold is2
  have e1:=k.strS
  have e2:=k.repS
  have l:=HL s.2.1 s.2.2.1 s.2.2.2
  have l1:("Shade(":Str).length=6:=rfl
  have l2:(")":Str).length=1:=rfl
  have hs:=sizeLine_eq
  walk_at "rd"
  refine oX ?_
  rw [e1]
  refine ⟨r,rfl,s,_,rfl,aA2 aD0 ?_⟩
  walk_at "rd"
  refine oX ?_
  rw [e2]
  refine ⟨r,rfl,s,_,rfl,by omega,by rw [bC]; omega,aA2 aIS ?_⟩
  refine ⟨false,rfl, ?_⟩
  rw [if_neg Bool.false_ne_true]
  exact aI4 k hq
noncomputable def is1:CS:=(.seq (.asg (.gn 2) (.joi (.str " ") (.cmpr false (.gn 1) (.isq (.var 1)) .nil (.cal "_law_text" (.cons (.var 1) .nil)) [none,none]))) is2)
theorem aIt (k:L8 T) {r:R3} {x2 x3:Option PV} {G:Gh} {Q:PK1} (s:Sh7 200 r) (hq:Q (.bl true) G):wpS T is1 (aJ Q) [some (shV r),some (rV r),x2,x3] G:=by
  unfold is1
  have e1:=k.text
  obtain ⟨⟨i1,i2,i3⟩,b1,b2,b3⟩:=s
  have tx:∀ {q:Rat} {G:Gh} {Q:PK1},In1 q→Bd 200 q→Q (.str (wr q)) G→T.S "_law_text" [FQ q] G Q:=fun {q G Q} h h' z=>by rw [e1]; exact ⟨q,rfl,h.1,h',z⟩
  clear e1
  have l1:=kX b1
  have l2:=kX b2
  have l3:=kX b3
  walk_at "rd"
  refine tx i1 b1 (tx i2 b2 (tx i3 b3 ⟨[wr r.1,wr r.2.1,wr r.2.2],rfl, ?_, ?_⟩))
  · show (wr r.1).length + ((wr r.2.1).length + ((wr r.2.2).length + 0)) + 3 * 1≤16777216
    omega
  · exact aKz k ⟨⟨i1,i2,i3⟩,b1,b2,b3⟩ hq
noncomputable def isB:CS:=(.seq (.iff (.oo (.no (.tst (.blt .all (.cons (.cmpr false (.gn 1) (.isq (.cal "shares_of" (.cons (.var 0) .nil))) .nil (.cal "_law_is_fraction" (.cons (.var 1) .nil)) [none,none]) .nil)))) (.tsb (.cne [("Shade","Shade.__eq__")] (.var 0) (.cal "Shade" (.cons (.idx (.var 1) (.int 0)) (.cons (.idx (.var 1) (.int 1)) (.cons (.idx (.var 1) (.int 2)) .nil))))))) (.ret (.bl false)) .nil) is1)
theorem aJR (h:PT T) (lt:LT T) (k:L8 T) {r:R3} {x2 x3:Option PV} {G:Gh} {Q:PK1} (s:Sh7 200 r) (hq:Q (.bl true) G):wpS T isB (aJ Q) [some (shV r),some (rV r),x2,x3] G:=by
  unfold isB
  have:=h.shares_of
  have:=lt.is_fraction
  have es:=h.shade
  have:=s.2.1.mono (show 200≤8900 by decide)
  have:=s.2.2.1.mono (show 200≤8900 by decide)
  have:=s.2.2.2.mono (show 200≤8900 by decide)
  have ss:∀ {Q:PK1},Q (shV r) G→T.S "Shade" [FQ r.1,FQ r.2.1,FQ r.2.2] G Q:=fun {Q} q=>by rw [es]; exact ⟨_,_,_,rfl,s.1.1,s.1.2.1,s.1.2.2,q⟩
  clear es
  walk_at "rd"
  refine ⟨true,rfl, ?_⟩
  rw [if_neg (by decide)]
  refine ss (aI6 k.eqS ?_)
  walk_at "rd"
  exact aIt k s hq
noncomputable def kZ:CS:=(.seq (.iff (.oo (.no (.tst (.cal "is_shade" (.cons (.var 0) .nil)))) (.oo (.tsb (.cne [("Shade","Shade.__eq__")] (.cal "shares_of" (.cons (.var 0) .nil)) (.var 1))) (.tsb (.cne [("Shade","Shade.__eq__")] (.tup (.cons (.att (.var 0) "ember") (.cons (.att (.var 0) "leaf") (.cons (.att (.var 0) "sky") .nil)))) (.var 1))))) (.ret (.bl false)) .nil) isB)
theorem UC (h:PT T) (lt:LT T) (k:L8 T):∀ xs G Q,GI xs G Q→wpS T kZ (aJ Q) (aC 4 xs) G:=by
  rintro xs G Q ⟨r,rfl,s,hq⟩
  unfold kZ
  have:=h.shares_of
  have:=h.is_shade
  have e1:=@aFW T h
  have e2:=@aIe T h
  have e3:=@aFe T h
  walk_at "rd"
  refine WZ ?_
  walk_at "rd"
  refine WZ ?_
  walk_at "rd"
  exact aJR h lt k s hq
end
set_option hygiene false in
local macro_rules | `(tactic| walk_at "rd") => `(tactic| simp only [wpS, wpE, wpL, wpT, wpO, wpI, wpG, eV, aJ, aC, List.length_cons, List.length_nil, List.cons_append, List.nil_append, List.append_nil, List.replicate, Nat.reduceAdd, Nat.reduceSub, Nat.zero_add, List.getElem?_cons_zero, List.getElem?_cons_succ, List.set_cons_zero, List.set_cons_succ, Option.some.injEq, exists_eq_left', true_and, and_true, exists_false, ite_self, false_and, and_false, or_false, fZ, lS, iI, nC, bL, lP, dH, nB, bX, fH, aG.1, aG.2.1, aG.2.2.1, at0, at1, at2, List.cons.injEq, PV.int.injEq, PV.bl.injEq, PV.str.injEq, PV.ref.injEq, PV.tup.injEq, and_assoc, exists_and_left, eq_self, iX, cV, Int.reduceToNat, Int.reducePow, eT, dE, sW, lR, uJ, Option.getD_some, List.map, gO, eM, dR, jR, eU, iP, bG, gY, Bool.not_true, Bool.not_false, Bool.and_self, Bool.and_true, Bool.true_and, if_true, if_false, ite_true, ite_false, Bool.false_eq_true, decide_eq_true_eq, decide_true, decide_false, reduceCtorEq, sz2, sz3, Wk.here, NM, aIK, ZU, OE, *])
section
variable {T:Tb}
noncomputable def gG:CS:=oY
noncomputable def gQ:CS:=pK
noncomputable def hJ:CS:=uV
noncomputable def fQ:CS:=nI
noncomputable def iF:CS:=iO
theorem BO (h:PT T) (k:L8 T):∀ xs G Q,pJ xs G Q→wpS T gG (aJ Q) (aC 1 xs) G:=by
  rintro xs G Q ⟨o,rfl,ok,hq⟩
  unfold gG oY
  have:=h.is_share
  have:=k.gv_HALF
  cases o with
  | none =>
    have hq':Q (FQ hlf) G:=hq
    simp only [tV]
    walk_at "rd"
  | some p =>
    have hq':Q (FQ p) G:=hq
    obtain ⟨⟨i1,i2⟩,_⟩:=ok p rfl
    simp only [tV]
    walk_at "rd"
noncomputable def iB:CS:=uQ
theorem GQ (h:PT T):∀ xs G Q,xQ xs G Q→wpS T iB (aJ Q) (aC 3 xs) G:=by
  rintro xs G Q ⟨⟨a,b,c⟩,q,p,rfl,⟨⟨ia,ib,ic⟩,ba,bb,bc⟩,iq,bq,ip,bp,hq⟩
  unfold iB uQ
  have:=h.shares_of
  have:=h.minus
  have:=h.plus
  have:=h.times
  have:=h.shade_of
  have q4:=bq.mono (show 1900≤4000 by decide)
  have p4:=bp.mono (show 60≤4000 by decide)
  have a4:Bd 4000 a:=ba.mono (by decide)
  have b4:Bd 4000 b:=bb.mono (by decide)
  have c4:Bd 4000 c:=bc.mono (by decide)
  have a1:Bd 4000 (q - a):=bq.sub ba (show 1900 + 600 + 1≤4000 by decide)
  have b1:Bd 4000 (q - b):=bq.sub bb (show 1900 + 600 + 1≤4000 by decide)
  have c1:Bd 4000 (q - c):=bq.sub bc (show 1900 + 600 + 1≤4000 by decide)
  have a2:Bd 4000 (p * (q - a)):=bp.mul (bq.sub ba (show 1900 + 600 + 1≤2501 by decide)) (show 60 + 2501≤4000 by decide)
  have b2:Bd 4000 (p * (q - b)):=bp.mul (bq.sub bb (show 1900 + 600 + 1≤2501 by decide)) (show 60 + 2501≤4000 by decide)
  have c2:Bd 4000 (p * (q - c)):=bp.mul (bq.sub bc (show 1900 + 600 + 1≤2501 by decide)) (show 60 + 2501≤4000 by decide)
  have ja:In1 (a + p * (q - a)):=tE ia iq ip
  have jb:In1 (b + p * (q - b)):=tE ib iq ip
  have jc:In1 (c + p * (q - c)):=tE ic iq ip
  walk_at "rd"
  exact Wk.here hq
theorem XC (k:L8 T) {r:R3} {q p:Rat} {G:Gh} {Q:PK1} (s:Sh7 600 r) (iq:In1 q) (bq:Bd 1900 q) (ip:In1 p) (bp:Bd 60 p) (z:Q (shV (tw q p r)) G):T.S "toward" [shV r,FQ q,FQ p] G Q:=by
  rw [k.toward]; exact ⟨r,q,p,rfl,s,iq,bq,ip,bp,z⟩
theorem MF (k:L8 T) {o:Option Rat} {G:Gh} {Q:PK1} (ok:PO o) (z:Q (FQ (hf o)) G):T.S "part_of" [tV o] G Q:=by
  rw [k.part_of]; exact ⟨o,rfl,ok,z⟩
theorem BU (h:PT T) (k:L8 T):∀ xs G Q,bU (fun _=>1) xs G Q→wpS T gQ (aJ Q) (aC 2 xs) G:=by
  rintro xs G Q ⟨r,o,rfl,s,ok,hq⟩
  unfold gQ pK
  have:=h.need_shade
  have:=h.gv_ONE
  walk_at "rd"
  exact MF k ok (XC k s aDn (bd1.mono (by decide)) ok.hf.1 ok.hf.2 (Wk.here hq))
theorem HE (h:PT T) (k:L8 T):∀ xs G Q,bU (fun _=>0) xs G Q→wpS T hJ (aJ Q) (aC 2 xs) G:=by
  rintro xs G Q ⟨r,o,rfl,s,ok,hq⟩
  unfold hJ uV
  have:=h.need_shade
  have:=h.gv_ZERO
  walk_at "rd"
  exact MF k ok (XC k s yY (bd0.mono (by decide)) ok.hf.1 ok.hf.2 (Wk.here hq))
noncomputable def iE:CS:=(.seq (.ex (.cal "need_shade" (.cons (.var 0) .nil)))
  (.seq (.asg (.gn 2) (.cal "part_of" (.cons (.var 1) .nil)))
  (.seq (.asg (.gn 3) (.cal "plus" (.cons (.cal "plus" (.cons (.att (.var 0) "ember") (.cons (.att (.var 0) "leaf") .nil))) (.cons (.att (.var 0) "sky") .nil))))
  (.ret (.cal "toward" (.cons (.var 0) (.cons (.cal "over" (.cons (.var 3) (.cons (.tup (.cons (.int 3) (.cons (.int 1) .nil))) .nil))) (.cons (.var 2) .nil))))))))
theorem EI (h:PT T) (k:L8 T):∀ xs G Q,bU md xs G Q→wpS T iE (aJ Q) (aC 4 xs) G:=by
  rintro xs G Q ⟨r,o,rfl,s,ok,hq⟩
  unfold iE
  have:=h.need_shade
  have:=h.plus
  have:=h.over
  walk_at "rd"
  refine MF k ok ?_
  have e1:=@aFW T h
  have e2:=@aIe T h
  have e3:=@aFe T h
  obtain ⟨i3,b1,b2,b3⟩:=s
  have d1:=b1.add b2 (show 600 + 600 + 1≤1201 by decide)
  have d2:=d1.add b3 (show 1201 + 600 + 1≤1802 by decide)
  walk_at "rd"
  exact ⟨b1.mono (by decide),b2.mono (by decide),d1.mono (by decide),b3.mono (by decide),d2.mono (by decide),aIx.mono (by decide),by decide,XC k ⟨i3,b1,b2,b3⟩ (aEX i3) (d2.dv aIx (by decide) (by decide)) ok.hf.1 ok.hf.2 (Wk.here hq)⟩
theorem zD (h:PT T):∀ xs G Q,wA xs G Q→wpS T fQ (aJ Q) (aC 1 xs) G:=by
  rintro xs G Q ⟨⟨a,b,c⟩,rfl,⟨⟨ia,ib,ic⟩,ba,bb,bc⟩,hq⟩
  unfold fQ nI
  have:=h.shares_of
  have:=h.minus
  have:=h.shade_of
  have:=h.gv_ONE
  have o4:=bd1.mono (show 2≤4000 by decide)
  have a4:=ba.mono (show 600≤4000 by decide)
  have b4:=bb.mono (show 600≤4000 by decide)
  have c4:=bc.mono (show 600≤4000 by decide)
  have ja:=tJ ia
  have jb:=tJ ib
  have jc:=tJ ic
  walk_at "rd"
  exact Wk.here hq
theorem HK (h:PT T):∀ xs G Q,rY xs G Q→wpS T iF (aJ Q) (aC 3 xs) G:=by
  rintro xs G Q ⟨⟨a,b,c⟩,o,rfl,s,hq⟩
  cases o with
  | some n=>exact aAp h _ _ _ ⟨a,b,c,n,rfl,s.1,hq⟩
  | none =>
    obtain ⟨⟨ia,ib,ic⟩,_⟩:=s
    have hq':Q (SH c a b) G:=hq
    unfold iF iO
    have:=h.need_shade
    have:=h.is_whole
    have:=h.shares_of
    have:=h.shade_of
    have:=@zQ
    have e0:(0 - 1:Int) % 3=2:=by decide
    have e1:(1 - 1:Int) % 3=0:=by decide
    have e2:(2 - 1:Int) % 3=1:=by decide
    have c3:∀ i:Int,zJ i 3:=fun _=>by show (0:Int) < 3; decide
    simp only [iV]
    walk_at "rd"
    exact ⟨by decide,by decide⟩
end
theorem aLE:([("lighter","lighter"),("darker","darker"),("duller","duller"),("turned","turned")]:List (Str×Str)).lookup ("lighter":Str)=some ("lighter":Str):=by decide +kernel
theorem aK6:([("lighter","lighter"),("darker","darker"),("duller","duller"),("turned","turned")]:List (Str×Str)).lookup ("darker":Str)=some ("darker":Str):=by decide +kernel
theorem aLN:([("lighter","lighter"),("darker","darker"),("duller","duller"),("turned","turned")]:List (Str×Str)).lookup ("duller":Str)=some ("duller":Str):=by decide +kernel
theorem aLl:([("lighter","lighter"),("darker","darker"),("duller","duller"),("turned","turned")]:List (Str×Str)).lookup ("turned":Str)=some ("turned":Str):=by decide +kernel
theorem ZE {T:String} {a:Str} {cs:List String} {G:Gh} {Q:PK1}:eI cs .isi [.str a,.ty T] G Q=(T∈nH∧Q (.bl (pA "str" T)) G):=vS rfl
theorem aHf:pA "str" "str"=true:=by decide
theorem aJB {G:Gh} {Q:PK1}:nE .NotIn (.int 1) (.tup [.int 1,.int 2]) G Q=Q (.bl false) G:=by
  refine propext ⟨?_,fun q=>⟨_,.inl rfl,rfl,rfl,q⟩⟩
  rintro ⟨xs,h,_,_,q⟩
  rcases h with h | h
  · cases h; exact q
  · cases h
theorem aII {G:Gh} {Q:PK1}:nE .NotIn (.int 2) (.tup [.int 1,.int 2]) G Q=Q (.bl false) G:=by
  refine propext ⟨?_,fun q=>⟨_,.inl rfl,rfl,rfl,q⟩⟩
  rintro ⟨xs,h,_,_,q⟩
  rcases h with h | h
  · cases h; exact q
  · cases h
set_option hygiene false in
local macro_rules | `(tactic| walk_at "rd") => `(tactic| simp only [wpS, wpE, wpL, wpT, wpO, wpI, wpG, eV, aJ, aC, List.length_cons, List.length_nil, List.cons_append, List.nil_append, List.append_nil, List.replicate, Nat.reduceAdd, Nat.reduceSub, Nat.zero_add, List.getElem?_cons_zero, List.getElem?_cons_succ, List.set_cons_zero, List.set_cons_succ, Option.some.injEq, exists_eq_left', true_and, and_true, exists_false, ite_self, false_and, and_false, or_false, fZ, pU, bK, nC, cM, bL, lP, dH, lY, vV, fH, aG.1, aG.2.1, aG.2.2.1, CY, at0, at1, NQ, NB, List.cons.injEq, PV.int.injEq, PV.bl.injEq, PV.str.injEq, PV.ref.injEq, PV.tup.injEq, and_assoc, exists_and_left, eq_self, iX, cV, Int.reduceToNat, Int.reducePow, exists_eq', lR, List.map, eU, iP, Bool.not_true, Bool.not_false, Bool.and_self, Bool.and_true, Bool.true_and, if_true, if_false, ite_true, ite_false, Bool.false_eq_true, decide_eq_true_eq, decide_true, decide_false, reduceCtorEq, sz2, Wk.here, ZU, FE, OE, mY, aBF, aCe, aDd, UX, aBn, aHS, aFU, aGl, LB, ZE, aHf, aG.2.2.2.1, aJB, aII, Option.isSome_some, *])
section
variable {T:Tb}
noncomputable def nM:CS:=(.seq (.iff (.tsb (.cmp .Is (.var 1) .non)) (.ret (.bl true)) .nil)
  (.seq (.iff (.tsb (.cmp .Eq (.var 0) (.str "turned"))) (.ret (.cal "is_whole" (.cons (.var 1) .nil))) .nil)
  (.ret (.cal "is_share" (.cons (.var 1) .nil)))))
theorem aB0 (h:PT T):∀ xs G Q,wS xs G Q→wpS T nM (aJ Q) (aC 2 xs) G:=by
  rintro xs G Q ⟨w,x,f,rfl,d,hq⟩
  unfold nM
  have:=h.is_whole
  have:=h.is_share
  rcases d with ⟨rfl,o,rfl,ok,rfl⟩ | ⟨rfl,o,rfl,ok,rfl⟩ | ⟨rfl,o,rfl,ok,rfl⟩ | ⟨rfl,o,rfl,rfl⟩
  · cases o with
    | none=>simp only [tV,iV]; walk_at "rd"
    | some p=>obtain ⟨⟨i1,i2⟩,_⟩:=ok p rfl; simp only [tV,iV]; walk_at "rd"
  · cases o with
    | none=>simp only [tV,iV]; walk_at "rd"
    | some p=>obtain ⟨⟨i1,i2⟩,_⟩:=ok p rfl; simp only [tV,iV]; walk_at "rd"
  · cases o with
    | none=>simp only [tV,iV]; walk_at "rd"
    | some p=>obtain ⟨⟨i1,i2⟩,_⟩:=ok p rfl; simp only [tV,iV]; walk_at "rd"
  · cases o with
    | none=>simp only [tV,iV]; walk_at "rd"
    | some p=>simp only [tV,iV]; walk_at "rd"
theorem aLP (k:L8 T) {w:Str} {x:PV} {f:R3→R3} {G:Gh} {Q:PK1} (d:DdX w x f) (q:Q (.bl true) G):T.S "is_by" [.str w,x] G Q:=by rw [k.is_by]; exact ⟨w,x,f,rfl,d,q⟩
noncomputable def jQ:CS:=(.seq (.iff (.oo (.no (.tst (.blt .isi (.cons (.var 0) (.cons (.glo "tuple") .nil))))) (.tsb (.cmp .NotIn (.blt .len (.cons (.var 0) .nil)) (.tup (.cons (.int 1) (.cons (.int 2) .nil)))))) (.ret (.bl false)) .nil)
  (.seq (.asg (.gn 1) (.idx (.var 0) (.int 0)))
  (.seq (.iff (.no (.tst (.blt .isi (.cons (.var 1) (.cons (.glo "str") .nil))))) (.ret (.bl false)) .nil)
  (.seq (.iff (.tsb (.cmp .Eq (.var 1) (.str "opposite"))) (.ret (.cmp .Eq (.blt .len (.cons (.var 0) .nil)) (.int 1))) .nil)
  (.ret (.an (.gin false [("lighter","lighter"),("darker","darker"),("duller","duller"),("turned","turned")] (.var 1)) (.oo (.cmp .Eq (.blt .len (.cons (.var 0) .nil)) (.int 1)) (.cal "is_by" (.cons (.var 1) (.cons (.idx (.var 0) (.int 1)) .nil))))))))))
theorem DdX.facts {w:Str} {x:PV} {f:R3→R3} (h:DdX w x f):(w == ("opposite":Str))=false∧PyData.strOk w=true∧([("lighter","lighter"),("darker","darker"),("duller","duller"),("turned","turned")]:List (Str×Str)).lookup w=some w:=by
  rcases h with ⟨rfl,_⟩ | ⟨rfl,_⟩ | ⟨rfl,_⟩ | ⟨rfl,_⟩
  · exact ⟨aHg,aBF,aLE⟩
  · exact ⟨aG5,aCe,aK6⟩
  · exact ⟨aIf,aDd,aLN⟩
  · exact ⟨aG3,UX,aLl⟩
theorem TR (h:PT T) (k:L8 T):∀ xs G Q,lT xs G Q→wpS T jQ (aJ Q) (aC 2 xs) G:=by
  rintro xs G Q ⟨d,f,rfl,dx,hq⟩
  unfold jQ
  have:=h.ty_tuple
  have:=k.ty_str
  rcases dx with ⟨w,x,dd,hd⟩ | ⟨rfl,rfl⟩
  · obtain ⟨f1,f2,f3⟩:=dd.facts
    rcases hd with rfl | ⟨e,rfl⟩
    · walk_at "rd"
      exact aLP k dd (Wk.here hq)
    · walk_at "rd"
  · walk_at "rd"
noncomputable def gM:CS:=(.seq (.iff (.oo (.no (.tst (.blt .isi (.cons (.var 0) (.cons (.glo "tuple") .nil))))) (.tsb (.cmp .Gt (.blt .len (.cons (.var 0) .nil)) (.glo "MOST_DEEDS")))) .nev .nil)
  (.fr (.gt 2 (.cons (.gn 1) (.cons (.gn 2) .nil))) (.ien (.var 0)) (.iff (.no (.tst (.cal "is_deed" (.cons (.var 2) .nil)))) .nev .nil)))
theorem DO (h:PT T) (k:L8 T):∀ xs G Q,rG xs G Q→wpS T gM (aJ Q) (aC 3 xs) G:=by
  rintro xs G Q ⟨ds,rfl,h20,hd,hq⟩
  unfold gM
  have:=h.ty_tuple
  have:=k.gv_MD
  have e:=k.is_deed
  have sd:∀ {d:PV} {G:Gh} {Q:PK1},d∈ds→Q (.bl true) G→T.S "is_deed" [d] G Q:=fun {d G Q} hm q=>by
    obtain ⟨f,dx⟩:=hd d hm
    rw [e]; exact ⟨d,f,rfl,dx,q⟩
  clear e
  have hn:¬(20:Int) < (ds.length:Int):=by omega
  walk_at "rd"
  refine rL (fun σ G'=>G'=G∧∃ u v,σ=[some (.tup ds),u,v]) ⟨rfl,_,_,rfl⟩ ?_ ?_
  · rintro x hx σ G' R ⟨rfl,u,v,rfl⟩ hR
    unfold yU at hx
    obtain ⟨⟨y,i⟩,hy,rfl⟩:=List.mem_map.mp hx
    have hm:y∈ds:=by
      have:=List.mem_zipIdx' hy
      rw [this.2]
      exact List.getElem_mem _
    walk_at "rd"
    refine sd hm ?_
    have hR':=fun a b=>hR [some (.tup ds),a,b] G' ⟨rfl,_,_,rfl⟩
    clear hR
    walk_at "rd"
  · rintro σ G' ⟨rfl,u,v,rfl⟩
    exact Wk.here hq
theorem aFH {f:R3→Rat} {w:Str} {r:R3} {o:Option Rat} {G:Gh} {Q:PK1} (e:T.S w=bU f) (s:Sh7 600 r) (ok:PO o) (z:Q (shV (tw (f r) (hf o) r)) G):T.S w [shV r,tV o] G Q:=by
  rw [e]; exact ⟨r,o,rfl,s,ok,z⟩
theorem aMI (k:L8 T) {r:R3} {o:Option Int} {G:Gh} {Q:PK1} (s:Sh7 600 r) (z:Q (shV (rt (o.getD 1) r)) G):T.S "turned" [shV r,iV o] G Q:=by
  rw [k.turned]; exact ⟨r,o,rfl,s,z⟩
theorem aLL (k:L8 T) {r:R3} {G:Gh} {Q:PK1} (s:Sh7 600 r) (z:Q (shV (op3 r)) G):T.S "opposite" [shV r] G Q:=by
  rw [k.opposite]; exact ⟨r,rfl,s,z⟩
noncomputable def lU:CS:=(.seq (.iff (.tsb (.cmp .Eq (.idx (.var 1) (.int 0)) (.str "opposite"))) (.ret (.cal "opposite" (.cons (.var 0) .nil))) .nil)
  (.seq (.asg (.gn 2) (.gix [("lighter","lighter"),("darker","darker"),("duller","duller"),("turned","turned")] (.idx (.var 1) (.int 0))))
  (.seq (.iff (.tsb (.cmp .Eq (.blt .len (.cons (.var 1) .nil)) (.int 1))) (.ret (.cav [("darker",1,[.arg 0,.non]),("duller",1,[.arg 0,.non]),("lighter",1,[.arg 0,.non]),("turned",1,[.arg 0,.non])] 2 (.cons (.var 0) .nil))) .nil)
  (.ret (.cav [("darker",2,[.arg 0,.arg 1]),("duller",2,[.arg 0,.arg 1]),("lighter",2,[.arg 0,.arg 1]),("turned",2,[.arg 0,.arg 1])] 2 (.cons (.var 0) (.cons (.idx (.var 1) (.int 1)) .nil)))))))
theorem DdX.run (k:L8 T) {w:Str} {x:PV} {f:R3→R3} {r:R3} {G:Gh} {Q:PK1} (h:DdX w x f) (s:Sh7 600 r) (q:Q (shV (f r)) G):T.S w [shV r,x] G Q:=by
  rcases h with ⟨rfl,o,rfl,ok,rfl⟩ | ⟨rfl,o,rfl,ok,rfl⟩ | ⟨rfl,o,rfl,ok,rfl⟩ | ⟨rfl,o,rfl,rfl⟩
  · exact aFH k.lighter s ok q
  · exact aFH k.darker s ok q
  · exact aFH k.duller s ok q
  · exact aMI k s q
theorem DdX.mem {w:Str} {x:PV} {f:R3→R3} (h:DdX w x f) (n:Nat) (ar:List Ar):(w,n,ar)∈([("darker",n,ar),("duller",n,ar),("lighter",n,ar),("turned",n,ar)]:List (Str×Nat×List Ar)):=by
  rcases h with ⟨rfl,_⟩ | ⟨rfl,_⟩ | ⟨rfl,_⟩ | ⟨rfl,_⟩ <;> simp
theorem UN (k:L8 T):∀ xs G Q,rF xs G Q→wpS T lU (aJ Q) (aC 3 xs) G:=by
  rintro xs G Q ⟨r,d,f,rfl,s,dx,hq⟩
  unfold lU
  rcases dx with ⟨w,x,dd,hd⟩ | ⟨rfl,rfl⟩
  · obtain ⟨f1,f2,f3⟩:=dd.facts
    have z:=dd.run (G:=G) (Q:=Wk Q) k s (Wk.here hq)
    rcases hd with rfl | ⟨e,rfl⟩
    · walk_at "rd"
      exact ⟨_,rfl,2,[.arg 0,.arg 1],dd.mem 2 _,z⟩
    · rw [e] at z
      walk_at "rd"
      exact ⟨_,rfl,1,[.arg 0,.non],dd.mem 1 _,z⟩
  · have z:=aLL (G:=G) (Q:=Wk Q) k s (Wk.here hq)
    walk_at "rd"
    exact z
theorem oW {chk:Gh→Prop} {g:PTG} {tb:PTS} {D:dF} (J:List PV→PSt→Gh→Prop) (hc:∀ l σ G,J l σ G→chk G)
    (step:∀ x r σ G (R:PSt→Gh→Prop),J (x :: r) σ G→(∀ σ' G',J r σ' G'→R σ' G')→g x σ G fun σ2 G2=>tb { D with nx:=R,ct:=R,bk:=D.nx } σ2 G2)
    (fin:∀ σ G,J [] σ G→D.nx σ G):∀ (l:List PV) σ G,J l σ G→oZ chk g tb D l σ G
  | [],σ,G,h=>⟨hc _ _ _ h,fin _ _ h⟩
  | x :: r,σ,G,h=>⟨hc _ _ _ h,step x r σ G _ h fun σ' G' h'=>oW J hc step fin r σ' G' h'⟩
theorem JN.all:∀ {ds:List PV} {r r':R3},JN ds r r'→∀ d∈ds,∃ f,DX d f
  | [],_,_,_,_,h=>by cases h
  | d :: ds,r,r',⟨f,dx,s,t⟩,e,h=>by
    rcases List.mem_cons.mp h with rfl | h
    · exact ⟨f,dx⟩
    · exact JN.all t e h
noncomputable def sA:CS:=(.seq (.ex (.cal "need_shade" (.cons (.var 0) .nil)))
  (.seq (.ex (.cal "need_deeds" (.cons (.var 1) .nil)))
  (.seq (.fr (.gn 2) (.isq (.var 1)) (.asg (.gn 0) (.cal "do_one" (.cons (.var 0) (.cons (.var 2) .nil)))))
  (.ret (.var 0)))))
theorem aH1 (h:PT T) (k:L8 T):∀ xs G Q,wX xs G Q→wpS T sA (aJ Q) (aC 3 xs) G:=by
  rintro xs G Q ⟨r,r',ds,rfl,h20,ls,hq⟩
  unfold sA
  have:=h.need_shade
  have e1:=k.need_deeds
  have e2:=k.do_one
  have sn:∀ {G:Gh} {Q:PK1},Q .non G→T.S "need_deeds" [.tup ds] G Q:=fun {G Q} q=>by rw [e1]; exact ⟨ds,rfl,h20,ls.all,q⟩
  have so:∀ {r:R3} {d:PV} {f:R3→R3} {G:Gh} {Q:PK1},Sh7 600 r→DX d f→Q (shV (f r)) G→T.S "do_one" [shV r,d] G Q:=fun {r d f G Q} s dx q=>by rw [e2]; exact ⟨r,d,f,rfl,s,dx,q⟩
  clear e1 e2
  walk_at "rd"
  refine sn ?_
  refine oW (fun l σ G'=>G'=G∧∃ r0 u,σ=[some (shV r0),some (.tup ds),u]∧JN l r0 r') (fun _ _ _ _=>trivial) ?_ ?_ ds _ _ ⟨rfl,r,none,rfl,ls⟩
  · rintro d l σ G' R ⟨rfl,r0,u,rfl,f,dx,s,t⟩ hR
    have hR':=fun a b c=>hR [some (shV a),some (.tup ds),b] G' ⟨rfl,_,_,rfl,c⟩
    clear hR
    walk_at "rd"
    exact so s dx (hR' _ _ t)
  · rintro σ G' ⟨rfl,r0,u,rfl,hl⟩
    have hl:r'=r0:=hl
    subst hl
    walk_at "rd"
    exact Wk.here hq
end
theorem NT {m:Nat}:PM m none:=fun _ e=>nomatch e
theorem rC {p:Rat} (h:In1 p) (b:Bd 12 p):PM 4096 (some p):=fun _ e=>by
  cases e
  refine ⟨h,b, ?_⟩
  have:(p.den:Int).natAbs < 2 ^ 12:=b.2
  omega
theorem aIL {w:Str} (h:w∈eD) (ht:¬w="turned") {o:Option Rat} (ok:PM 4096 o):w="opposite"∨∃ f,DdM 4096 w (tV o) f:=by
  rcases tU h with rfl | rfl | rfl | rfl | rfl
  · exact .inr ⟨_,.inl ⟨rfl,o,rfl,ok,rfl⟩⟩
  · exact .inr ⟨_,.inr (.inl ⟨rfl,o,rfl,ok,rfl⟩)⟩
  · exact .inr ⟨_,.inr (.inr (.inl ⟨rfl,o,rfl,ok,rfl⟩))⟩
  · exact absurd rfl ht
  · exact .inl rfl
theorem aBL {o:Option Int} (h:∀ n,o=some n→n.natAbs < 10 ^ 40):∃ f,DdM 4096 "turned" (iV o) f:=⟨_,.inr (.inr (.inr ⟨rfl,o,rfl,h,rfl⟩))⟩
theorem aG7 {t:Int}:Rat.divInt t 60 * ((60:Int):Rat)=(t:Rat):=by
  rw [Rat.divInt_eq_div]; exact Rat.div_mul_cancel (by decide)
set_option hygiene false in
local macro_rules | `(tactic| walk_at "rd") => `(tactic| simp only [wpS, wpE, wpL, wpT, wpO, wpI, wpG, eV, aJ, aC, List.length_cons, List.length_nil, List.cons_append, List.nil_append, List.append_nil, List.replicate, Nat.reduceAdd, Nat.reduceSub, Nat.zero_add, List.getElem?_cons_zero, List.getElem?_cons_succ, List.set_cons_zero, List.set_cons_succ, Option.some.injEq, exists_eq_left', true_and, and_true, ite_self, fZ, dI, lS, HJ, hW, GN, bK, gE, bX, aG.1, aG.2.1, aG.2.2.1, List.cons.injEq, PV.int.injEq, PV.bl.injEq, PV.str.injEq, PV.ref.injEq, PV.tup.injEq, and_assoc, exists_and_left, eq_self, bV, Int.reduceToNat, Int.reducePow, List.map, kN, jC, Bool.not_true, Bool.not_false, Bool.and_self, Bool.and_true, Bool.true_and, if_true, if_false, ite_true, ite_false, Bool.false_eq_true, decide_eq_true_eq, decide_true, decide_false, reduceCtorEq, sz1, sz2, NM, UV, aEU, mY, UX, LB, *])
section
variable {T:Tb}
noncomputable def cR:CS:=(.ret (.cal "_law_low" (.cons (.cal "_law_pick" (.cons (.var 0) (.cons (.int 61) .nil))) (.cons (.int 60) .nil))))
theorem oM (l:LT T):∀ xs G Q,rO xs G Q→wpS T cR (aJ Q) (aC 1 xs) G:=by
  rintro xs G Q ⟨p,rfl,hp,hq⟩
  unfold cR
  have:=l.pick
  have:=l.low
  walk_at "rd"
  refine ⟨by decide,smP (by decide) (by decide),fun r G1 r0 r1 m=>⟨by decide,smK (by decide) (by decide) (by decide), ?_⟩⟩
  have i1:In1 (Rat.divInt r 60):=by
    have e:=@aG7 r
    have a:(0:Rat)≤(r:Rat):=Rat.intCast_nonneg.mpr r0
    have b:(r:Rat)≤((60:Int):Rat):=Rat.intCast_le_intCast.mpr (by omega)
    have c:((60:Int):Rat)=60:=rfl
    rw [c] at e b
    constructor
    · grind
    · grind
  have b1:Bd 12 (Rat.divInt r 60):=NY (D:=60) i1 (by decide) ⟨r,aG7⟩ (by decide)
  exact Wk.here (hq _ _ i1 b1 ⟨r,aG7⟩ m)
noncomputable def kG:CS:=(.seq (.asg (.gn 2) (.cal "_law_pick" (.cons (.var 0) (.cons (.int 6) .nil))))
  (.seq (.iff (.tsb (.cmp .Eq (.var 1) (.str "turned"))) (.seq (.asg (.gn 3) (.lst false (.cons .non (.cons (.int 0) (.cons (.bin .Add (.int 1) (.cal "_law_pick" (.cons (.var 0) (.cons (.int 3) .nil)))) (.cons (.bin .Sub (.bin .Sub (.int 0) (.int 1)) (.cal "_law_pick" (.cons (.var 0) (.cons (.int 7) .nil)))) (.cons (.bin .Add (.bin .Pow (.int 10) (.int 30)) (.cal "_law_pick" (.cons (.var 0) (.cons (.int 9) .nil)))) .nil)))))))
  (.ret (.idx (.bin .Add (.var 3) (.lst false (.cons (.bin .Sub (.bin .Sub (.int 0) (.bin .Pow (.int 10) (.int 20))) (.cal "_law_pick" (.cons (.var 0) (.cons (.int 9) .nil)))) .nil))) (.var 2)))) .nil)
  (.ret (.idx (.lst false (.cons .non (.cons (.tup (.cons (.int 0) (.cons (.int 1) .nil))) (.cons (.tup (.cons (.int 1) (.cons (.int 1) .nil))) (.cons (.tup (.cons (.int 1) (.cons (.int 2) .nil))) (.cons (.cal "_law_share" (.cons (.var 0) .nil)) (.cons (.cal "_law_plain_share" (.cons (.var 0) .nil)) .nil))))))) (.var 2)))))
theorem TN (l:LT T) (k:L8 T):∀ xs G Q,OH xs G Q→wpS T kG (aJ Q) (aC 4 xs) G:=by
  rintro xs G Q ⟨p,w,rfl,hp,hw,hq⟩
  unfold kG
  have:=l.pick
  have:=l.share
  have e1:=k.plain
  have sp:∀ {p:Addr} {G:Gh} {Q:PK1},Pu p G→(∀ q G',In1 q→Bd 12 q→Pn p G G'→Q (FQ q) G')→T.S "_law_plain_share" [.ref p] G Q:=fun {p G Q} hp q=>by rw [e1]; exact ⟨p,rfl,hp,fun a b c d _ e=>q a b c d e⟩
  clear e1
  have cp:CM 10 20:=by unfold CM; decide
  have cp3:CM 10 30:=by unfold CM; decide
  have okw:=EY hw
  by_cases ht:w="turned"
  · subst ht
    walk_at "rd"
    refine ⟨by decide,smP (by decide) (by decide),fun r G1 r0 r6 m1=>⟨m1.pu,by decide,smP (by decide) (by decide),fun a G2 a0 a1 m2=>⟨m2.pu,by decide,smP (by decide) (by decide),fun b G3 b0 b1 m3=>⟨m3.pu,by decide,smP (by decide) (by decide),fun c G4 c0 c1 m4=>⟨by decide,m4.pu,by decide,smP (by decide) (by decide),fun d G5 d0 d1 m5=>⟨by decide, ?_⟩⟩⟩⟩⟩⟩
    have m:=(((m1.trans m2).trans m3).trans m4).trans m5
    have fin:∀ o:Option Int,(∀ n,o=some n→n.natAbs < 10 ^ 40)→Wk Q (iV o) G5:=fun o h=>Wk.here (hq _ _ (.inr (aBL h)) m)
    exact at6 (P:=fun v=>Wk Q v G5) r0 r6 (fin none fun _ e=>nomatch e) (fin (some 0) fun n e=>by cases e; decide) (fin (some _) fun n e=>by cases e; omega) (fin (some _) fun n e=>by cases e; omega) (fin (some _) fun n e=>by cases e; omega) (fin (some _) fun n e=>by cases e; omega)
  · have ne:(w == ("turned":Str))=false:=beq_eq_false_iff_ne.mpr ht
    walk_at "rd"
    refine ⟨by decide,smP (by decide) (by decide),fun r G1 r0 r6 m1=>⟨m1.pu,fun q1 G2 i1 b1 m2=>sp m2.pu fun q2 G3 i2 b2 m3=>⟨by decide, ?_⟩⟩⟩
    have m:=(m1.trans m2).trans m3
    have fin:∀ {o:Option Rat},PM 4096 o→Wk Q (tV o) G3:=fun {o} ok=>Wk.here (hq _ _ (aIL hw ht ok) m)
    exact at6 (P:=fun v=>Wk Q v G3) r0 r6 (fin NT) (fin (rC yY (bd0.mono (by decide)))) (fin (rC aDn (bd1.mono (by decide)))) (fin (rC rT kO)) (fin (rC i1 b1)) (fin (rC i2 b2))
end
noncomputable def wdL:List PV:=[.str "lighter",.str "darker",.str "duller",.str "turned",.str "opposite"]
theorem aMX {r:Int} (h0:0≤r) (h5:r < 5):∃ w,atI wdL r=some (.str w)∧w∈eD:=by
  have:r=0∨r=1∨r=2∨r=3∨r=4:=by omega
  rcases this with rfl | rfl | rfl | rfl | rfl
  · exact ⟨_,at0,by simp [eD]⟩
  · exact ⟨_,at1,by simp [eD]⟩
  · exact ⟨_,at2,by simp [eD]⟩
  · exact ⟨_,at3,by simp [eD]⟩
  · exact ⟨_,at4,by simp [eD]⟩
theorem oA.snoc {m:Nat} {ds:List PV} {d:PV} {f:R3→R3} (h:oA m ds) (hd:DbX m d f):oA m (ds ++ [d]):=fun x hx=>by
  rcases List.mem_append.mp hx with z | z
  · exact h x z
  · rw [List.mem_singleton.mp z]; exact ⟨f,hd⟩
theorem QB {x:PV} {G:Gh} {Q:PK1} (h1:x= .non→Q (.bl true) G) (h2:x≠.non→Q (.bl false) G):pIs false x .non G Q:=by
  by_cases e:x= .non
  · exact .inl ⟨e,h1 e⟩
  · exact .inr ⟨e,h2 e⟩
theorem Pn.self {p:Addr} {G:Gh} (h:Pu p G):Pn p G G:=by
  obtain ⟨x,y,z,e⟩:=h
  refine ⟨x,y,z, ?_⟩
  funext a
  by_cases ea:a=p
  · subst ea; rw [aU,e]
  · rw [cU ea]
theorem Wk.pk {Q:PK1} {x:PV} {p:Addr} {G K:Gh} (h:Pk p G K) (q:∀ G',Pn p G G'→Q x G'):Wk Q x K:=h.end_ q
set_option hygiene false in
local macro_rules | `(tactic| walk_at "rz") => `(tactic| simp only [wpS, wpE, wpL, wpT, wpO, wpI, wpG, eV, aJ, aC, List.length_cons, List.length_nil, List.cons_append, List.nil_append, List.replicate, Nat.reduceAdd, Nat.reduceSub, Nat.zero_add, List.getElem?_cons_zero, List.getElem?_cons_succ, List.set_cons_zero, List.set_cons_succ, bT, Option.some.injEq, exists_eq_left', true_and, and_true, exists_false, ite_self, false_and, and_false, or_false, dI, XW, bK, nC, cM, dH, gE, sJ, bX, fH, aG.1, aG.2.1, aG.2.2.1, at0, at1, List.cons.injEq, PV.int.injEq, PV.bl.injEq, PV.str.injEq, PV.ref.injEq, PV.tup.injEq, and_assoc, exists_and_left, eq_self, Int.reduceToNat, Int.reducePow, List.map, kN, Bool.not_true, Bool.not_false, Bool.and_self, Bool.and_true, Bool.true_and, if_true, if_false, ite_true, ite_false, Bool.false_eq_true, decide_eq_true_eq, decide_true, decide_false, reduceCtorEq, sz1, sz2, sz3, Wk.here, mY, aBn, LB, *])
section
variable {T:Tb}
noncomputable def aGV:CS:=(.ex (.app (.var 3) (.tup (.cons (.var 5) .nil))))
noncomputable def aHQ:CS:=(.ex (.app (.var 3) (.tup (.cons (.var 5) (.cons (.var 6) .nil)))))
noncomputable def dsB:CS:=(.seq (.asg (.gn 5) (.idx (.var 2) (.cal "_law_pick" (.cons (.var 0) (.cons (.int 5) .nil)))))
  (.seq (.asg (.gn 6) (.cal "_law_by" (.cons (.var 0) (.cons (.var 5) .nil))))
  (.iff (.oo (.tsb (.cmp .Eq (.var 5) (.str "opposite"))) (.an (.tsb (.cmp .Is (.var 6) .non)) (.tsb (.cmp .Eq (.cal "_law_pick" (.cons (.var 0) (.cons (.int 2) .nil))) (.int 1))))) aGV aHQ)))
noncomputable def jY:CS:=(.seq (.asg (.gn 2) (.lst false (.cons (.str "lighter") (.cons (.str "darker") (.cons (.str "duller") (.cons (.str "turned") (.cons (.str "opposite") .nil)))))))
  (.seq (.asg (.gn 3) (.lst true .nil))
  (.seq (.fr (.gn 4) (.irg (.cons (.var 1) .nil)) dsB)
  (.ret (.blt .tuple (.cons (.var 3) .nil))))))
noncomputable def JDs (p l:Addr) (n:Int) (G:Gh) (c:Nat) (σ:PSt) (K:Gh):Prop:= ∃ ds a b e,σ=[some (.ref p),some (.int n),some (.lst wdL),some (.ref l),a,b,e]∧K l=some (.lst ds)∧oA 4096 ds∧Pk p G K∧Pu p K∧ds.length + c=n.toNat
theorem aJN (lt:LT T) (k:L8 T) {p l:Addr} {n:Int} {G K:Gh} {c:Nat} {σ:PSt} {D:dF} (n20:n≤20) (gl:G l=none) (lp:l≠p) (j:JDs p l n G (c + 1) σ K) (hR:∀ σ' K',JDs p l n G c σ' K'→D.nx σ' K'):wpS T dsB D σ K:=by
  obtain ⟨ds,a,b,e,rfl,hk,al,pk,pu,hl⟩:=j
  unfold dsB
  have:=lt.pick
  have e1:=k.by_
  have sb:∀ {w:Str} {G:Gh} {Q:PK1},Pu p G→w∈eD→(∀ x G',(w="opposite"∨∃ f,DdM 4096 w x f)→Pn p G G'→Q x G')→T.S "_law_by" [.ref p,.str w] G Q:=fun {w G Q} h hw q=>by rw [e1]; exact ⟨p,w,rfl,h,hw,q⟩
  clear e1
  have hs:=sizeLine_eq
  walk_at "rz"
  refine ⟨by decide,smP (by decide) (by decide),fun r K1 r0 r5 m1=>?_⟩
  obtain ⟨w,ew,hw⟩:=aMX r0 r5
  have okw:=EY hw
  refine ⟨_,ew,sb m1.pu hw fun x K2 hx m2=>?_⟩
  have hk1:K1 l=some (.lst ds):=by rw [m1.ne lp]; exact hk
  have hk2:K2 l=some (.lst ds):=by rw [m2.ne lp]; exact hk1
  have pk2:=(pk.pick m1).pick m2
  have put:∀ {K':Gh} {d:PV} {f:R3→R3} {a b e:Option PV},Pk p G K'→Pu p K'→K' l=some (.lst ds)→DbX 4096 d f→D.nx [some (.ref p),some (.int n),some (.lst wdL),some (.ref l),a,b,e] (gup K' l (.lst (ds ++ [d]))):=fun {K' d f a b e} q1 q2 q3 q4 =>
    hR _ _ ⟨ds ++ [d],a,b,e,rfl,aU,al.snoc q4,q1.set gl lp,(by obtain ⟨x,y,z,ez⟩:=q2; exact ⟨x,y,z,by rw [cU (Ne.symm lp)]; exact ez⟩),by rw [List.length_append,List.length_singleton]; omega⟩
  have a1:∀ {K':Gh} {f:R3→R3} {a:Option PV},Pk p G K'→Pu p K'→K' l=some (.lst ds)→DbX 4096 (.tup [.str w]) f→wpS T aGV D [some (.ref p),some (.int n),some (.lst wdL),some (.ref l),a,some (.str w),some x] K':=fun {K' f a} q1 q2 q3 q4=>by
    unfold aGV
    simp only [wpS,wpE,wpL,List.getElem?_cons_zero,List.getElem?_cons_succ,bT,List.length_cons,List.length_nil]
    exact ⟨⟨ds,fR q3⟩,by decide,l,ds,rfl,q3,by omega,put q1 q2 q3 q4⟩
  have a2:∀ {K':Gh} {f:R3→R3} {a:Option PV},Pk p G K'→Pu p K'→K' l=some (.lst ds)→DbX 4096 (.tup [.str w,x]) f→wpS T aHQ D [some (.ref p),some (.int n),some (.lst wdL),some (.ref l),a,some (.str w),some x] K':=fun {K' f a} q1 q2 q3 q4=>by
    unfold aHQ
    simp only [wpS,wpE,wpL,List.getElem?_cons_zero,List.getElem?_cons_succ,bT,List.length_cons,List.length_nil]
    exact ⟨⟨ds,fR q3⟩,by decide,l,ds,rfl,q3,by omega,put q1 q2 q3 q4⟩
  by_cases ho:w="opposite"
  · subst ho
    walk_at "rz"
    exact a1 pk2 m2.pu hk2 (.inr ⟨rfl,rfl⟩)
  · have ne:(w == ("opposite":Str))=false:=beq_eq_false_iff_ne.mpr ho
    have hd:∃ f,DdM 4096 w x f:=hx.resolve_left ho
    obtain ⟨f,hd⟩:=hd
    have d2:DbX 4096 (.tup [.str w,x]) f:=.inl ⟨w,x,hd,.inl rfl⟩
    walk_at "rz"
    refine QB (fun ex=>?_) (fun ex=>?_)
    · subst ex
      walk_at "rz"
      refine ⟨m2.pu,by decide,smP (by decide) (by decide),fun y K3 y0 y2 m3=>?_⟩
      have hk3:K3 l=some (.lst ds):=by rw [m3.ne lp]; exact hk2
      split
      · exact a1 (pk2.pick m3) m3.pu hk3 (.inl ⟨w,.non,hd,.inr ⟨rfl,rfl⟩⟩)
      · exact a2 (pk2.pick m3) m3.pu hk3 d2
    · walk_at "rz"
      exact a2 pk2 m2.pu hk2 d2
theorem PF (lt:LT T) (k:L8 T):∀ xs G Q,rM xs G Q→wpS T jY (aJ Q) (aC 7 xs) G:=by
  rintro xs G Q ⟨p,n,rfl,hp,n0,n20,hq⟩
  unfold jY
  have:=@zQ
  walk_at "rz"
  refine ⟨by decide,Nat.zero_le _,fun l gl=>⟨by omega,by omega, ?_⟩⟩
  have lp:l≠p:=hp.ne gl
  have len:(uI 0 n.toNat).length=n.toNat:=by unfold uI; rw [List.length_map,List.length_range]
  refine oW (fun r σ K=>JDs p l n G r.length σ K) (fun _ _ _ _=>trivial) ?_ ?_ (uI 0 n.toNat) _ _ ?_
  · rintro x r σ K R j hR
    obtain ⟨ds,a,b,e,rfl,j⟩:=j
    have hx:∀ (x:PV),JDs p l n G (r.length + 1) [some (.ref p),some (.int n),some (.lst wdL),some (.ref l),some x,b,e] K:=fun x=>⟨ds,_,_,_,rfl,j⟩
    walk_at "rz"
    exact aJN lt k n20 gl lp (hx _) hR
  · rintro σ K ⟨ds,a,b,e,rfl,hk,al,pk,pu,hl⟩
    walk_at "rz"
    rw [EN hk]
    exact Wk.pk pk fun G' g=>hq ds G' (by simp only [List.length_nil] at hl; omega) al g
  · exact ⟨[],_,_,_,rfl,aU,(fun d hd=>by cases hd),(Pk.of (Pn.self hp)).new gl,hp.new gl,by rw [len]; simp⟩
noncomputable def dnB:CS:=(.asg (.gn 0) (.cal "_law_deed" (.cons (.var 0) (.cons (.idx (.var 2) (.int 0)) (.cons (.idx (.bin .Add (.var 2) (.tup (.cons .non .nil))) (.int 1)) .nil)))))
noncomputable def lO:CS:=(.seq (.fr (.gn 2) (.isq (.var 1)) dnB)
  (.ret (.var 0)))
theorem DbX.wx {m:Nat} {d:PV} {f:R3→R3} (h:DbX m d f):∃ w x,Dd w x f∧(d= .tup [.str w,x]∨(x= .non∧d= .tup [.str w])):=by
  rcases h with ⟨w,x,a,b⟩ | ⟨a,b⟩
  · exact ⟨w,x,a.d,b⟩
  · exact ⟨"opposite",.non,.inr (.inr (.inr (.inr ⟨rfl,none,rfl,b⟩))),.inr ⟨rfl,a⟩⟩
theorem aJq (k:L8 T) {r:R3} {d:PV} {f:R3→R3} {m:Nat} {x1:Option PV} {D:dF} {G:Gh} (s:Sh7 110 r) (h:DbX m d f) (hR:D.nx [some (rV (f r)),x1,some d] G):wpS T dnB D [some (rV r),x1,some d] G:=by
  unfold dnB
  have e1:=k.deed
  have sd:∀ {w:Str} {x:PV} {G:Gh} {Q:PK1},Dd w x f→Q (rV (f r)) G→T.S "_law_deed" [rV r,.str w,x] G Q:=fun {w x G Q} h q=>by rw [e1]; exact ⟨r,w,x,f,rfl,s,h,q⟩
  clear e1
  obtain ⟨w,x,dd,hd⟩:=h.wx
  rcases hd with rfl | ⟨rfl,rfl⟩
  · walk_at "rz"
    exact ⟨by simp,by simp⟩
  · walk_at "rz"
    exact ⟨by simp,by simp⟩
theorem aAG (k:L8 T):∀ xs G Q,pS xs G Q→wpS T lO (aJ Q) (aC 3 xs) G:=by
  rintro xs G Q ⟨m,B,ds,r,r',rfl,⟨m2,m4,h20,lm,cd,hB⟩,hq⟩
  unfold lO
  walk_at "rz"
  refine oW (fun l σ G'=>G'=G∧∃ r0 u B0,σ=[some (rV r0),some (.tup ds),u]∧iJ m l r0 r'∧CD B0 r0∧B0 * (3 * m) ^ l.length < 2 ^ 110) (fun _ _ _ _=>trivial) ?_ ?_ ds _ _ ⟨rfl,r,none,B,rfl,lm,cd,hB⟩
  · rintro d l σ G' R ⟨rfl,r0,u,B0,rfl,⟨f,a,t⟩,c,hb⟩ hR
    rw [List.length_cons,Nat.pow_succ,Nat.mul_comm ((3 * m) ^ l.length),←Nat.mul_assoc] at hb
    have p1:1≤(3 * m) ^ l.length:=Nat.one_le_pow _ _ (by omega)
    have hB2:B0 * (3 * m) * 1≤B0 * (3 * m) * (3 * m) ^ l.length:=Nat.mul_le_mul_left _ p1
    have big:B0 * 1≤B0 * (3 * m):=Nat.mul_le_mul_left _ (by omega)
    have hR':=fun u=>hR [some (rV (f r0)),some (.tup ds),u] G' ⟨rfl,f r0,_,_,rfl,t,VF m2 a c,hb⟩
    clear hR
    walk_at "rz"
    exact aJq k (c.sh (n:=110) (by omega)) a (hR' _)
  · rintro σ G' ⟨rfl,r0,u,B0,rfl,hl,_⟩
    have hl:r'=r0:=hl
    subst hl
    walk_at "rz"
end
noncomputable def tt3:Rat:=⟨2,3,by decide,by decide⟩
theorem aJa:PV.tup [.int 2,.int 3]=FQ tt3:=rfl
theorem pm3 {q:Rat} (h:q=hlf∨q=0∨q=1∨q=tt3):PM 3 (some q):=fun p e=>by
  cases e
  rcases h with rfl | rfl | rfl | rfl
  · exact ⟨rT,kO,by decide⟩
  · exact ⟨yY,bd0.mono (by decide),by decide⟩
  · exact ⟨aDn,bd1.mono (by decide),by decide⟩
  · exact ⟨⟨by decide,by decide⟩,⟨by unfold Sm; decide,by unfold Sm; decide⟩,by decide⟩
theorem aId {r:Int} (h0:0≤r) (h4:r < 4):∃ q,atI [FQ hlf,FQ 0,FQ 1,FQ tt3] r=some (FQ q)∧PM 3 (some q):=by
  have:r=0∨r=1∨r=2∨r=3:=by omega
  rcases this with rfl | rfl | rfl | rfl
  · exact ⟨_,at0,pm3 (.inl rfl)⟩
  · exact ⟨_,at1,pm3 (.inr (.inl rfl))⟩
  · exact ⟨_,at2,pm3 (.inr (.inr (.inl rfl)))⟩
  · exact ⟨_,at3,pm3 (.inr (.inr (.inr rfl)))⟩
theorem ZM {w:Str} {o:Option Rat} {q:Rat} {f:R3→R3} (h:DdM 4096 w (tV (some q)) f) (ho:PM 3 o):∃ f',DbX 3 (.tup [.str w,tV o]) f':=by
  rcases h with ⟨rfl,_⟩ | ⟨rfl,_⟩ | ⟨rfl,_⟩ | ⟨rfl,o',e,_⟩
  · exact ⟨_,.inl ⟨_,_,.inl ⟨rfl,o,rfl,ho,rfl⟩,.inl rfl⟩⟩
  · exact ⟨_,.inl ⟨_,_,.inr (.inl ⟨rfl,o,rfl,ho,rfl⟩),.inl rfl⟩⟩
  · exact ⟨_,.inl ⟨_,_,.inr (.inr (.inl ⟨rfl,o,rfl,ho,rfl⟩)),.inl rfl⟩⟩
  · cases o' <;> cases e
theorem aAE {d:PV} {f:R3→R3} (h:DbX 4096 d f):(∃ w q f',d= .tup [.str w,FQ q]∧DdM 4096 w (tV (some q)) f')∨((∃ f',DbX 3 d f')∧((∃ w x,d= .tup [.str w,x]∧(x= .non∨∃ n,x= .int n))∨∃ w,d= .tup [.str w])):=by
  have pn:PM 3 none:=NT
  rcases h with ⟨w,x,dd,hd⟩ | ⟨rfl,rfl⟩
  · rcases hd with rfl | ⟨rfl,rfl⟩
    · have dd':=dd
      rcases dd with ⟨rfl,o,rfl,p,rfl⟩ | ⟨rfl,o,rfl,p,rfl⟩ | ⟨rfl,o,rfl,p,rfl⟩ | ⟨rfl,o,rfl,p,rfl⟩
      · cases o with
        | none=>exact .inr ⟨⟨_,.inl ⟨_,_,.inl ⟨rfl,none,rfl,pn,rfl⟩,.inl rfl⟩⟩,.inl ⟨_,_,rfl,.inl rfl⟩⟩
        | some q=>exact .inl ⟨_,q,_,rfl,dd'⟩
      · cases o with
        | none=>exact .inr ⟨⟨_,.inl ⟨_,_,.inr (.inl ⟨rfl,none,rfl,pn,rfl⟩),.inl rfl⟩⟩,.inl ⟨_,_,rfl,.inl rfl⟩⟩
        | some q=>exact .inl ⟨_,q,_,rfl,dd'⟩
      · cases o with
        | none=>exact .inr ⟨⟨_,.inl ⟨_,_,.inr (.inr (.inl ⟨rfl,none,rfl,pn,rfl⟩)),.inl rfl⟩⟩,.inl ⟨_,_,rfl,.inl rfl⟩⟩
        | some q=>exact .inl ⟨_,q,_,rfl,dd'⟩
      · refine .inr ⟨⟨_,.inl ⟨_,_,.inr (.inr (.inr ⟨rfl,o,rfl,p,rfl⟩)),.inl rfl⟩⟩,.inl ⟨_,_,rfl, ?_⟩⟩
        cases o with
        | none=>exact .inl rfl
        | some n=>exact .inr ⟨n,rfl⟩
    · refine .inr ⟨?_,.inr ⟨_,rfl⟩⟩
      rcases dd with ⟨rfl,o,e,p,rfl⟩ | ⟨rfl,o,e,p,rfl⟩ | ⟨rfl,o,e,p,rfl⟩ | ⟨rfl,o,e,p,rfl⟩
      · exact ⟨_,.inl ⟨_,_,.inl ⟨rfl,none,rfl,pn,rfl⟩,.inr ⟨rfl,rfl⟩⟩⟩
      · exact ⟨_,.inl ⟨_,_,.inr (.inl ⟨rfl,none,rfl,pn,rfl⟩),.inr ⟨rfl,rfl⟩⟩⟩
      · exact ⟨_,.inl ⟨_,_,.inr (.inr (.inl ⟨rfl,none,rfl,pn,rfl⟩)),.inr ⟨rfl,rfl⟩⟩⟩
      · exact ⟨_,.inl ⟨_,_,.inr (.inr (.inr ⟨rfl,none,rfl,(fun _ e=>nomatch e),rfl⟩)),.inr ⟨rfl,rfl⟩⟩⟩
  · exact .inr ⟨⟨_,.inr ⟨rfl,rfl⟩⟩,.inr ⟨_,rfl⟩⟩
theorem JZ {ds:List PV}:yU ds=(ds.zipIdx.map fun p=>PV.tup [.int (p.2:Int),p.1]):=rfl
set_option hygiene false in
local macro_rules | `(tactic| walk_at "rz") => `(tactic| simp only [wpS, wpE, wpL, wpT, wpO, wpI, wpG, eV, aJ, aC, List.length_cons, List.length_nil, List.cons_append, List.nil_append, List.replicate, Nat.reduceAdd, Nat.reduceSub, Nat.zero_add, List.getElem?_cons_zero, List.getElem?_cons_succ, List.set_cons_zero, List.set_cons_succ, bT, Option.some.injEq, exists_eq_left', true_and, ite_self, fZ, dI, iI, hW, bK, cM, bL, dH, gE, lY, xD, FX, mO, sJ, bX, aG.1, aG.2.1, aG.2.2.1, CY, aHm, aFl, at0, at1, NQ, NB, List.cons.injEq, PV.int.injEq, PV.bl.injEq, PV.str.injEq, PV.ref.injEq, PV.tup.injEq, and_assoc, exists_and_left, eq_self, KG, KF, Int.reduceToNat, Int.reducePow, List.map, Bool.not_true, Bool.not_false, Bool.and_self, Bool.and_true, Bool.true_and, if_true, if_false, ite_true, ite_false, Bool.false_eq_true, decide_eq_true_eq, decide_true, decide_false, reduceCtorEq, NM, UV, aEU, aJa, FX, xD, KF, *])
section
variable {T:Tb}
noncomputable def shA:CS:=(.ex (.app (.var 1) (.var 3)))
noncomputable def shB:CS:=(.seq (.iff (.an (.tsb (.cmp .Eq (.blt .len (.cons (.var 3) .nil)) (.int 2))) (.tst (.blt .isi (.cons (.idx (.var 3) (.int 1)) (.cons (.glo "tuple") .nil))))) (.asg (.gn 3) (.tup (.cons (.idx (.var 3) (.int 0)) (.cons (.idx (.lst false (.cons (.tup (.cons (.int 1) (.cons (.int 2) .nil))) (.cons (.tup (.cons (.int 0) (.cons (.int 1) .nil))) (.cons (.tup (.cons (.int 1) (.cons (.int 1) .nil))) (.cons (.tup (.cons (.int 2) (.cons (.int 3) .nil))) .nil))))) (.bin .Mod (.bin .Add (.var 2) (.idx (.idx (.var 3) (.int 1)) (.int 0))) (.int 4))) .nil)))) .nil) shA)
noncomputable def kY:CS:=(.seq (.asg (.gn 1) (.lst true .nil))
  (.seq (.fr (.gt 2 (.cons (.gn 2) (.cons (.gn 3) .nil))) (.ien (.var 0)) shB)
  (.ret (.blt .tuple (.cons (.var 1) .nil)))))
theorem aI0 (h:PT T) {l:Addr} {i:Int} {d:PV} {f:R3→R3} {es:List PV} {x0:Option PV} {K:Gh} {D:dF} (hd:DbX 4096 d f) (hk:K l=some (.lst es)) (hz:es.length≤20)
    (hR:∀ d' f' σ,DbX 3 d' f'→(∃ a b,σ=[x0,some (.ref l),a,b])→D.nx σ (gup K l (.lst (es ++ [d'])))):wpS T shB D [x0,some (.ref l),some (.int i),some d] K:=by
  unfold shB
  have:=h.ty_tuple
  have hs:=sizeLine_eq
  have put:∀ {d':PV} {f':R3→R3} {a:Option PV},DbX 3 d' f'→wpS T shA D [x0,some (.ref l),a,some d'] K:=fun {d' f' a} q=>by
    unfold shA
    simp only [wpS,wpE,List.getElem?_cons_zero,List.getElem?_cons_succ,bT]
    exact ⟨⟨es,fR hk⟩,l,es,rfl,hk,by omega,hR _ _ _ q ⟨_,_,rfl⟩⟩
  rcases aAE hd with ⟨w,q,f',rfl,dd⟩ | ⟨⟨f',d3⟩,hw⟩
  · have c4:zJ (i + q.num) 4:=by show (0:Int) < 4; decide
    walk_at "rz"
    obtain ⟨q',eq,pm⟩:=aId (Int.emod_nonneg (i + q.num) (by decide)) (Int.emod_lt_of_pos (i + q.num) (by decide))
    refine ⟨by decide,by decide,by decide,by decide,by decide,_,eq,by decide, ?_⟩
    obtain ⟨f2,s2⟩:=ZM dd pm
    exact put s2
  · rcases hw with ⟨w,x,rfl,hx⟩ | ⟨w,rfl⟩
    · rcases hx with rfl | ⟨n,rfl⟩
      · walk_at "rz"
        exact put d3
      · walk_at "rz"
        exact put d3
    · walk_at "rz"
      exact put d3
theorem QQ (h:PT T):∀ xs G Q,rW xs G Q→wpS T kY (aJ Q) (aC 4 xs) G:=by
  rintro xs G Q ⟨ds,rfl,h20,al,hq⟩
  unfold kY
  walk_at "rz"
  refine ⟨Nat.zero_le _,fun l gl=>?_⟩
  rw [JZ]
  refine sQ (fun p:PV×Nat=>PV.tup [.int (p.2:Int),p.1]) (fun r σ K=>∃ es a b,σ=[some (.tup ds),some (.ref l),a,b]∧K=gup G l (.lst es)∧oA 3 es∧es.length + r.length=ds.length∧∀ p∈r,p.1∈ds) (fun _ _ _ _=>trivial) ?_ ?_ ds.zipIdx _ _ ⟨[],_,_,rfl,rfl,(fun d hd=>by cases hd),by simp,fun p hp=>?_⟩
  · rintro ⟨d,i⟩ r σ K R ⟨es,a,b,rfl,rfl,ae,hl,hm⟩ hR
    obtain ⟨f,hd⟩:=al d (hm _ (List.mem_cons_self ..))
    rw [List.length_cons] at hl
    walk_at "rz"
    refine aI0 h hd aU (by omega) ?_
    rintro d' f' σ d3 ⟨a,b,rfl⟩
    exact hR _ _ ⟨es ++ [d'],a,b,rfl,by rw [mW],ae.snoc d3,by rw [List.length_append,List.length_singleton]; omega,fun p hp=>hm p (List.mem_cons_of_mem _ hp)⟩
  · rintro σ K ⟨es,a,b,rfl,rfl,ae,hl,_⟩
    walk_at "rz"
    exact Wk.of (hq es (by simpa using hl) ae) fun a o z=>by rw [cU (fun e=>by subst e; rw [gl] at z; cases z)]; exact z
  · have:=List.mem_zipIdx' hp
    rw [this.2]
    exact List.getElem_mem _
end
noncomputable def Shw (n L:Nat) (x:PV):Prop:= ∃ d,dat x=some d∧d.showable=true∧d.depth≤n∧d.shown.length≤L∧PyData.strOk d.shown=true
theorem Shw.mono {n n' L L':Nat} {x:PV} (h:Shw n L x) (a:n≤n') (b:L≤L'):Shw n' L' x:=let ⟨d,h1,h2,h3,h4,h5⟩:=h; ⟨d,h1,h2,by omega,by omega,h5⟩
theorem NC:Shw 0 4 .non:=⟨.none,rfl,rfl,by simp [PyData.depth],by decide,eK "None"⟩
theorem CL {i:Int} (h:i.natAbs < 10 ^ 64):Shw 0 65 (.int i):=by
  refine ⟨.int i,rfl, ?_,by simp [PyData.depth], ?_,eK _⟩
  · show decide (i.natAbs.log2 < 1920)=true
    refine decide_eq_true ?_
    by_cases e:i.natAbs=0
    · rw [e]; decide
    · exact Nat.lt_of_lt_of_le ((Nat.log2_lt e).mpr (Nat.lt_trans h (show 10 ^ 64 < 2 ^ 213 by decide))) (by decide)
  · exact lN h
theorem aKQ:reprText ("lighter":Str)=Str.ofString "'lighter'":=by decide +kernel
theorem aKd:reprText ("darker":Str)=Str.ofString "'darker'":=by decide +kernel
theorem aKx:reprText ("duller":Str)=Str.ofString "'duller'":=by decide +kernel
theorem aKP:reprText ("turned":Str)=Str.ofString "'turned'":=by decide +kernel
theorem aIw:reprText ("opposite":Str)=Str.ofString "'opposite'":=by decide +kernel
theorem xN {w:Str} {t:String} (e:reprText w=Str.ofString t) (hl:(Str.ofString t).length≤10):Shw 0 65 (.str w):=by
  refine ⟨.str w,rfl,rfl,by simp [PyData.depth], ?_, ?_⟩
  · show (reprText w).length≤65
    rw [e]; omega
  · show PyData.strOk (reprText w)=true
    rw [e]; exact eK t
theorem aEa {w:Str} (h:w∈eD):Shw 0 65 (.str w):=by
  rcases tU h with rfl | rfl | rfl | rfl | rfl
  · exact xN aKQ (by decide)
  · exact xN aKd (by decide)
  · exact xN aKx (by decide)
  · exact xN aKP (by decide)
  · exact xN aIw (by decide)
theorem KH {L:Nat} {sep:Str} (hs:sep.length≤2) (so:PyData.strOk sep=true):∀ {ts:List Str},(∀ t∈ts,t.length≤L∧PyData.strOk t=true)→(Str.join sep ts).length≤ts.length * (L + 2)∧PyData.strOk (Str.join sep ts)=true
  | [],_=>⟨by show 0≤_; omega,by show PyData.strOk Str.empty=true; simp [PyData.strOk,Str.empty]⟩
  | [x],h=>by
    obtain ⟨a,b⟩:=h x (List.mem_cons_self ..)
    exact ⟨by show x.length≤1 * (L + 2); omega,b⟩
  | x :: y :: r,h=>by
    obtain ⟨a,b⟩:=h x (List.mem_cons_self ..)
    obtain ⟨c,d⟩:=KH hs so (ts:=y :: r) fun t ht=>h t (List.mem_cons_of_mem _ ht)
    refine ⟨?_,gF (gF b so) d⟩
    show (x ++ sep ++ Str.join sep (y :: r)).length≤_
    rw [bC,bC]
    simp only [List.length_cons] at c ⊢
    have e:(r.length + 1 + 1) * (L + 2)=(r.length + 1) * (L + 2) + (L + 2):=by rw [Nat.add_mul _ 1]; omega
    omega
theorem GZ {n L:Nat}:∀ {xs:List PV},(∀ x∈xs,Shw n L x)→∃ ds,lX xs=some ds∧PyData.showableAll ds=true∧PyData.depthAll ds≤n∧(PyData.shownAll ds).length=xs.length∧∀ t∈PyData.shownAll ds,t.length≤L∧PyData.strOk t=true
  | [],_=>⟨[],rfl,rfl,by simp [PyData.depthAll],rfl,fun t h=>by cases h⟩
  | x :: xs,h=>by
    obtain ⟨d,e,h1,h2,h3,h4⟩:=h x (List.mem_cons_self ..)
    obtain ⟨ds,e',g1,g2,g3,g4⟩:=GZ (xs:=xs) fun y hy=>h y (List.mem_cons_of_mem _ hy)
    refine ⟨d :: ds,by unfold lX; rw [e,e'],by unfold PyData.showableAll; rw [h1,g1]; rfl, ?_,by unfold PyData.shownAll; rw [List.length_cons,List.length_cons,g3], ?_⟩
    · unfold PyData.depthAll; omega
    · unfold PyData.shownAll
      intro t ht
      rcases List.mem_cons.mp ht with rfl | ht
      · exact ⟨h3,h4⟩
      · exact g4 t ht
theorem vR {n L:Nat} {xs:List PV} (h:∀ x∈xs,Shw n L x):Shw (n + 1) (xs.length * (L + 2) + 3) (.tup xs):=by
  obtain ⟨ds,e,h1,h2,h3,h4⟩:=GZ h
  refine ⟨.tuple ds,by unfold dat; rw [e],h1,by unfold PyData.depth; omega, ?_, ?_⟩
  · show (tupleText (PyData.shownAll ds)).length≤_
    unfold tupleText
    obtain ⟨a,_⟩:=KH (sep:=(", ":String)) (by decide) (eK _) h4
    rw [h3] at a
    rw [bC,bC]
    have e1:("(":Str).length=1:=rfl
    have e2:(Str.ofString (if ((PyData.shownAll ds).length == 1)=true then ",)" else ")")).length≤2:=by split <;> decide
    rw [e1]
    omega
  · show PyData.strOk (tupleText (PyData.shownAll ds))=true
    unfold tupleText
    exact gF (gF (eK _) (KH (sep:=(", ":String)) (by decide) (eK _) h4).2) (eK _)
theorem aFI {q:Rat} (h:Bd 12 q):Shw 1 140 (FQ q):=by
  have h1:q.num.natAbs < 10 ^ 64:=Nat.lt_trans h.1 (by decide)
  have h2:((q.den:Int)).natAbs < 10 ^ 64:=Nat.lt_trans h.2 (by decide)
  refine (vR (n:=0) (L:=65) (xs:=[.int q.num,.int (q.den:Int)]) fun x hx=>?_).mono (Nat.le_refl _) (show 2 * (65 + 2) + 3≤140 by decide)
  simp only [List.mem_cons,List.not_mem_nil,or_false] at hx
  rcases hx with rfl | rfl
  · exact CL h1
  · exact CL h2
theorem aKm {m:Nat} {d:PV} {f:R3→R3} (h:DbX m d f):Shw 2 300 d:=by
  have two:∀ {w:Str} {x:PV},w∈eD→Shw 1 140 x→Shw 2 300 (.tup [.str w,x]):=fun {w x} hw hx=>by
    refine (vR (n:=1) (L:=140) (xs:=[.str w,x]) fun y hy=>?_).mono (Nat.le_refl _) (show 2 * (140 + 2) + 3≤300 by decide)
    simp only [List.mem_cons,List.not_mem_nil,or_false] at hy
    rcases hy with rfl | rfl
    · exact (aEa hw).mono (by decide) (by decide)
    · exact hx
  have one:∀ {w:Str},w∈eD→Shw 2 300 (.tup [.str w]):=fun {w} hw=>by
    refine (vR (n:=1) (L:=140) (xs:=[.str w]) fun y hy=>?_).mono (Nat.le_refl _) (show 1 * (140 + 2) + 3≤300 by decide)
    rw [List.mem_singleton.mp hy]
    exact (aEa hw).mono (by decide) (by decide)
  have tv:∀ {o:Option Rat},PM m o→Shw 1 140 (tV o):=fun {o} h=>by
    cases o with
    | none=>exact NC.mono (by decide) (by decide)
    | some p=>exact aFI (h p rfl).2.1
  rcases h with ⟨w,x,dd,hd⟩ | ⟨rfl,rfl⟩
  · have key:w∈eD∧Shw 1 140 x:=by
      rcases dd with ⟨rfl,o,rfl,p,rfl⟩ | ⟨rfl,o,rfl,p,rfl⟩ | ⟨rfl,o,rfl,p,rfl⟩ | ⟨rfl,o,rfl,p,rfl⟩
      · exact ⟨by simp [eD],tv p⟩
      · exact ⟨by simp [eD],tv p⟩
      · exact ⟨by simp [eD],tv p⟩
      · refine ⟨by simp [eD], ?_⟩
        cases o with
        | none=>exact NC.mono (by decide) (by decide)
        | some n=>exact (CL (Nat.lt_trans (p n rfl) (by decide))).mono (by decide) (by decide)
    rcases hd with rfl | ⟨rfl,rfl⟩
    · exact two key.1 key.2
    · exact one key.1
  · exact one (by simp [eD])
theorem aBx {m:Nat} {ds:List PV} (h:oA m ds) (h20:ds.length≤20):Shw 3 6100 (.tup ds):=by
  refine (vR (n:=2) (L:=300) fun x hx=>?_).mono (Nat.le_refl _) (by omega)
  obtain ⟨f,d⟩:=h x hx
  exact aKm d
theorem GE {n d:Nat} {i:Nat} (h:i≤n):HT.sIx n d (some (i:Int))=i:=by
  unfold HT.sIx
  first
    | (simp only []; split <;> omega)
    | (dsimp only; split <;> omega)
    | (show (min _ _:Nat)=i; omega)
    | (simp; omega)
theorem aIb {ds:List PV} {i:Nat} (h:i≤ds.length):pO ds none (some (i:Int))=ds.take i:=by
  unfold pO
  rw [GE h]
  show (ds.drop 0).take (i - 0)=_
  rw [List.drop_zero,Nat.sub_zero]
theorem aHP {ds:List PV} {i:Nat} (h:i≤ds.length):pO ds (some (i:Int)) none=ds.drop i:=by
  unfold pO
  rw [GE h]
  show (ds.drop i).take (ds.length - i)=_
  rw [List.take_of_length_le (by rw [List.length_drop]; exact Nat.le_refl _)]
section
variable {T:Tb}
theorem DT {B m a b:Nat} (hm:2≤m) (h:a≤b):B * (3 * m) ^ a≤B * (3 * m) ^ b:=Nat.mul_le_mul_left _ (Nat.pow_le_pow_right (by omega) h)
theorem ZD (k:L8 T) {m B:Nat} {ds:List PV} {r r':R3} {G:Gh} {Q:PK1} (h:pB m B ds r r') (q:Q (shV r') G):T.S "done" [shV r,.tup ds] G Q:=by
  obtain ⟨m2,m4,h20,lm,cd,hB⟩:=h
  rw [k.done]
  exact ⟨r,r',ds,rfl,h20,lm.s m2 cd hB,q⟩
theorem pB.lo {m B n:Nat} {ds:List PV} {r r':R3} (h:pB m B ds r r'):∃ r1,pB m B (ds.take n) r r1∧pB m (B * (3 * m) ^ (ds.take n).length) (ds.drop n) r1 r':=by
  obtain ⟨m2,m4,h20,lm,cd,hB⟩:=h
  have l1:(ds.take n).length≤ds.length:=by rw [List.length_take]; omega
  have l2:(ds.take n).length + (ds.drop n).length=ds.length:=by rw [←List.length_append,List.take_append_drop]
  rw [←List.take_append_drop n ds] at lm
  obtain ⟨r1,a,b⟩:=iJ.split lm
  refine ⟨r1,⟨m2,m4,by omega,a,cd,Nat.lt_of_le_of_lt (DT m2 l1) hB⟩,⟨m2,m4,by omega,b,a.cd m2 cd, ?_⟩⟩
  rw [Nat.mul_assoc,←Nat.pow_add,l2]; exact hB
theorem pB.sh {m B:Nat} {ds:List PV} {r r':R3} (h:pB m B ds r r'):Sh7 200 r∧Sh7 200 r':=by
  obtain ⟨m2,m4,h20,lm,cd,hB⟩:=h
  have e:(2:Nat) ^ 110 < 2 ^ 200:=by decide
  have p1:B * (3 * m) ^ 0≤B * (3 * m) ^ ds.length:=DT m2 (Nat.zero_le _)
  rw [Nat.pow_zero,Nat.mul_one] at p1
  exact ⟨cd.sh (by omega),(lm.cd m2 cd).sh (by omega)⟩
theorem aJS (k:L8 T) {r:R3} {G:Gh} {Q:PK1} (s:Sh7 200 r) (q:Q (.bl true) G):T.S "_law_is" [shV r,rV r] G Q:=by
  rw [k.is_]; exact ⟨r,rfl,s,q⟩
theorem GP {xs:List PV} {lo hi:Option Int} {G:Gh} {Q:PK1}:VY (.tup xs) lo hi G Q=Q (.tup (pO xs lo hi)) G:=rfl
theorem YV {xs:List PV} {n L:Nat} {d:PyData} {G:Gh} {Q:PK1} (e:dat (.tup xs)=some d) (h1:d.showable=true) (h2:d.depth≤n) (h3:d.shown.length≤L) (hn:n≤64) (hL:L≤10000) (q:Q (.str d.shown) G):aHh (.tup xs) G Q :=
  ⟨xs,d,rfl,e,h1,by omega,by rw [sizeLine_eq]; omega,q⟩
noncomputable def rgA:CS:=(.ret (.an (.cal "_law_is" (.cons (.var 0) (.cons (.var 1) .nil))) (.cmp .Eq (.rpr (.var 2)) (.var 5))))
noncomputable def rgB:CS:=(.iff (.no (.tst (.cal "_law_is" (.cons (.var 7) (.cons (.var 4) .nil))))) (.ret (.bl false)) .nil)
noncomputable def rgF:CS:=(.seq (.fr (.gn 7) (.isq (.bin .Add (.var 6) (.lst false (.cons (.cal "done" (.cons (.var 0) (.cons (.var 2) .nil))) .nil)))) rgB) rgA)
noncomputable def rgL:CS:=(.seq (.asg (.gn 6) (.lst false (.cons (.cal "done" (.cons (.var 0) (.cons (.var 2) .nil))) (.cons (.cak "done" .nil (.cons (.var 2) (.cons (.var 0) .nil)) [.arg 1,.arg 0]) (.cons (.cal "done" (.cons (.cal "done" (.cons (.var 0) (.cons (.sli (.var 2) .nil (.tst (.var 3))) .nil))) (.cons (.sli (.var 2) (.tst (.var 3)) .nil) .nil))) .nil))))) rgF)
noncomputable def gI:CS:=(.seq (.asg (.gn 4) (.cal "_law_done" (.cons (.var 1) (.cons (.var 2) .nil)))) (.seq (.asg (.gn 5) (.rpr (.var 2))) rgL))
theorem aJ5 (k:L8 T) {r:R3} {ds:List PV} {d:PyData} {x3 x4 x6 x7:Option PV} {G:Gh} {Q:PK1} (s:Sh7 200 r) (e:dat (.tup ds)=some d) (h1:d.showable=true) (h2:d.depth≤3) (h3:d.shown.length≤6100) (h4:PyData.strOk d.shown=true) (hq:Q (.bl true) G) :
    wpS T rgA (aJ Q) [some (shV r),some (rV r),some (.tup ds),x3,x4,some (.str d.shown),x6,x7] G:=by
  unfold rgA
  simp only [wpS,wpE,wpL,List.getElem?_cons_zero,List.getElem?_cons_succ,bT,cX]
  refine aJS k s ?_
  simp only [bL,if_true,Bool.not_true,Bool.false_eq_true,if_false]
  refine YV e h1 h2 h3 (by decide) (by decide) ?_
  rw [bK,mY]
  refine ⟨h4,h4, ?_⟩
  rw [LB]
  exact Wk.here hq
theorem aIH (k:L8 T) {r':R3} {x0 x1 x2 x3 x5 x6:Option PV} {D:dF} {G:Gh} (s:Sh7 200 r') (hR:D.nx [x0,x1,x2,x3,some (rV r'),x5,x6,some (shV r')] G) :
    wpS T rgB D [x0,x1,x2,x3,some (rV r'),x5,x6,some (shV r')] G:=by
  unfold rgB
  simp only [wpS,wpE,wpT,wpL,List.getElem?_cons_zero,List.getElem?_cons_succ,bT,cX]
  refine aJS k s ?_
  simp only [bL,Bool.not_true,Bool.false_eq_true,if_false]
  exact hR
theorem aKq (k:L8 T) {m B:Nat} {r r':R3} {ds:List PV} {d:PyData} {x3 x7:Option PV} {G:Gh} {Q:PK1} (h:pB m B ds r r') (e:dat (.tup ds)=some d) (h1:d.showable=true) (h2:d.depth≤3) (h3:d.shown.length≤6100) (h4:PyData.strOk d.shown=true) (hq:Q (.bl true) G) :
    wpS T rgF (aJ Q) [some (shV r),some (rV r),some (.tup ds),x3,some (rV r'),some (.str d.shown),some (.lst [shV r',shV r',shV r']),x7] G:=by
  unfold rgF
  simp only [wpS,wpE,wpI,wpL,List.getElem?_cons_zero,List.getElem?_cons_succ,bT,cX]
  refine ZD k h ⟨show 1≤sizeLine by decide, ?_⟩
  rw [bX,dI,GN]
  refine ⟨show 3 + 1≤sizeLine by decide, ?_⟩
  rw [FU]
  refine sQ (fun _:Unit=>shV r') (fun _ σ K=>K=G∧∃ u,σ=[some (shV r),some (rV r),some (.tup ds),x3,some (rV r'),some (.str d.shown),some (.lst [shV r',shV r',shV r']),u]) (fun _ _ _ _=>trivial) ?_ ?_ [(),(),(),()] _ _ ⟨rfl,_,rfl⟩
  · rintro _ _ σ K R ⟨rfl,u,rfl⟩ hR
    have hR':=fun u=>hR [some (shV r),some (rV r),some (.tup ds),x3,some (rV r'),some (.str d.shown),some (.lst [shV r',shV r',shV r']),u] K ⟨rfl,u,rfl⟩
    simp only [wpG,List.set_cons_zero,List.set_cons_succ]
    exact aIH k h.sh.2 (hR' _)
  · rintro σ K ⟨rfl,u,rfl⟩
    exact aJ5 k h.sh.1 e h1 h2 h3 h4 hq
theorem aIU (k:L8 T) {m B n:Nat} {r r':R3} {ds:List PV} {d:PyData} {x6 x7:Option PV} {G:Gh} {Q:PK1} (h:pB m B ds r r') (hn:n≤ds.length) (e:dat (.tup ds)=some d) (h1:d.showable=true) (h2:d.depth≤3) (h3:d.shown.length≤6100) (h4:PyData.strOk d.shown=true) (hq:Q (.bl true) G) :
    wpS T rgL (aJ Q) [some (shV r),some (rV r),some (.tup ds),some (.int (n:Int)),some (rV r'),some (.str d.shown),x6,x7] G:=by
  unfold rgL
  obtain ⟨r1,a1,a2⟩:=h.lo (n:=n)
  simp only [wpS,wpE,wpO,wpL,wpG,List.getElem?_cons_zero,List.getElem?_cons_succ,bT,cX,List.nil_append,List.map_cons,List.map_nil]
  refine ZD k h (ZD k h ⟨_,rfl, ?_⟩)
  rw [GP,aIb hn]
  refine ZD k a1 ⟨_,rfl, ?_⟩
  rw [GP,aHP hn]
  refine ZD k a2 ⟨show 3≤sizeLine by decide, ?_⟩
  rw [bX]
  simp only [List.set_cons_zero,List.set_cons_succ]
  exact aKq k h e h1 h2 h3 h4 hq
theorem DN (k:L8 T):∀ xs G Q,pM xs G Q→wpS T gI (aJ Q) (aC 8 xs) G:=by
  rintro xs G Q ⟨m,B,ds,r,r',i,rfl,h,i0,i1,hq⟩
  obtain ⟨n,rfl⟩:=Int.eq_ofNat_of_zero_le i0
  have hn:n≤ds.length:=by omega
  obtain ⟨d,e,h1,h2,h3,h4⟩:=aBx h.2.2.2.1.all h.2.2.1
  unfold gI
  simp only [aC,List.map_cons,List.map_nil,List.length_cons,List.length_nil,List.cons_append,List.nil_append,Nat.reduceAdd,Nat.reduceSub,List.replicate,wpS,wpE,wpL,wpG,List.getElem?_cons_zero,List.getElem?_cons_succ,bT,cX,k.doneL]
  refine ⟨m,B,ds,r,r',rfl,h, ?_⟩
  simp only [List.set_cons_zero,List.set_cons_succ,List.getElem?_cons_zero,List.getElem?_cons_succ,bT,cX]
  refine YV e h1 h2 h3 (by decide) (by decide) ?_
  exact aIU k h hn e h1 h2 h3 h4 hq
end
set_option hygiene false in
local macro_rules | `(tactic| walk_at "rd") => `(tactic| simp only [wpS, wpE, wpL, wpT, wpO, wpI, wpG, eV, aJ, aC, List.length_cons, List.length_nil, List.cons_append, List.nil_append, List.replicate, Nat.reduceAdd, Nat.reduceSub, Nat.zero_add, List.getElem?_cons_zero, List.getElem?_cons_succ, List.set_cons_zero, List.set_cons_succ, bT, Option.some.injEq, exists_eq_left', true_and, and_true, exists_false, ite_self, false_and, and_false, or_false, bK, cM, bL, wC, xU, FW, pF, bX, aG.1, aG.2.1, aG.2.2.1, List.cons.injEq, PV.int.injEq, PV.bl.injEq, PV.str.injEq, PV.ref.injEq, PV.tup.injEq, and_assoc, exists_and_left, eq_self, Int.reduceToNat, Int.reducePow, eT, dE, sW, uJ, Option.getD_some, List.map, kN, uG, mQ, Bool.not_true, Bool.not_false, Bool.and_self, Bool.and_true, Bool.true_and, if_true, if_false, ite_true, ite_false, Bool.false_eq_true, decide_eq_true_eq, decide_true, decide_false, reduceCtorEq, sz3, Wk.here, *])
set_option hygiene false in
local macro_rules | `(tactic| walk_at "rz") => `(tactic| simp only [wpS, wpE, wpL, wpT, wpO, wpI, wpG, eV, aJ, aC, List.length_cons, List.length_nil, List.cons_append, List.nil_append, List.replicate, Nat.reduceAdd, Nat.reduceSub, Nat.zero_add, List.getElem?_cons_zero, List.getElem?_cons_succ, List.set_cons_zero, List.set_cons_succ, bT, Option.some.injEq, exists_eq_left', true_and, and_true, exists_false, ite_self, false_and, and_false, or_false, bK, cM, bL, wC, xU, FW, pF, bX, aG.1, aG.2.1, aG.2.2.1, List.cons.injEq, PV.int.injEq, PV.bl.injEq, PV.str.injEq, PV.ref.injEq, PV.tup.injEq, and_assoc, exists_and_left, eq_self, Int.reduceToNat, Int.reducePow, sW, uJ, Option.getD_some, List.map, kN, uG, mQ, Bool.not_true, Bool.not_false, Bool.and_self, Bool.and_true, Bool.true_and, if_true, if_false, ite_true, ite_false, Bool.false_eq_true, decide_eq_true_eq, decide_true, decide_false, reduceCtorEq, sz3, Wk.here, *])
theorem aDc {lo:Int} {n:Nat} {x:PV} (h:x∈uI lo n):∃ k:Nat,x= .int (lo + (k:Int))∧k < n:=by
  unfold uI at h
  obtain ⟨k,hk,rfl⟩:=List.mem_map.mp h
  exact ⟨k,rfl,List.mem_range.mp hk⟩
noncomputable def I8 (ns:List Int) (σ:PSt):Prop:= ∃ a b c d e f g h,σ=[some (.scr ns),a,b,c,d,e,f,g,h]
theorem aMc {a b c:Rat} (ia:In1 a) (ib:In1 b) (ic:In1 c) (ba:Bd 12 a) (bb:Bd 12 b) (bc:Bd 12 c):CD (2 ^ 36) (a,b,c):=by
  have pa:=gD (q:=a)
  have pb:=gD (q:=b)
  have pc:=gD (q:=c)
  have la:a.den≤4096:=Nat.le_of_lt (by have:=ba.2; unfold Sm at this; simpa using this)
  have lb:b.den≤4096:=Nat.le_of_lt (by have:=bb.2; unfold Sm at this; simpa using this)
  have lc:c.den≤4096:=Nat.le_of_lt (by have:=bc.2; unfold Sm at this; simpa using this)
  have h1:a.den * b.den≤4096 * 4096:=Nat.mul_le_mul la lb
  have h2:a.den * b.den * c.den≤4096 * 4096 * 4096:=Nat.mul_le_mul h1 lc
  have ea:IsI (a * ((a.den:Int):Rat)):=⟨a.num,pT a⟩
  have eb:IsI (b * ((b.den:Int):Rat)):=⟨b.num,pT b⟩
  have ec:IsI (c * ((c.den:Int):Rat)):=⟨c.num,pT c⟩
  refine ⟨⟨ia,ib,ic⟩,(a.den:Int) * (b.den:Int) * (c.den:Int),Int.mul_pos (Int.mul_pos pa pb) pc, ?_, ?_, ?_, ?_⟩
  · have e:((a.den * b.den * c.den:Nat):Int)=(a.den:Int) * (b.den:Int) * (c.den:Int):=by rw [Int.natCast_mul,Int.natCast_mul]
    rw [←e]
    have:((2 ^ 36:Nat):Int)=((4096 * 4096 * 4096:Nat):Int):=by decide
    rw [this]
    exact Int.ofNat_le.mpr h2
  · exact ((ea.mul (IsI.int (b.den:Int))).mul (IsI.int (c.den:Int))).cast (by simp only [Rat.intCast_mul]; grind)
  · exact ((eb.mul (IsI.int (a.den:Int))).mul (IsI.int (c.den:Int))).cast (by simp only [Rat.intCast_mul]; grind)
  · exact ((ec.mul (IsI.int (a.den:Int))).mul (IsI.int (b.den:Int))).cast (by simp only [Rat.intCast_mul]; grind)
theorem aJZ {a b c:Rat} (ia:In1 a) (ib:In1 b) (ic:In1 c) (ea:IsI (a * ((60:Int):Rat))) (eb:IsI (b * ((60:Int):Rat))) (ec:IsI (c * ((60:Int):Rat))):CD 60 (a,b,c) :=
  ⟨⟨ia,ib,ic⟩,60,by decide,by decide,ea,eb,ec⟩
theorem aK4:CD 1 (0,0,0):=⟨⟨yY,yY,yY⟩,1,by decide,by decide,(IsI.int 0).mul (IsI.int 1),(IsI.int 0).mul (IsI.int 1),(IsI.int 0).mul (IsI.int 1)⟩
theorem CD.pos {B:Nat} {r:R3} (h:CD B r):1≤B:=by obtain ⟨_,D,d0,dB,_⟩:=h; omega
theorem pw5 {n:Nat} (h:n≤5):2 ^ 36 * (3 * 4096) ^ n < 2 ^ 110:=Nat.lt_of_le_of_lt (Nat.mul_le_mul_left _ (Nat.pow_le_pow_right (by decide) h)) (show 2 ^ 36 * (3 * 4096) ^ 5 < 2 ^ 110 by decide)
theorem aLa {n:Nat} (h:n≤20):60 * (3 * 3) ^ n < 2 ^ 110:=Nat.lt_of_le_of_lt (Nat.mul_le_mul_left _ (Nat.pow_le_pow_right (by decide) h)) (show 60 * (3 * 3) ^ 20 < 2 ^ 110 by decide)
noncomputable def yJ (m B:Nat) (ds:List PV) (r:R3):Prop:=2≤m∧m≤4096∧ds.length≤20∧oA m ds∧CD B r∧B * (3 * m) ^ ds.length < 2 ^ 110
theorem yJ.lot {m B:Nat} {ds:List PV} {r:R3} (h:yJ m B ds r):∃ r',pB m B ds r r':=by
  obtain ⟨a,b,c,d,e,f⟩:=h
  obtain ⟨r',g⟩:=iJ.ex r d
  exact ⟨r',a,b,c,g,e,f⟩
theorem yJ.nil {m B:Nat} {ds:List PV} {r:R3} (h:yJ m B ds r):pB m B [] r r:=by
  obtain ⟨a,b,c,d,e,f⟩:=h
  exact ⟨a,b,Nat.zero_le _,rfl,e,Nat.lt_of_le_of_lt (DT a (Nat.zero_le _)) f⟩
theorem yJ.zero {m B:Nat} {ds:List PV} {r:R3} (h:yJ m B ds r):yJ m B ds (0,0,0):=by
  obtain ⟨a,b,c,d,e,f⟩:=h
  exact ⟨a,b,c,d,aK4.le e.pos,f⟩
section
variable {T:Tb}
theorem aHr (k:L8 T) {m B:Nat} {ds:List PV} {r r':R3} {i:Int} {G:Gh} {Q:PK1} (h:pB m B ds r r') (i0:0≤i) (i1:i≤(ds.length:Int)) (q:Q (.bl true) G):T.S "_law_right" [shV r,rV r,.tup ds,.int i] G Q:=by
  rw [k.right]; exact ⟨m,B,ds,r,r',i,rfl,h,i0,i1,q⟩
theorem aKB (h:PT T) {G:Gh} {Q:PK1} (q:Q (shV (0,0,0)) G):T.S "Shade" [.tup [.int 0,.int 1],.tup [.int 0,.int 1],.tup [.int 0,.int 1]] G Q:=by
  rw [h.shade]; exact ⟨0,0,0,rfl,yY,yY,yY,q⟩
noncomputable def MK:CE:=(.tup (.cons (.int 0) (.cons (.int 1) .nil)))
noncomputable def aDI:CS:=(.iff (.no (.tst (.cal "_law_right" (.cons (.cal "Shade" (.cons MK (.cons MK (.cons MK .nil)))) (.cons (.tup (.cons MK (.cons MK (.cons MK .nil)))) (.cons (.var 6) (.cons (.var 8) .nil))))))) (.ret (.bl false)) .nil)
noncomputable def aE9:CS:=(.seq (.iff (.oo (.no (.tst (.cal "_law_right" (.cons (.var 7) (.cons (.var 5) (.cons (.var 6) (.cons (.var 8) .nil))))))) (.no (.tst (.cal "_law_right" (.cons (.var 7) (.cons (.var 5) (.cons (.tup .nil) (.cons (.int 0) .nil)))))))) (.ret (.bl false)) .nil) aDI)
theorem aLJ (h:PT T) (k:L8 T) {m B:Nat} {ds:List PV} {r:R3} {i:Int} {x0 x1 x2 x3 x4:Option PV} {D:dF} {G:Gh} (f:yJ m B ds r) (i0:0≤i) (i1:i≤(ds.length:Int))
    (hR:D.nx [x0,x1,x2,x3,x4,some (rV r),some (.tup ds),some (shV r),some (.int i)] G):wpS T aE9 D [x0,x1,x2,x3,x4,some (rV r),some (.tup ds),some (shV r),some (.int i)] G:=by
  unfold aE9 aDI MK
  obtain ⟨r',l1⟩:=f.lot
  obtain ⟨r2,l2⟩:=f.zero.lot
  simp only [wpS,wpE,wpT,wpL,List.getElem?_cons_zero,List.getElem?_cons_succ,bT,cX,List.length_nil,List.length_cons]
  refine aHr k l1 i0 i1 ?_
  simp only [bL,Bool.not_true,Bool.false_eq_true,if_false]
  refine ⟨Nat.zero_le _,aHr k f.nil (Int.le_refl _) (Int.natCast_nonneg _) ?_⟩
  simp only [bL,Bool.not_true,Bool.false_eq_true,if_false]
  refine ⟨by decide,by decide,by decide,aKB h ⟨by decide,by decide,by decide,by decide, ?_⟩⟩
  refine aHr (r:=(0,0,0)) k l2 i0 i1 ?_
  simp only [bL,Bool.not_true,Bool.false_eq_true,if_false]
  exact hR
noncomputable def aHs:CS:=(.seq (.asg (.gn 7) (.cal "_law_made" (.cons (.var 2) (.cons (.var 5) .nil))))
  (.seq (.asg (.gn 8) (.cal "_law_pick" (.cons (.var 2) (.cons (.bin .Add (.blt .len (.cons (.var 6) .nil)) (.int 1)) .nil)))) aE9))
theorem aI1 (h:PT T) (lt:LT T) (lm:LM T) (k:L8 T) {ns:List Int} {p:Addr} {m B:Nat} {ds:List PV} {r:R3} {x1 x3 x4 x7 x8:Option PV} {D:dF} {G:Gh} (hp:Pu p G) (f:yJ m B ds r) (hR:∀ σ G',I8 ns σ→D.nx σ G') :
    wpS T aHs D [some (.scr ns),x1,some (.ref p),x3,x4,some (rV r),some (.tup ds),x7,x8] G:=by
  unfold aHs
  have h20:=f.2.2.1
  obtain ⟨i1,i2,i3⟩:=f.2.2.2.2.1.1
  simp only [wpS,wpE,wpT,wpL,wpG,List.getElem?_cons_zero,List.getElem?_cons_succ,bT,cX,List.length_nil,List.length_cons,lm.made,lt.pick]
  refine ⟨p,_,_,_,rfl,hp,i1,i2,i3,fun G1 m1=>?_⟩
  simp only [List.set_cons_zero,List.set_cons_succ,List.getElem?_cons_zero,List.getElem?_cons_succ,bT,cX]
  rw [lY,dI,hW]
  refine ⟨p,_,rfl,m1.pu,by omega,smP (by omega) (by omega),fun i G2 a b m2=>?_⟩
  exact aLJ h k f a (by omega) (hR _ _ ⟨_,_,_,_,_,_,_,_,rfl⟩)
noncomputable def aE5:CE:=(.cal "_law_plain_share" (.cons (.var 2) .nil))
noncomputable def aGX:CS:=(.seq (.iff (.tst (.var 4)) (.par 5 6 (.blt .tuple (.cons (.cmpr false (.gn 1) (.irg (.cons (.int 3) .nil)) .nil aE5 [none,none,some 2]) .nil)) (.cal "_law_short" (.cons (.cal "_law_deeds" (.cons (.var 2) (.cons (.int 20) .nil))) .nil))) .nil) aHs)
theorem aMO (h:PT T) (lt:LT T) (lm:LM T) (k:L8 T) {ns:List Int} {p:Addr} {ds:List PV} {r:R3} {g:Bool} {x1 x3 x7 x8:Option PV} {D:dF} {G:Gh} (hp:Pu p G) (f:yJ 4096 (2 ^ 36) ds r) (hR:∀ σ G',I8 ns σ→D.nx σ G') :
    wpS T aGX D [some (.scr ns),x1,some (.ref p),x3,some (.bl g),some (rV r),some (.tup ds),x7,x8] G:=by
  unfold aGX
  have e1:=k.plain
  have e2:=k.deeds
  have e3:=k.short_
  have pl:∀ {G:Gh} {Q:PK1},Pu p G→(∀ q G',In1 q→Bd 12 q→IsI (q * ((60:Int):Rat))→Pn p G G'→Q (FQ q) G')→T.S "_law_plain_share" [.ref p] G Q:=fun {G Q} a b=>by rw [e1]; exact ⟨p,rfl,a,b⟩
  have sd:∀ {G:Gh} {Q:PK1},Pu p G→(∀ ds G',(ds.length:Int)=20→oA 4096 ds→Pn p G G'→Q (.tup ds) G')→T.S "_law_deeds" [.ref p,.int 20] G Q:=fun {G Q} a b=>by rw [e2]; exact ⟨p,20,rfl,a,by decide,by decide,b⟩
  have ss:∀ {ds:List PV} {G:Gh} {Q:PK1},ds.length≤20→oA 4096 ds→(∀ ds',ds'.length=ds.length→oA 3 ds'→Q (.tup ds') G)→T.S "_law_short" [.tup ds] G Q:=fun {ds G Q} a b c=>by rw [e3]; exact ⟨ds,rfl,a,b,c⟩
  clear e1 e2 e3
  cases g with
  | false =>
    simp only [wpS,wpE,wpT,List.getElem?_cons_zero,List.getElem?_cons_succ,bT,cX,bL,Bool.false_eq_true,if_false]
    exact aI1 h lt lm k hp f hR
  | true =>
    unfold aE5
    have:=@zQ
    walk_at "rd"
    refine ⟨by decide,by decide, ?_⟩
    refine pl hp fun a G1 ia _ ea m1=>pl m1.pu fun b G2 ib _ eb m2=>pl m2.pu fun c G3 ic _ ec m3=>?_
    refine sd m3.pu fun es G4 hl al m4=>ss (by omega) al fun es' hl' al'=>?_
    exact aI1 (r:=(a,b,c)) h lt lm k m4.pu ⟨by decide,by decide,by omega,al',aJZ ia ib ic ea eb ec,aLa (by omega)⟩ hR
noncomputable def WM:CS:=(.seq (.asg (.gn 5) (.cal "_law_shares" (.cons (.var 2) .nil)))
  (.seq (.asg (.gn 6) (.cal "_law_deeds" (.cons (.var 2) (.cons (.var 3) .nil)))) aGX))
theorem aEz (h:PT T) (lt:LT T) (lm:LM T) (k:L8 T) {ns:List Int} {p:Addr} {n:Int} {g:Bool} {x1 x5 x6 x7 x8:Option PV} {D:dF} {G:Gh} (hp:Pu p G) (n0:0≤n) (n5:n < 6) (hR:∀ σ G',I8 ns σ→D.nx σ G') :
    wpS T WM D [some (.scr ns),x1,some (.ref p),some (.int n),some (.bl g),x5,x6,x7,x8] G:=by
  unfold WM
  simp only [wpS,wpE,wpL,wpG,List.getElem?_cons_zero,List.getElem?_cons_succ,bT,cX,lt.shares,k.deeds]
  refine ⟨p,rfl,hp,fun a b c G1 ia ib ic ba bb bc m1=>?_⟩
  simp only [List.set_cons_zero,List.set_cons_succ,List.getElem?_cons_zero,List.getElem?_cons_succ,bT,cX]
  refine ⟨p,n,rfl,m1.pu,n0,by omega,fun ds G2 hl al m2=>?_⟩
  exact aMO (r:=(a,b,c)) h lt lm k m2.pu ⟨by decide,by decide,by omega,al,aMc ia ib ic ba bb bc,pw5 (by omega)⟩ hR
noncomputable def aGQ:CS:=(.seq (.asg (.gn 2) (.cal "_law_purse" (.cons (.cal "_law_cell" (.cons (.var 0) (.cons (.var 1) .nil))) .nil)))
  (.seq (.asg (.gn 3) (.cal "_law_pick" (.cons (.var 2) (.cons (.int 6) .nil))))
  (.seq (.asg (.gn 4) (.an (.cmp .Eq (.var 1) (.int 0)) (.cmp .Eq (.cal "_law_pick" (.cons (.var 2) (.cons (.int 4) .nil))) (.int 1)))) WM)))
theorem aMm (h:PT T) (lt:LT T) (lm:LM T) (k:L8 T) {ns:List Int} {n:Int} {x2 x3 x4 x5 x6 x7 x8:Option PV} {D:dF} {G:Gh} (h1:0≤n) (h2:n < 64) (hR:∀ σ G',I8 ns σ→D.nx σ G') :
    wpS T aGQ D [some (.scr ns),some (.int n),x2,x3,x4,x5,x6,x7,x8] G:=by
  unfold aGQ
  have:=lt.purse
  have:=lt.cell
  have:=lt.pick
  walk_at "rz"
  refine ⟨ns,rfl, ?_⟩
  intro c0 p x y z hp0
  refine ⟨⟨_,_,_,aU⟩,by decide,smP (by decide) (by decide),fun r G1 r0 r1 m1=>?_⟩
  by_cases e:n=0
  · subst e
    walk_at "rz"
    refine ⟨m1.pu,by decide,smP (by decide) (by decide),fun s G2 s0 s1 m2=>?_⟩
    exact aEz h lt lm k m2.pu r0 r1 hR
  · walk_at "rz"
    exact aEz h lt lm k m1.pu r0 r1 hR
noncomputable def wL:CS:=(.seq (.fr (.gn 1) (.irg (.cons (.blt .max (.cons (.int 2) (.cons (.blt .min (.cons (.blt .len (.cons (.var 0) .nil)) (.cons (.int 4) .nil))) .nil))) .nil)) aGQ)
  (.ret (.bl true)))
theorem aIl (h:PT T) (lt:LT T) (lm:LM T) (k:L8 T):∀ xs G Q,CP xs G Q→wpS T wL (aJ Q) (aC 9 xs) G:=by
  rintro xs G Q ⟨ns,rfl,hl,hq⟩
  have:=@zQ
  unfold wL
  walk_at "rz"
  refine ⟨by omega,by omega, ?_⟩
  refine rL (fun σ _=>I8 ns σ) ⟨_,_,_,_,_,_,_,_,rfl⟩ ?_ ?_
  · rintro x hx σ G' R ⟨x1,x2,x3,x4,x5,x6,x7,x8,rfl⟩ hR
    obtain ⟨j,rfl,hj⟩:=aDc hx
    exact aMm h lt lm k (by omega) (by omega) hR
  · rintro σ G' ⟨x1,x2,x3,x4,x5,x6,x7,x8,rfl⟩
    have:=hq G'
    walk_at "rz"
end
end L3
namespace My
open PySem L2 L3 PyProof.Rows
noncomputable def top (i:Nat):Stmt:=PySem.Challenge.pw_lightshares_k08_deeds_by_name_in_turn.main.body.getD i (.Pass ⟨0,0,0,0⟩)
noncomputable abbrev eX:Stmt:=top 12
noncomputable abbrev xO:Cfg:={ N:=["one","other"],names:=(aA eX).names }
local macro_rules | `(tactic| walk_at "dk") => `(tactic| exact ⟨⟨rfl,rfl,rfl,by decide +kernel,rfl,by decide +kernel,by decide +kernel⟩,rfl,rfl⟩)
theorem UG:aM eX ["one","other"] xO:=by walk_at "dk"
theorem PQ:cSs 80 xO (aB eX)=some mN:=by kernel_rfl
noncomputable abbrev cF:Stmt:=top 11
noncomputable abbrev oP:Cfg:={ N:=["thing"],names:=(aA cF).names,tys:=["bool","int"],blt:=["isinstance"] }
theorem FY:aM cF ["thing"] oP:=by walk_at "dk"
theorem HC:cSs 80 oP (aB cF)=some gB:=by kernel_rfl
noncomputable abbrev bD:Stmt:=top 13
noncomputable abbrev iQ:Cfg:={ N:=["thing","top","bottom"],names:=(aA bD).names,fns:=["common","is_whole"],tys:=["tuple"],blt:=["abs","isinstance","len"] }
theorem xW:aM bD ["thing"] iQ:=by walk_at "dk"
theorem yB:cSs 80 iQ (aB bD)=some fV:=by kernel_rfl
noncomputable abbrev cC:Stmt:=top 23
noncomputable abbrev oK:Cfg:={ N:=["thing"],names:=(aA cC).names,fns:=["is_fraction"] }
theorem FF:aM cC ["thing"] oK:=by walk_at "dk"
theorem FI:cSs 80 oK (aB cC)=some iR:=by kernel_rfl
noncomputable abbrev aT:Stmt:=dS (top 24) 0
noncomputable abbrev fS:Cfg:={ N:=["self","ember","leaf","sky","light","share"],names:=(aA aT).names,fns:=["is_share"],blt:=["enumerate"] }
theorem rS:aM aT ["self","ember","leaf","sky"] fS:=by walk_at "dk"
theorem oV:cSs 80 fS (aB aT)=some eF:=by kernel_rfl
noncomputable abbrev fM:Stmt:=top 46
noncomputable abbrev wP:Cfg:={ N:=["_law_script","_law_k","_law_state","_law_cell_here"],names:=(aA fM).names,blt:=["len"] }
theorem QK:aM fM ["_law_script","_law_k"] wP:=by walk_at "dk"
theorem QL:cSs 80 wP (aB fM)=some mI:=by kernel_rfl
noncomputable abbrev eZ:Stmt:=top 48
noncomputable abbrev xB:Cfg:={ N:=["_law_purse_here","_law_many","_law_state","_law_taken"],names:=(aA eZ).names }
theorem SB:aM eZ ["_law_purse_here","_law_many"] xB:=by walk_at "dk"
theorem SO:cSs 80 xB (aB eZ)=some mE:=by kernel_rfl
noncomputable abbrev gU:Stmt:=top 50
noncomputable abbrev DF:Cfg:={ N:=["_law_top","_law_bottom","_law_one","_law_other"],names:=(aA gU).names,blt:=["abs"] }
theorem ZO:aM gU ["_law_top","_law_bottom"] DF:=by walk_at "dk"
theorem aAw:cSs 80 DF (aB gU)=some nU:=by kernel_rfl
noncomputable abbrev aX:Stmt:=top 57
noncomputable abbrev gH:Cfg:={ N:=["_law_purse_here"],names:=(aA aX).names,fns:=["_law_low","_law_pick"] }
theorem sZ:aM aX ["_law_purse_here"] gH:=by walk_at "dk"
theorem tB:cSs 80 gH (aB aX)=some cR:=by kernel_rfl
noncomputable abbrev dY:Stmt:=top 56
noncomputable abbrev sR:Cfg:={ N:=["_law_purse_here","_law_way","_law_bottom"],names:=(aA dY).names,fns:=["_law_low","_law_pick"] }
theorem IV:aM dY ["_law_purse_here"] sR:=by walk_at "dk"
theorem LK:cSs 80 sR (aB dY)=some jT:=by kernel_rfl
noncomputable abbrev jS:Stmt:=top 61
noncomputable abbrev IL:Cfg:={ N:=["_law_purse_here","_law_word","_law_way","_law_some"],names:=(aA jS).names,fns:=["_law_pick","_law_plain_share","_law_share"] }
theorem aCr:aM jS ["_law_purse_here","_law_word"] IL:=by walk_at "dk"
theorem aCK:cSs 80 IL (aB jS)=some kG:=by kernel_rfl
noncomputable abbrev dN:Stmt:=top 63
noncomputable abbrev tN:Cfg:={ N:=["_law_purse_here","_law_many","_law_words","_law_found","_law_k","_law_word","_law_amount"],names:=(aA dN).names,fns:=["_law_by","_law_pick"],tys:=["tuple"],blt:=["range","tuple"],M:=["_law_found"] }
theorem IA:aM dN ["_law_purse_here","_law_many"] tN:=by walk_at "dk"
theorem JM:cSs 80 tN (aB dN)=some jY:=by kernel_rfl
noncomputable abbrev fN:Stmt:=top 59
noncomputable abbrev yH:Cfg:={ N:=["_law_purse_here","_law_row"],names:=(aA fN).names,fns:=["_law_pick"],mks:=["Shade"],mkk:=[("Shade",["sky","ember","leaf"],[.arg 1,.arg 2,.arg 0])],gls:=["Shade"] }
theorem OR:aM fN ["_law_purse_here","_law_row"] yH:=by walk_at "dk"
theorem PN:cSs 80 yH (aB fN)=some mD:=by kernel_rfl
noncomputable abbrev dQ:Stmt:=top 47
noncomputable abbrev sV:Cfg:={ N:=["_law_cell_here"],names:=(aA dQ).names,tys:=["int"],blt:=["int"],rm:=true }
theorem LH:aM dQ ["_law_cell_here"] sV:=by walk_at "dk"
theorem HR:cSs 80 sV (aB dQ)=some kB:=by kernel_rfl
noncomputable abbrev dP:Stmt:=top 52
noncomputable abbrev sT:Cfg:={ N:=["_law_a","_law_b"],names:=(aA dP).names,fns:=["_law_low"] }
theorem IJ:aM dP ["_law_a","_law_b"] sT:=by walk_at "dk"
theorem IZ:cSs 80 sT (aB dP)=some kF:=by kernel_rfl
noncomputable abbrev fL:Stmt:=top 51
noncomputable abbrev vX:Cfg:={ N:=["_law_a","_law_b"],names:=(aA fL).names,fns:=["_law_low"] }
theorem TW:aM fL ["_law_a","_law_b"] vX:=by walk_at "dk"
theorem QR:cSs 80 vX (aB fL)=some lV:=by kernel_rfl
noncomputable abbrev eA:Stmt:=top 53
noncomputable abbrev tR:Cfg:={ N:=["_law_a","_law_b"],names:=(aA eA).names,fns:=["_law_low"] }
theorem ML:aM eA ["_law_a","_law_b"] tR:=by walk_at "dk"
theorem LR:cSs 80 tR (aB eA)=some kI:=by kernel_rfl
noncomputable abbrev fA:Stmt:=top 60
noncomputable abbrev wQ:Cfg:={ N:=["_law_row","_law_word","_law_amount","_law_part","_law_found","_law_light","_law_middle"],names:=(aA fA).names,fns:=["_law_minus","_law_plus","_law_times"],tys:=["int","tuple"],blt:=["int","range","tuple"],M:=["_law_found"] }
theorem PP:aM fA ["_law_row","_law_word","_law_amount"] wQ:=by walk_at "dk"
theorem UA:cSs 80 wQ (aB fA)=some iG:=by kernel_rfl
noncomputable abbrev fK:Stmt:=top 64
noncomputable abbrev vT:Cfg:={ N:=["_law_row","_law_lot","_law_deed_here"],names:=(aA fK).names,fns:=["_law_deed"] }
theorem OZ:aM fK ["_law_row","_law_lot"] vT:=by walk_at "dk"
theorem OQ:cSs 80 vT (aB fK)=some lO:=by kernel_rfl
noncomputable abbrev dL:Stmt:=top 49
noncomputable abbrev sS:Cfg:={ N:=["_law_thing"],names:=(aA dL).names,tys:=["bool","int"],blt:=["isinstance"] }
theorem IW:aM dL ["_law_thing"] sS:=by walk_at "dk"
theorem LS:cSs 80 sS (aB dL)=some pG:=by kernel_rfl
noncomputable abbrev aY:Stmt:=top 54
noncomputable abbrev gP:Cfg:={ N:=["_law_thing"],names:=(aA aY).names,fns:=["_law_low","_law_whole"],tys:=["tuple"],blt:=["isinstance","len"] }
theorem sX:aM aY ["_law_thing"] gP:=by walk_at "dk"
theorem uF:cSs 80 gP (aB aY)=some eS:=by kernel_rfl
noncomputable abbrev fE:Stmt:=top 55
noncomputable abbrev yC:Cfg:={ N:=["_law_a"],names:=(aA fE).names,tys:=["int","str"],blt:=["int","str"] }
theorem SL:aM fE ["_law_a"] yC:=by walk_at "dk"
theorem UE:cSs 80 yC (aB fE)=some lQ:=by kernel_rfl
noncomputable abbrev bZ:Stmt:=top 25
noncomputable abbrev oE:Cfg:={ N:=["thing"],names:=(aA bZ).names,gls:=["Shade"],blt:=["isinstance"] }
theorem DY:aM bZ ["thing"] oE:=by walk_at "dk"
theorem GH:cSs 80 oE (aB bZ)=some iU:=by kernel_rfl
noncomputable abbrev bJ:Stmt:=top 26
noncomputable abbrev kR:Cfg:={ N:=["thing"],names:=(aA bJ).names,fns:=["is_shade"] }
theorem yR:aM bJ ["thing"] kR:=by walk_at "dk"
theorem zF:cSs 80 kR (aB bJ)=some gL:=by kernel_rfl
noncomputable abbrev bR:Stmt:=top 27
noncomputable abbrev mP:Cfg:={ N:=["shade"],names:=(aA bR).names,fns:=["need_shade"] }
theorem DA:aM bR ["shade"] mP:=by walk_at "dk"
theorem BB:cSs 80 mP (aB bR)=some iD:=by kernel_rfl
noncomputable abbrev bB:Stmt:=dS (top 24) 1
noncomputable abbrev hZ:Cfg:={ N:=["self","other"],names:=(aA bB).names,fns:=["shares_of"],gls:=["Shade"],blt:=["isinstance"] }
theorem uY:aM bB ["self","other"] hZ:=by walk_at "dk"
theorem uZ:cSs 80 hZ (aB bB)=some fB:=by kernel_rfl
noncomputable abbrev dW:Stmt:=top 20
noncomputable abbrev tL:Cfg:={ N:=["number","pieces","piece"],names:=(aA dW).names,gls:=["PIECE","PIECE_FIGURES"],tys:=["str"],blt:=["divmod","str"],M:=["pieces"] }
theorem JB:aM dW ["number"] tL:=by walk_at "dk"
theorem ME:cSs 80 tL (aB dW)=some lA:=by kernel_rfl
noncomputable abbrev eB:Stmt:=top 21
noncomputable abbrev tQ:Cfg:={ N:=["one"],names:=(aA eB).names,fns:=["figures"] }
theorem LI:aM eB ["one"] tQ:=by walk_at "dk"
theorem IY:cSs 80 tQ (aB eB)=some kS:=by kernel_rfl
noncomputable abbrev aW:Stmt:=dS (top 24) 3
noncomputable abbrev gN:Cfg:={ N:=["self"],names:=(aA aW).names,fns:=["shares_of","written"] }
theorem uO:aM aW ["self"] gN:=by walk_at "dk"
theorem sI:cSs 80 gN (aB aW)=some eQ:=by kernel_rfl
noncomputable abbrev aR:Stmt:=dS (top 24) 4
noncomputable abbrev fP:Cfg:={ N:=["self"],names:=(aA aR).names,tys:=["str"],blt:=["str"],ows:=[("str",[("Shade","Shade.__str__")])] }
theorem rJ:aM aR ["self"] fP:=by walk_at "dk"
theorem rA:cSs 80 fP (aB aR)=some eE:=by kernel_rfl
noncomputable abbrev aV:Stmt:=dS (top 24) 2
noncomputable abbrev gK:Cfg:={ N:=["self"],names:=(aA aV).names,fns:=["shares_of"],blt:=["len"] }
theorem uL:aM aV ["self"] gK:=by walk_at "dk"
theorem sL:cSs 80 gK (aB aV)=some cQ:=by kernel_rfl
noncomputable abbrev jX:Stmt:=top 62
noncomputable abbrev HY:Cfg:={ N:=["_law_told","_law_row","_law_text_here","_law_many"],names:=(aA jX).names,fns:=["_law_is_fraction","_law_text","is_shade","shares_of"],mks:=["Shade"],gls:=["Shade"],tys:=["bool","str"],blt:=["all","bool","len","repr","str"],nes:=[("Shade","Shade.__eq__")],ows:=[("str",[("Shade","Shade.__str__")]),("repr",[("Shade","Shade.__repr__")]),("len",[("Shade","Shade.__len__")]),("bool",[("Shade","Shade.__len__")])] }
theorem aBz:aM jX ["_law_told","_law_row"] HY:=by walk_at "dk"
theorem aBd:cSs 80 HY (aB jX)=some kZ:=by kernel_rfl
noncomputable abbrev fJ:Stmt:=top 14
noncomputable abbrev yF:Cfg:={ N:=["top","bottom","shared"],names:=(aA fJ).names,fns:=["common"],blt:=["abs"] }
theorem TC:aM fJ ["top","bottom"] yF:=by walk_at "dk"
theorem RV:cSs 80 yF (aB fJ)=some mK:=by kernel_rfl
noncomputable abbrev aS:Stmt:=top 15
noncomputable abbrev fY:Cfg:={ N:=["things","place","thing"],names:=(aA aS).names,fns:=["is_fraction"],blt:=["enumerate"] }
theorem pD:aM aS ["things"] fY:=by walk_at "dk"
theorem rQ:cSs 80 fY (aB aS)=some eG:=by kernel_rfl
noncomputable abbrev gW:Stmt:=top 17
noncomputable abbrev DH:Cfg:={ N:=["one","other"],names:=(aA gW).names,fns:=["lowest","need_fractions"] }
theorem VG:aM gW ["one","other"] DH:=by walk_at "dk"
theorem aAB:cSs 80 DH (aB gW)=some oI:=by kernel_rfl
noncomputable abbrev cA:Stmt:=top 28
noncomputable abbrev nQ:Cfg:={ N:=["shares","ember","leaf","sky"],names:=(aA cA).names,mks:=["Shade"],gls:=["Shade"],ls:=["shares"] }
theorem EQ:aM cA ["shares"] nQ:=by walk_at "dk"
theorem HF:cSs 80 nQ (aB cA)=some iW:=by kernel_rfl
noncomputable abbrev cH:Stmt:=top 38
noncomputable abbrev oJ:Cfg:={ N:=["shade"],names:=(aA cH).names,fns:=["minus","shade_of","shares_of"],gls:=["ONE"] }
theorem GB:aM cH ["shade"] oJ:=by walk_at "dk"
theorem ES:cSs 80 oJ (aB cH)=some fQ:=by kernel_rfl
noncomputable abbrev eC:Stmt:=top 32
noncomputable abbrev sB:Cfg:={ N:=["by"],names:=(aA eC).names,fns:=["is_share"],gls:=["HALF"] }
theorem KI:aM eC ["by"] sB:=by walk_at "dk"
theorem HX:cSs 80 sB (aB eC)=some gG:=by kernel_rfl
noncomputable abbrev kU:Stmt:=top 16
noncomputable abbrev IC:Cfg:={ N:=["one","other"],names:=(aA kU).names,fns:=["lowest","need_fractions"] }
theorem aCz:aM kU ["one","other"] IC:=by walk_at "dk"
theorem aC9:cSs 80 IC (aB kU)=some uN:=by kernel_rfl
noncomputable abbrev gS:Stmt:=top 18
noncomputable abbrev BG:Cfg:={ N:=["one","other"],names:=(aA gS).names,fns:=["lowest","need_fractions"] }
theorem aAz:aM gS ["one","other"] BG:=by walk_at "dk"
theorem VO:cSs 80 BG (aB gS)=some nS:=by kernel_rfl
noncomputable abbrev fI:Stmt:=top 33
noncomputable abbrev wZ:Cfg:={ N:=["shade","goal","part"],names:=(aA fI).names,fns:=["minus","plus","shade_of","shares_of","times"] }
theorem OM:aM fI ["shade","goal","part"] wZ:=by walk_at "dk"
theorem OP:cSs 80 wZ (aB fI)=some iB:=by kernel_rfl
noncomputable abbrev eW:Stmt:=top 35
noncomputable abbrev yG:Cfg:={ N:=["shade","by"],names:=(aA eW).names,fns:=["need_shade","part_of","toward"],gls:=["ZERO"] }
theorem OV:aM eW ["shade","by"] yG:=by walk_at "dk"
theorem OO:cSs 80 yG (aB eW)=some hJ:=by kernel_rfl
noncomputable abbrev kA:Stmt:=top 19
noncomputable abbrev LV:Cfg:={ N:=["one","other"],names:=(aA kA).names,fns:=["lowest","need_fractions"] }
theorem aBh:aM kA ["one","other"] LV:=by walk_at "dk"
theorem aCA:cSs 80 LV (aB kA)=some sO:=by kernel_rfl
noncomputable abbrev fF:Stmt:=top 36
noncomputable abbrev wN:Cfg:={ N:=["shade","by","part","together"],names:=(aA fF).names,fns:=["need_shade","over","part_of","plus","toward"] }
theorem OW:aM fF ["shade","by"] wN:=by walk_at "dk"
theorem QG:cSs 80 wN (aB fF)=some iE:=by kernel_rfl
noncomputable abbrev dM:Stmt:=top 34
noncomputable abbrev tG:Cfg:={ N:=["shade","by"],names:=(aA dM).names,fns:=["need_shade","part_of","toward"],gls:=["ONE"] }
theorem KC:aM dM ["shade","by"] tG:=by walk_at "dk"
theorem HV:cSs 80 tG (aB dM)=some gQ:=by kernel_rfl
noncomputable abbrev fG:Stmt:=top 37
noncomputable abbrev xA:Cfg:={ N:=["shade","by","shares"],names:=(aA fG).names,fns:=["is_whole","need_shade","shade_of","shares_of"],blt:=["range"] }
theorem SF:aM fG ["shade","by"] xA:=by walk_at "dk"
theorem SK:cSs 80 xA (aB fG)=some iF:=by kernel_rfl
noncomputable abbrev eY:Stmt:=top 43
noncomputable abbrev vZ:Cfg:={ N:=["shade","deed","change"],names:=(aA eY).names,fns:=["opposite"],blt:=["len"],gds:=[("BY_WORD",[("lighter","lighter"),("darker","darker"),("duller","duller"),("turned","turned")])],fvs:=[("darker",1,[.arg 0,.non]),("darker",2,[.arg 0,.arg 1]),("duller",1,[.arg 0,.non]),("duller",2,[.arg 0,.arg 1]),("lighter",1,[.arg 0,.non]),("lighter",2,[.arg 0,.arg 1]),("turned",1,[.arg 0,.non]),("turned",2,[.arg 0,.arg 1])] }
theorem RF:aM eY ["shade","deed"] vZ:=by walk_at "dk"
theorem TM:cSs 80 vZ (aB eY)=some lU:=by kernel_rfl
noncomputable abbrev gX:Stmt:=top 40
noncomputable abbrev DQ:Cfg:={ N:=["word","thing"],names:=(aA gX).names,fns:=["is_share","is_whole"] }
theorem aAN:aM gX ["word","thing"] DQ:=by walk_at "dk"
theorem aAm:cSs 80 DQ (aB gX)=some nM:=by kernel_rfl
noncomputable abbrev dJ:Stmt:=top 41
noncomputable abbrev tW:Cfg:={ N:=["thing","word"],names:=(aA dJ).names,fns:=["is_by"],tys:=["str","tuple"],blt:=["isinstance","len"],gds:=[("BY_WORD",[("lighter","lighter"),("darker","darker"),("duller","duller"),("turned","turned")])] }
theorem KJ:aM dJ ["thing"] tW:=by walk_at "dk"
theorem IG:cSs 80 tW (aB dJ)=some jQ:=by kernel_rfl
noncomputable abbrev bH:Stmt:=top 42
noncomputable abbrev kM:Cfg:={ N:=["deeds","place","thing"],names:=(aA bH).names,fns:=["is_deed"],gls:=["MOST_DEEDS"],tys:=["tuple"],blt:=["enumerate","isinstance","len"] }
theorem yZ:aM bH ["deeds"] kM:=by walk_at "dk"
theorem zB:cSs 80 kM (aB bH)=some gM:=by kernel_rfl
noncomputable abbrev kW:Stmt:=top 44
noncomputable abbrev LD:Cfg:={ N:=["shade","deeds","deed"],names:=(aA kW).names,fns:=["do_one","need_deeds","need_shade"] }
theorem aCW:aM kW ["shade","deeds"] LD:=by walk_at "dk"
theorem aBg:cSs 80 LD (aB kW)=some sA:=by kernel_rfl
noncomputable abbrev dX:Stmt:=top 65
noncomputable abbrev sE:Cfg:={ N:=["_law_one","_law_row","_law_lot","_law_at","_law_due","_law_kept","_law_some","_law_told"],names:=(aA dX).names,fns:=["_law_done","_law_is","done"],shs:=[("done",0,["deeds","shade"],[.arg 1,.arg 0])],blt:=["repr"],rp:=true }
theorem KK:aM dX ["_law_one","_law_row","_law_lot","_law_at"] sE:=by walk_at "dk"
theorem MD:cSs 80 sE (aB dX)=some gI:=by kernel_rfl
noncomputable abbrev cD:Stmt:=top 58
noncomputable abbrev nY:Cfg:={ N:=["_law_purse_here","_law_alike","_law_row"],names:=(aA cD).names,fns:=["_law_pick","_law_share"],tys:=["tuple"],blt:=["range","tuple"],M:=["_law_row"] }
theorem FH:aM cD ["_law_purse_here"] nY:=by walk_at "dk"
theorem DZ:cSs 80 nY (aB cD)=some iS:=by kernel_rfl
noncomputable abbrev dZ:Stmt:=top 66
noncomputable abbrev uD:Cfg:={ N:=["_law_lot","_law_found","_law_k","_law_deed_here"],names:=(aA dZ).names,tys:=["tuple"],blt:=["enumerate","isinstance","len","tuple"],M:=["_law_found"] }
theorem LJ:aM dZ ["_law_lot"] uD:=by walk_at "dk"
theorem IT:cSs 80 uD (aB dZ)=some kY:=by kernel_rfl
noncomputable abbrev mL:Stmt:=top 67
noncomputable abbrev ZJ:Cfg:={ N:=["_law_script","_law_k","_law_purse_here","_law_many","_law_great","_law_row","_law_lot","_law_one","_law_at"],names:=(aA mL).names,fns:=["_law_cell","_law_deeds","_law_made","_law_pick","_law_plain_share","_law_purse","_law_right","_law_shares","_law_short"],mks:=["Shade"],gls:=["Shade"],tys:=["tuple"],blt:=["len","max","min","range","tuple"] }
theorem aG6:aM mL ["_law_script"] ZJ:=by walk_at "dk"
theorem aHp:cSs 80 ZJ (aB mL)=some wL:=by kernel_rfl
noncomputable abbrev zS0:Value:=.str "law_lightshares_k08_deeds_by_name_in_turn" 624
noncomputable abbrev zS1:Value:=.str "lightshares.deeds" 514
noncomputable abbrev zS2:Value:=.str "lightshares.shades" 411
noncomputable abbrev zS3:Value:=.str "lightshares.fractions" 307
noncomputable abbrev zS4:Value:=.str "lightshares.errors" 187
noncomputable abbrev fX (a b:Str) (s:Stmt) (d m c:Value):FuncData:=W.fnOf a b (gA s) (aB s) (aA s) d .none .none m none c .none
noncomputable abbrev oC (l:List Value):Obj:=⟨.type "code",none,.fields l.toArray, #[]⟩
noncomputable abbrev oT (l:List Value):Obj:=⟨.type "tuple",none,.seq l.toArray 0, #[]⟩
noncomputable abbrev oL (l:List Value):Obj:=⟨.none,none,.fields l.toArray, #[]⟩
noncomputable abbrev oN (a b:Str) (s:Stmt):Obj:=⟨.none,none,.func { W.fnOf a b (gA s) (aB s) (aA s) .none .none .none .none none .none .none with globals:=0,builtins:=0 }, #[]⟩
noncomputable abbrev oF (a b:Str) (s:Stmt) (d m:Value) (c:Addr):Obj:=⟨.type "function",none,.func (W.fnOf a b (gA s) (aB s) (aA s) d .none .none m none (.ref c) .none), #[]⟩
noncomputable abbrev oR (c l:Addr) (m:Value):Obj:=⟨.type "frame",none,.plain, #[some (.ref c),some (.ref 3),some (.ref l),none,some m,none,some (.ref 0)]⟩
noncomputable abbrev oS (c:Addr):Obj:=⟨.type "super",none,.fields #[.ref c,.ref c,.ref c], #[]⟩
noncomputable abbrev oB (n:String) (c:Value):Obj:=⟨.type "builtin_function_or_method",none,.fields #[.builtin n,c], #[]⟩
noncomputable abbrev fC (n:Tok):Value:=.str "/claim/cut.py" n
noncomputable abbrev iV (n:Int):Value:=.int n 0
noncomputable abbrev oD (l:List DictEntry):Obj:=⟨.type "dict",none,.dict l.toArray 0, #[]⟩
noncomputable def kE (P:Params) (x:Str) (t:Tok) (v:Value):DictEntry:=⟨PyData.keyHash P x,.str x t,v⟩
noncomputable def ko3 (P:Params):Obj:=⟨(.type "dict"),none,.dict #[kE P "__name__" 165 zS0,kE P "__doc__" 166 .none,kE P "__package__" 167 .none,kE P "__loader__" 168 (.builtin "__main__.__loader__#opaque"),kE P "__spec__" 169 .none,kE P "__annotations__" 170 (.ref 6),kE P "__builtins__" 171 (.ref 4),kE P "__file__" 173 (.str "/claim/cut.py" 172),kE P "__cached__" 174 .none,kE P "ShadeError" 206 (.ref 24),kE P "NoNumber" 231 (.ref 44),kE P "NoShade" 256 (.ref 63),kE P "NoPart" 281 (.ref 82),kE P "NoDeed" 306 (.ref 101),kE P "ZERO" 311 (.ref 104),kE P "ONE" 314 (.ref 105),kE P "PIECE_FIGURES" 316 (.int 64 315),kE P "PIECE" 320 (.int 10000000000000000000000000000000000000000000000000000000000000000 319),kE P "is_whole" 327 (.ref 112),kE P "common" 335 (.ref 119),kE P "is_fraction" 344 (.ref 126),kE P "lowest" 353 (.ref 133),kE P "need_fractions" 362 (.ref 140),kE P "plus" 370 (.ref 147),kE P "minus" 378 (.ref 154),kE P "times" 386 (.ref 161),kE P "over" 394 (.ref 168),kE P "figures" 403 (.ref 175),kE P "written" 410 (.ref 182),kE P "is_share" 419 (.ref 189),kE P "Shade" 482 (.ref 230),kE P "is_shade" 489 (.ref 241),kE P "need_shade" 496 (.ref 248),kE P "shares_of" 503 (.ref 255),kE P "shade_of" 513 (.ref 262),kE P "MOST_DEEDS" 517 (.int 20 516),kE P "HALF" 520 (.ref 263),kE P "part_of" 527 (.ref 270),kE P "toward" 533 (.ref 275),kE P "lighter" 541 (.ref 283),kE P "darker" 549 (.ref 291),kE P "duller" 559 (.ref 299),kE P "turned" 565 (.ref 305),kE P "opposite" 571 (.ref 310),kE P "BY_WORD" 580 (.ref 311),kE P "is_by" 588 (.ref 318),kE P "is_deed" 596 (.ref 325),kE P "need_deeds" 605 (.ref 332),kE P "do_one" 614 (.ref 339),kE P "done" 623 (.ref 346),kE P "_law_cell" 635 (.ref 353),kE P "_law_purse" 642 (.ref 360),kE P "_law_pick" 652 (.ref 367),kE P "_law_whole" 659 (.ref 374),kE P "_law_low" 669 (.ref 381),kE P "_law_plus" 677 (.ref 388),kE P "_law_minus" 685 (.ref 395),kE P "_law_times" 693 (.ref 402),kE P "_law_is_fraction" 700 (.ref 409),kE P "_law_text" 707 (.ref 416),kE P "_law_share" 716 (.ref 423),kE P "_law_plain_share" 723 (.ref 430),kE P "_law_shares" 729 (.ref 435),kE P "_law_made" 737 (.ref 442),kE P "_law_deed" 743 (.ref 447),kE P "_law_by" 753 (.ref 454),kE P "_law_is" 759 (.ref 459),kE P "_law_deeds" 772 (.ref 466),kE P "_law_done" 781 (.ref 473),kE P "_law_right" 795 (.ref 480),kE P "_law_short" 805 (.ref 487),kE P "law" 811 (.ref 492)] 72, #[]⟩
noncomputable def aC1 (P:Params):Obj:=⟨(.type "dict"),none,.dict #[kE P "__module__" 196 zS4,kE P "__firstlineno__" 200 (.int 2 199),kE P "__static_attributes__" 201 (.ref 22),kE P "__weakref__" 203 (.ref 25),kE P "__doc__" 204 .none] 3, #[]⟩
noncomputable def aBt (P:Params):Obj:=⟨(.type "type"),none,.cls ⟨"ShadeError",[(.type "ValueError")],[(.ref 24),(.type "ValueError"),(.type "Exception"),(.type "BaseException"),(.type "object")],23,"ShadeError",true,[],[(.ref 44),(.ref 63),(.ref 82),(.ref 101)],false,none,false⟩, #[(some (.ref 15)),none,(some (.str "ShadeError" 189)),(some (.str "ShadeError" 197)),(some (.builtin "ValueError.__new__")),(some (.bool true))]⟩
noncomputable def aCF (P:Params):Obj:=⟨(.type "dict"),none,.dict #[kE P "__module__" 214 zS4,kE P "__firstlineno__" 218 (.int 4 217),kE P "__init__" 226 (.ref 41),kE P "__static_attributes__" 228 (.ref 42),kE P "__doc__" 229 .none] 2, #[]⟩
noncomputable def aCx (P:Params):Obj:=⟨(.type "type"),none,.cls ⟨"NoNumber",[(.ref 24)],[(.ref 44),(.ref 24),(.type "ValueError"),(.type "Exception"),(.type "BaseException"),(.type "object")],43,"NoNumber",true,[],[],false,none,false⟩, #[(some (.ref 28)),none,(some (.str "NoNumber" 207)),(some (.str "NoNumber" 215)),(some (.builtin "ValueError.__new__")),(some (.bool true))]⟩
noncomputable def aBe (P:Params):Obj:=⟨(.type "dict"),none,.dict #[kE P "__module__" 239 zS4,kE P "__firstlineno__" 243 (.int 9 242),kE P "__init__" 251 (.ref 60),kE P "__static_attributes__" 253 (.ref 61),kE P "__doc__" 254 .none] 2, #[]⟩
noncomputable def aBi (P:Params):Obj:=⟨(.type "type"),none,.cls ⟨"NoShade",[(.ref 24)],[(.ref 63),(.ref 24),(.type "ValueError"),(.type "Exception"),(.type "BaseException"),(.type "object")],62,"NoShade",true,[],[],false,none,false⟩, #[(some (.ref 47)),none,(some (.str "NoShade" 232)),(some (.str "NoShade" 240)),(some (.builtin "ValueError.__new__")),(some (.bool true))]⟩
noncomputable def aBf (P:Params):Obj:=⟨(.type "dict"),none,.dict #[kE P "__module__" 264 zS4,kE P "__firstlineno__" 268 (.int 14 267),kE P "__init__" 276 (.ref 79),kE P "__static_attributes__" 278 (.ref 80),kE P "__doc__" 279 .none] 2, #[]⟩
noncomputable def aBs (P:Params):Obj:=⟨(.type "type"),none,.cls ⟨"NoPart",[(.ref 24)],[(.ref 82),(.ref 24),(.type "ValueError"),(.type "Exception"),(.type "BaseException"),(.type "object")],81,"NoPart",true,[],[],false,none,false⟩, #[(some (.ref 66)),none,(some (.str "NoPart" 257)),(some (.str "NoPart" 265)),(some (.builtin "ValueError.__new__")),(some (.bool true))]⟩
noncomputable def OI (P:Params):Obj:=⟨(.type "dict"),none,.dict #[kE P "__module__" 289 zS4,kE P "__firstlineno__" 293 (.int 19 292),kE P "__init__" 301 (.ref 98),kE P "__static_attributes__" 303 (.ref 99),kE P "__doc__" 304 .none] 2, #[]⟩
noncomputable def MS (P:Params):Obj:=⟨(.type "type"),none,.cls ⟨"NoDeed",[(.ref 24)],[(.ref 101),(.ref 24),(.type "ValueError"),(.type "Exception"),(.type "BaseException"),(.type "object")],100,"NoDeed",true,[],[],false,none,false⟩, #[(some (.ref 85)),none,(some (.str "NoDeed" 282)),(some (.str "NoDeed" 290)),(some (.builtin "ValueError.__new__")),(some (.bool true))]⟩
noncomputable def UL (P:Params):Obj:=oT [.int 0 309,.int 1 310]
noncomputable def UR (P:Params):Obj:=oT [.int 1 312,.int 1 313]
noncomputable def VQ (P:Params):Obj:=oC [.str "is_whole" 321,.str "is_whole" 322,fC 323,iV 29,iV 1,iV 0,iV 0,iV 3,.ref 106,.bool true,iV 181,.ref 107,.none,.ref 108,.ref 109,.ref 110,iV 325,iV 29,fC 326]
noncomputable def WP (P:Params):Obj:=oF "is_whole" "is_whole" cF .none zS3 111
noncomputable def aAD (P:Params):Obj:=oC [.str "common" 328,.str "common" 329,fC 330,iV 31,iV 2,iV 0,iV 0,iV 3,.ref 113,.bool true,iV 181,.ref 114,.none,.ref 115,.ref 116,.ref 117,iV 333,iV 31,fC 334]
noncomputable def aAP (P:Params):Obj:=oF "common" "common" eX .none zS3 118
noncomputable def aAC (P:Params):Obj:=oC [.str "is_fraction" 336,.str "is_fraction" 337,fC 338,iV 35,iV 1,iV 0,iV 0,iV 3,.ref 120,.bool true,iV 181,.ref 121,.none,.ref 122,.ref 123,.ref 124,iV 342,iV 35,fC 343]
noncomputable def VB (P:Params):Obj:=oF "is_fraction" "is_fraction" bD .none zS3 125
noncomputable def aAt (P:Params):Obj:=oC [.str "lowest" 345,.str "lowest" 346,fC 347,iV 40,iV 2,iV 0,iV 0,iV 3,.ref 127,.bool true,iV 181,.ref 128,.none,.ref 129,.ref 130,.ref 131,iV 351,iV 40,fC 352]
noncomputable def ZK (P:Params):Obj:=oF "lowest" "lowest" fJ .none zS3 132
noncomputable def ZX (P:Params):Obj:=oC [.str "need_fractions" 354,.str "need_fractions" 355,fC 356,iV 45,iV 1,iV 0,iV 0,iV 3,.ref 134,.bool true,iV 181,.ref 135,.none,.ref 136,.ref 137,.ref 138,iV 360,iV 45,fC 361]
noncomputable def aAd (P:Params):Obj:=oF "need_fractions" "need_fractions" aS .none zS3 139
noncomputable def aAg (P:Params):Obj:=oC [.str "plus" 363,.str "plus" 364,fC 365,iV 49,iV 2,iV 0,iV 0,iV 3,.ref 141,.bool true,iV 181,.ref 142,.none,.ref 143,.ref 144,.ref 145,iV 368,iV 49,fC 369]
noncomputable def XR (P:Params):Obj:=oF "plus" "plus" kU .none zS3 146
noncomputable def WO (P:Params):Obj:=oC [.str "minus" 371,.str "minus" 372,fC 373,iV 52,iV 2,iV 0,iV 0,iV 3,.ref 148,.bool true,iV 181,.ref 149,.none,.ref 150,.ref 151,.ref 152,iV 376,iV 52,fC 377]
noncomputable def VZ (P:Params):Obj:=oF "minus" "minus" gW .none zS3 153
noncomputable def WR (P:Params):Obj:=oC [.str "times" 379,.str "times" 380,fC 381,iV 55,iV 2,iV 0,iV 0,iV 3,.ref 155,.bool true,iV 181,.ref 156,.none,.ref 157,.ref 158,.ref 159,iV 384,iV 55,fC 385]
noncomputable def YG (P:Params):Obj:=oF "times" "times" gS .none zS3 160
noncomputable def ZZ (P:Params):Obj:=oC [.str "over" 387,.str "over" 388,fC 389,iV 58,iV 2,iV 0,iV 0,iV 3,.ref 162,.bool true,iV 181,.ref 163,.none,.ref 164,.ref 165,.ref 166,iV 392,iV 58,fC 393]
noncomputable def XV (P:Params):Obj:=oF "over" "over" kA .none zS3 167
noncomputable def aAb (P:Params):Obj:=oC [.str "figures" 395,.str "figures" 396,fC 397,iV 63,iV 1,iV 0,iV 0,iV 3,.ref 169,.bool true,iV 181,.ref 170,.none,.ref 171,.ref 172,.ref 173,iV 401,iV 63,fC 402]
noncomputable def YF (P:Params):Obj:=oF "figures" "figures" dW .none zS3 174
noncomputable def ZN (P:Params):Obj:=oC [.str "written" 404,.str "written" 405,fC 406,iV 70,iV 1,iV 0,iV 0,iV 3,.ref 176,.bool true,iV 181,.ref 177,.none,.ref 178,.ref 179,.ref 180,iV 408,iV 70,fC 409]
noncomputable def ZW (P:Params):Obj:=oF "written" "written" eB .none zS3 181
noncomputable def ZV (P:Params):Obj:=oC [.str "is_share" 413,.str "is_share" 414,fC 415,iV 75,iV 1,iV 0,iV 0,iV 3,.ref 183,.bool true,iV 181,.ref 184,.none,.ref 185,.ref 186,.ref 187,iV 417,iV 75,fC 418]
noncomputable def aAl (P:Params):Obj:=oF "is_share" "is_share" cC .none zS2 188
noncomputable def VI (P:Params):Obj:=oC [.str "__init__" 432,.str "Shade.__init__" 433,fC 434,iV 79,iV 4,iV 0,iV 0,iV 3,.ref 197,.bool true,iV 181,.ref 198,.none,.ref 199,.ref 200,.ref 201,iV 441,iV 79,fC 442]
noncomputable def UP (P:Params):Obj:=oF "__init__" "Shade.__init__" aT .none zS2 202
noncomputable def XT (P:Params):Obj:=oC [.str "__eq__" 444,.str "Shade.__eq__" 445,fC 446,iV 87,iV 2,iV 0,iV 0,iV 3,.ref 204,.bool true,iV 181,.ref 205,.none,.ref 206,.ref 207,.ref 208,iV 449,iV 87,fC 450]
noncomputable def WX (P:Params):Obj:=oF "__eq__" "Shade.__eq__" bB .none zS2 209
noncomputable def XE (P:Params):Obj:=oC [.str "__len__" 452,.str "Shade.__len__" 453,fC 454,iV 90,iV 1,iV 0,iV 0,iV 3,.ref 211,.bool true,iV 181,.ref 212,.none,.none,.none,.ref 213,iV 455,iV 90,fC 456]
noncomputable def YM (P:Params):Obj:=oF "__len__" "Shade.__len__" aV .none zS2 214
noncomputable def WN (P:Params):Obj:=oC [.str "__str__" 458,.str "Shade.__str__" 459,fC 460,iV 93,iV 1,iV 0,iV 0,iV 3,.ref 216,.bool true,iV 181,.ref 217,.none,.none,.none,.ref 218,iV 461,iV 93,fC 462]
noncomputable def VM (P:Params):Obj:=oF "__str__" "Shade.__str__" aW .none zS2 219
noncomputable def ZI (P:Params):Obj:=oC [.str "__repr__" 464,.str "Shade.__repr__" 465,fC 466,iV 96,iV 1,iV 0,iV 0,iV 3,.ref 221,.bool true,iV 181,.ref 222,.none,.ref 223,.ref 224,.ref 225,iV 468,iV 96,fC 469]
noncomputable def aAR (P:Params):Obj:=oF "__repr__" "Shade.__repr__" aR .none zS2 226
noncomputable def aAe (P:Params):Obj:=⟨(.type "dict"),none,.dict #[kE P "__module__" 427 zS2,kE P "__firstlineno__" 431 (.int 77 430),kE P "__init__" 443 (.ref 203),kE P "__eq__" 451 (.ref 210),kE P "__len__" 457 (.ref 215),kE P "__str__" 463 (.ref 220),kE P "__repr__" 470 (.ref 227),kE P "__static_attributes__" 474 (.ref 228),kE P "__dict__" 476 (.ref 231),kE P "__weakref__" 478 (.ref 232),kE P "__doc__" 479 .none,kE P "__hash__" 480 .none] 5, #[]⟩
noncomputable def XD (P:Params):Obj:=⟨(.type "type"),none,.cls ⟨"Shade",[(.type "object")],[(.ref 230),(.type "object")],229,"Shade",true,[],[],false,none,false⟩, #[none,none,(some (.str "Shade" 420)),(some (.str "Shade" 428)),(some (.builtin "object.__new__")),(some (.bool true))]⟩
noncomputable def WK (P:Params):Obj:=oC [.str "is_shade" 483,.str "is_shade" 484,fC 485,iV 98,iV 1,iV 0,iV 0,iV 3,.ref 235,.bool true,iV 181,.ref 236,.none,.ref 237,.ref 238,.ref 239,iV 487,iV 98,fC 488]
noncomputable def YD (P:Params):Obj:=oF "is_shade" "is_shade" bZ .none zS2 240
noncomputable def UY (P:Params):Obj:=oC [.str "need_shade" 490,.str "need_shade" 491,fC 492,iV 100,iV 1,iV 0,iV 0,iV 3,.ref 242,.bool true,iV 181,.ref 243,.none,.ref 244,.ref 245,.ref 246,iV 494,iV 100,fC 495]
noncomputable def aAj (P:Params):Obj:=oF "need_shade" "need_shade" bJ .none zS2 247
noncomputable def aAr (P:Params):Obj:=oC [.str "shares_of" 497,.str "shares_of" 498,fC 499,iV 103,iV 1,iV 0,iV 0,iV 3,.ref 249,.bool true,iV 181,.ref 250,.none,.ref 251,.ref 252,.ref 253,iV 501,iV 103,fC 502]
noncomputable def YE (P:Params):Obj:=oF "shares_of" "shares_of" bR .none zS2 254
noncomputable def YK (P:Params):Obj:=oC [.str "shade_of" 504,.str "shade_of" 505,fC 506,iV 106,iV 1,iV 0,iV 0,iV 3,.ref 256,.bool true,iV 181,.ref 257,.none,.ref 258,.ref 259,.ref 260,iV 511,iV 106,fC 512]
noncomputable def aAi (P:Params):Obj:=oF "shade_of" "shade_of" cA .none zS2 261
noncomputable def aAW (P:Params):Obj:=oT [.int 1 518,.int 2 519]
noncomputable def US (P:Params):Obj:=oC [.str "part_of" 521,.str "part_of" 522,fC 523,iV 112,iV 1,iV 0,iV 0,iV 3,.ref 264,.bool true,iV 181,.ref 265,.none,.ref 266,.ref 267,.ref 268,iV 525,iV 112,fC 526]
noncomputable def YH (P:Params):Obj:=oF "part_of" "part_of" eC .none zS1 269
noncomputable def WF (P:Params):Obj:=oC [.str "toward" 528,.str "toward" 529,fC 530,iV 118,iV 3,iV 0,iV 0,iV 3,.ref 271,.bool true,iV 181,.ref 272,.none,.none,.none,.ref 273,iV 531,iV 118,fC 532]
noncomputable def ZH (P:Params):Obj:=oF "toward" "toward" fI .none zS1 274
noncomputable def aJn (P:Params):Obj:=oT [.none]
noncomputable def aDB (P:Params):Obj:=oC [.str "lighter" 534,.str "lighter" 535,fC 536,iV 120,iV 2,iV 0,iV 0,iV 3,.ref 277,.bool true,iV 181,.ref 278,.none,.ref 279,.ref 280,.ref 281,iV 539,iV 120,fC 540]
noncomputable def aEf (P:Params):Obj:=oF "lighter" "lighter" dM (.ref 276) zS1 282
noncomputable def aIp (P:Params):Obj:=oT [.none]
noncomputable def aDU (P:Params):Obj:=oC [.str "darker" 542,.str "darker" 543,fC 544,iV 123,iV 2,iV 0,iV 0,iV 3,.ref 285,.bool true,iV 181,.ref 286,.none,.ref 287,.ref 288,.ref 289,iV 547,iV 123,fC 548]
noncomputable def aEA (P:Params):Obj:=oF "darker" "darker" eW (.ref 284) zS1 290
noncomputable def aJp (P:Params):Obj:=oT [.none]
noncomputable def aDF (P:Params):Obj:=oC [.str "duller" 550,.str "duller" 551,fC 552,iV 126,iV 2,iV 0,iV 0,iV 3,.ref 293,.bool true,iV 181,.ref 294,.none,.ref 295,.ref 296,.ref 297,iV 557,iV 126,fC 558]
noncomputable def aDY (P:Params):Obj:=oF "duller" "duller" fF (.ref 292) zS1 298
noncomputable def EH (P:Params):Obj:=oT [.none]
noncomputable def aDG (P:Params):Obj:=oC [.str "turned" 560,.str "turned" 561,fC 562,iV 131,iV 2,iV 0,iV 0,iV 3,.ref 301,.bool true,iV 181,.ref 302,.none,.none,.none,.ref 303,iV 563,iV 131,fC 564]
noncomputable def aEt (P:Params):Obj:=oF "turned" "turned" fG (.ref 300) zS1 304
noncomputable def aED (P:Params):Obj:=oC [.str "opposite" 566,.str "opposite" 567,fC 568,iV 139,iV 1,iV 0,iV 0,iV 3,.ref 306,.bool true,iV 181,.ref 307,.none,.none,.none,.ref 308,iV 569,iV 139,fC 570]
noncomputable def aDR (P:Params):Obj:=oF "opposite" "opposite" cH .none zS1 309
noncomputable def aDx (P:Params):Obj:=⟨(.type "dict"),none,.dict #[kE P "lighter" 572 (.ref 283),kE P "darker" 573 (.ref 291),kE P "duller" 574 (.ref 299),kE P "turned" 575 (.ref 305)] 4, #[]⟩
noncomputable def aEK (P:Params):Obj:=oC [.str "is_by" 581,.str "is_by" 582,fC 583,iV 142,iV 2,iV 0,iV 0,iV 3,.ref 312,.bool true,iV 181,.ref 313,.none,.ref 314,.ref 315,.ref 316,iV 586,iV 142,fC 587]
noncomputable def aEk (P:Params):Obj:=oF "is_by" "is_by" gX .none zS1 317
noncomputable def aDM (P:Params):Obj:=oC [.str "is_deed" 589,.str "is_deed" 590,fC 591,iV 148,iV 1,iV 0,iV 0,iV 3,.ref 319,.bool true,iV 181,.ref 320,.none,.ref 321,.ref 322,.ref 323,iV 594,iV 148,fC 595]
noncomputable def aDD (P:Params):Obj:=oF "is_deed" "is_deed" dJ .none zS1 324
noncomputable def aDK (P:Params):Obj:=oC [.str "need_deeds" 597,.str "need_deeds" 598,fC 599,iV 157,iV 1,iV 0,iV 0,iV 3,.ref 326,.bool true,iV 181,.ref 327,.none,.ref 328,.ref 329,.ref 330,iV 603,iV 157,fC 604]
noncomputable def aEH (P:Params):Obj:=oF "need_deeds" "need_deeds" bH .none zS1 331
noncomputable def aEb (P:Params):Obj:=oC [.str "do_one" 606,.str "do_one" 607,fC 608,iV 163,iV 2,iV 0,iV 0,iV 3,.ref 333,.bool true,iV 181,.ref 334,.none,.ref 335,.ref 336,.ref 337,iV 612,iV 163,fC 613]
noncomputable def aEm (P:Params):Obj:=oF "do_one" "do_one" eY .none zS1 338
noncomputable def aEF (P:Params):Obj:=oC [.str "done" 615,.str "done" 616,fC 617,iV 170,iV 2,iV 0,iV 0,iV 3,.ref 340,.bool true,iV 181,.ref 341,.none,.ref 342,.ref 343,.ref 344,iV 621,iV 170,fC 622]
noncomputable def aE4 (P:Params):Obj:=oF "done" "done" kW .none zS1 345
noncomputable def aEN (P:Params):Obj:=oC [.str "_law_cell" 626,.str "_law_cell" 627,fC 628,iV 177,iV 2,iV 0,iV 0,iV 3,.ref 347,.bool true,iV 181,.ref 348,.none,.ref 349,.ref 350,.ref 351,iV 633,iV 177,fC 634]
noncomputable def aDw (P:Params):Obj:=oF "_law_cell" "_law_cell" fM .none zS0 352
noncomputable def aE6 (P:Params):Obj:=oC [.str "_law_purse" 636,.str "_law_purse" 637,fC 638,iV 184,iV 1,iV 0,iV 0,iV 3,.ref 354,.bool true,iV 181,.ref 355,.none,.ref 356,.ref 357,.ref 358,iV 640,iV 184,fC 641]
noncomputable def aEY (P:Params):Obj:=oF "_law_purse" "_law_purse" dQ .none zS0 359
noncomputable def aDX (P:Params):Obj:=oC [.str "_law_pick" 643,.str "_law_pick" 644,fC 645,iV 186,iV 2,iV 0,iV 0,iV 3,.ref 361,.bool true,iV 181,.ref 362,.none,.ref 363,.ref 364,.ref 365,iV 650,iV 186,fC 651]
noncomputable def aEd (P:Params):Obj:=oF "_law_pick" "_law_pick" eZ .none zS0 366
noncomputable def aDJ (P:Params):Obj:=oC [.str "_law_whole" 653,.str "_law_whole" 654,fC 655,iV 195,iV 1,iV 0,iV 0,iV 3,.ref 368,.bool true,iV 181,.ref 369,.none,.ref 370,.ref 371,.ref 372,iV 657,iV 195,fC 658]
noncomputable def aEl (P:Params):Obj:=oF "_law_whole" "_law_whole" dL .none zS0 373
noncomputable def aEQ (P:Params):Obj:=oC [.str "_law_low" 660,.str "_law_low" 661,fC 662,iV 197,iV 2,iV 0,iV 0,iV 3,.ref 375,.bool true,iV 181,.ref 376,.none,.ref 377,.ref 378,.ref 379,iV 667,iV 197,fC 668]
noncomputable def aEI (P:Params):Obj:=oF "_law_low" "_law_low" gU .none zS0 380
noncomputable def aEx (P:Params):Obj:=oC [.str "_law_plus" 670,.str "_law_plus" 671,fC 672,iV 204,iV 2,iV 0,iV 0,iV 3,.ref 382,.bool true,iV 181,.ref 383,.none,.ref 384,.ref 385,.ref 386,iV 675,iV 204,fC 676]
noncomputable def aE1 (P:Params):Obj:=oF "_law_plus" "_law_plus" fL .none zS0 387
noncomputable def aEL (P:Params):Obj:=oC [.str "_law_minus" 678,.str "_law_minus" 679,fC 680,iV 206,iV 2,iV 0,iV 0,iV 3,.ref 389,.bool true,iV 181,.ref 390,.none,.ref 391,.ref 392,.ref 393,iV 683,iV 206,fC 684]
noncomputable def aDZ (P:Params):Obj:=oF "_law_minus" "_law_minus" dP .none zS0 394
noncomputable def aEB (P:Params):Obj:=oC [.str "_law_times" 686,.str "_law_times" 687,fC 688,iV 208,iV 2,iV 0,iV 0,iV 3,.ref 396,.bool true,iV 181,.ref 397,.none,.ref 398,.ref 399,.ref 400,iV 691,iV 208,fC 692]
noncomputable def aD4 (P:Params):Obj:=oF "_law_times" "_law_times" eA .none zS0 401
noncomputable def aEo (P:Params):Obj:=oC [.str "_law_is_fraction" 694,.str "_law_is_fraction" 695,fC 696,iV 210,iV 1,iV 0,iV 0,iV 3,.ref 403,.bool true,iV 181,.ref 404,.none,.ref 405,.ref 406,.ref 407,iV 698,iV 210,fC 699]
noncomputable def aEW (P:Params):Obj:=oF "_law_is_fraction" "_law_is_fraction" aY .none zS0 408
noncomputable def aE2 (P:Params):Obj:=oC [.str "_law_text" 701,.str "_law_text" 702,fC 703,iV 214,iV 1,iV 0,iV 0,iV 3,.ref 410,.bool true,iV 181,.ref 411,.none,.ref 412,.ref 413,.ref 414,iV 705,iV 214,fC 706]
noncomputable def aEn (P:Params):Obj:=oF "_law_text" "_law_text" fE .none zS0 415
noncomputable def aD2 (P:Params):Obj:=oC [.str "_law_share" 708,.str "_law_share" 709,fC 710,iV 216,iV 1,iV 0,iV 0,iV 3,.ref 417,.bool true,iV 181,.ref 418,.none,.ref 419,.ref 420,.ref 421,iV 714,iV 216,fC 715]
noncomputable def aEc (P:Params):Obj:=oF "_law_share" "_law_share" dY .none zS0 422
noncomputable def aEw (P:Params):Obj:=oC [.str "_law_plain_share" 717,.str "_law_plain_share" 718,fC 719,iV 220,iV 1,iV 0,iV 0,iV 3,.ref 424,.bool true,iV 181,.ref 425,.none,.ref 426,.ref 427,.ref 428,iV 721,iV 220,fC 722]
noncomputable def aDN (P:Params):Obj:=oF "_law_plain_share" "_law_plain_share" aX .none zS0 429
noncomputable def aDO (P:Params):Obj:=oC [.str "_law_shares" 724,.str "_law_shares" 725,fC 726,iV 222,iV 1,iV 0,iV 0,iV 3,.ref 431,.bool true,iV 181,.ref 432,.none,.none,.none,.ref 433,iV 727,iV 222,fC 728]
noncomputable def aEJ (P:Params):Obj:=oF "_law_shares" "_law_shares" cD .none zS0 434
noncomputable def aE0 (P:Params):Obj:=oC [.str "_law_made" 730,.str "_law_made" 731,fC 732,iV 230,iV 2,iV 0,iV 0,iV 3,.ref 436,.bool true,iV 181,.ref 437,.none,.ref 438,.ref 439,.ref 440,iV 735,iV 230,fC 736]
noncomputable def aEG (P:Params):Obj:=oF "_law_made" "_law_made" fN .none zS0 441
noncomputable def aDy (P:Params):Obj:=oC [.str "_law_deed" 738,.str "_law_deed" 739,fC 740,iV 234,iV 3,iV 0,iV 0,iV 3,.ref 443,.bool true,iV 181,.ref 444,.none,.none,.none,.ref 445,iV 741,iV 234,fC 742]
noncomputable def aEZ (P:Params):Obj:=oF "_law_deed" "_law_deed" fA .none zS0 446
noncomputable def aEM (P:Params):Obj:=oC [.str "_law_by" 744,.str "_law_by" 745,fC 746,iV 251,iV 2,iV 0,iV 0,iV 3,.ref 448,.bool true,iV 181,.ref 449,.none,.ref 450,.ref 451,.ref 452,iV 751,iV 251,fC 752]
noncomputable def aE7 (P:Params):Obj:=oF "_law_by" "_law_by" jS .none zS0 453
noncomputable def aEp (P:Params):Obj:=oC [.str "_law_is" 754,.str "_law_is" 755,fC 756,iV 257,iV 2,iV 0,iV 0,iV 3,.ref 455,.bool true,iV 181,.ref 456,.none,.none,.none,.ref 457,iV 757,iV 257,fC 758]
noncomputable def aDH (P:Params):Obj:=oF "_law_is" "_law_is" jX .none zS0 458
noncomputable def aER (P:Params):Obj:=oC [.str "_law_deeds" 760,.str "_law_deeds" 761,fC 762,iV 267,iV 2,iV 0,iV 0,iV 3,.ref 460,.bool true,iV 181,.ref 461,.none,.ref 462,.ref 463,.ref 464,iV 770,iV 267,fC 771]
noncomputable def aEC (P:Params):Obj:=oF "_law_deeds" "_law_deeds" dN .none zS0 465
noncomputable def aDA (P:Params):Obj:=oC [.str "_law_done" 773,.str "_law_done" 774,fC 775,iV 278,iV 2,iV 0,iV 0,iV 3,.ref 467,.bool true,iV 181,.ref 468,.none,.ref 469,.ref 470,.ref 471,iV 779,iV 278,fC 780]
noncomputable def aD3 (P:Params):Obj:=oF "_law_done" "_law_done" fK .none zS0 472
noncomputable def aEy (P:Params):Obj:=oC [.str "_law_right" 782,.str "_law_right" 783,fC 784,iV 282,iV 4,iV 0,iV 0,iV 3,.ref 474,.bool true,iV 181,.ref 475,.none,.ref 476,.ref 477,.ref 478,iV 793,iV 282,fC 794]
noncomputable def aEs (P:Params):Obj:=oF "_law_right" "_law_right" dX .none zS0 479
noncomputable def aEv (P:Params):Obj:=oC [.str "_law_short" 796,.str "_law_short" 797,fC 798,iV 290,iV 1,iV 0,iV 0,iV 3,.ref 481,.bool true,iV 181,.ref 482,.none,.ref 483,.ref 484,.ref 485,iV 803,iV 290,fC 804]
noncomputable def aD9 (P:Params):Obj:=oF "_law_short" "_law_short" dZ .none zS0 486
noncomputable def aEO (P:Params):Obj:=oC [.str "law" 806,.str "law" 807,fC 808,iV 297,iV 1,iV 0,iV 0,iV 3,.ref 488,.bool true,iV 181,.ref 489,.none,.none,.none,.ref 490,iV 809,iV 297,fC 810]
noncomputable def aDS (P:Params):Obj:=oF "law" "law" mL .none zS0 491
noncomputable def K0:Params→W.Frag:=fun P=>[(3,ko3 P),(23,aC1 P),(24,aBt P),(43,aCF P),(44,aCx P),(62,aBe P),(63,aBi P),(81,aBf P),(82,aBs P),(100,OI P),(101,MS P),(104,UL P),(105,UR P),(111,VQ P),(112,WP P),(118,aAD P),(119,aAP P),(125,aAC P),(126,VB P),(132,aAt P),(133,ZK P),(139,ZX P),(140,aAd P),(146,aAg P),(147,XR P),(153,WO P),(154,VZ P),(160,WR P),(161,YG P),(167,ZZ P),(168,XV P),(174,aAb P),(175,YF P),(181,ZN P),(182,ZW P),(188,ZV P),(189,aAl P),(202,VI P),(203,UP P),(209,XT P),(210,WX P),(214,XE P),(215,YM P),(219,WN P),(220,VM P),(226,ZI P),(227,aAR P),(229,aAe P),(230,XD P),(240,WK P),(241,YD P),(247,UY P),(248,aAj P),(254,aAr P),(255,YE P),(261,YK P),(262,aAi P),(263,aAW P),(269,US P),(270,YH P),(274,WF P),(275,ZH P),(276,aJn P),(282,aDB P),(283,aEf P),(284,aIp P),(290,aDU P),(291,aEA P),(292,aJp P),(298,aDF P),(299,aDY P),(300,EH P),(304,aDG P),(305,aEt P),(309,aED P),(310,aDR P),(311,aDx P),(317,aEK P),(318,aEk P),(324,aDM P),(325,aDD P),(331,aDK P),(332,aEH P),(338,aEb P),(339,aEm P),(345,aEF P),(346,aE4 P),(352,aEN P),(353,aDw P),(359,aE6 P),(360,aEY P),(366,aDX P),(367,aEd P),(373,aDJ P),(374,aEl P),(380,aEQ P),(381,aEI P),(387,aEx P),(388,aE1 P),(394,aEL P),(395,aDZ P),(401,aEB P),(402,aD4 P),(408,aEo P),(409,aEW P),(415,aE2 P),(416,aEn P),(422,aD2 P),(423,aEc P),(429,aEw P),(430,aDN P),(434,aDO P),(435,aEJ P),(441,aE0 P),(442,aEG P),(446,aDy P),(447,aEZ P),(453,aEM P),(454,aE7 P),(458,aEp P),(459,aDH P),(465,aER P),(466,aEC P),(472,aDA P),(473,aD3 P),(479,aEy P),(480,aEs P),(486,aEv P),(487,aD9 P),(491,aEO P),(492,aDS P)]
noncomputable def aK:List Addr:=[3,23,24,43,44,62,63,81,82,100,101,104,105,111,112,118,119,125,126,132,133,139,140,146,147,153,154,160,161,167,168,174,175,181,182,188,189,202,203,209,210,214,215,219,220,226,227,229,230,240,241,247,248,254,255,261,262,263,269,270,274,275,276,282,283,284,290,291,292,298,299,300,304,305,309,310,311,317,318,324,325,331,332,338,339,345,346,352,353,359,360,366,367,373,374,380,381,387,388,394,395,401,402,408,409,415,416,422,423,429,430,434,435,441,442,446,447,453,454,458,459,465,466,472,473,479,480,486,487,491,492]
noncomputable def qv:Program:={ PySem.Challenge.pw_lightshares_k08_deeds_by_name_in_turn with main:={ PySem.Challenge.pw_lightshares_k08_deeds_by_name_in_turn.main with body:=[top 67] } }
noncomputable def lo:List Str:=(["ShadeError","NoNumber","NoShade","NoPart","NoDeed","ZERO","ONE","PIECE_FIGURES","PIECE","is_whole","common","is_fraction","lowest","need_fractions","plus","minus","times","over","figures","written","is_share","Shade","is_shade","need_shade","shares_of","shade_of","MOST_DEEDS","HALF","part_of","toward","lighter","darker","duller","turned","opposite","BY_WORD","is_by","is_deed","need_deeds","do_one","done","_law_cell","_law_purse","_law_pick","_law_whole","_law_low","_law_plus","_law_minus","_law_times","_law_is_fraction","_law_text","_law_share","_law_plain_share","_law_shares","_law_made","_law_deed","_law_by","_law_is","_law_deeds","_law_done","_law_right","_law_short"]:List String).map Str.ofString
noncomputable def nmS:List Str:=(["is_whole","common","is_fraction","lowest","need_fractions","plus","minus","times","over","below","nearest_whole","is_share","Shade","Shade.__init__","is_shade","need_shade","shares_of","shade_of","is_grade","need_grade","is_step","need_step","printed","span_of","_law_cell","_law_purse","_law_pick","_law_whole","_law_low","_law_plus","_law_minus","_law_times","_law_over","_law_below","_law_is_fraction","_law_share","_law_shares","_law_made","figures","written","Shade.__str__","Shade.__repr__","Shade.__len__","Shade.__eq__","_law_text","_law_is","part_of","toward","lighter","darker","duller","opposite","turned","is_by","is_deed","need_deeds","do_one","done","_law_plain_share","_law_deed","_law_by","_law_deeds","_law_short","_law_done","_law_right","law"]:List String).map Str.ofString
noncomputable def pkS:Nat→Sp3
  | 0=>cV
  | 1=>mG
  | 2=>jE
  | 3=>bV
  | 4=>rN
  | 5=>gO
  | 6=>eM
  | 7=>dR
  | 8=>jR
  | 9=>kQ
  | 10=>BA
  | 11=>eU
  | 12=>nA
  | 13=>pR
  | 14=>gZ
  | 15=>iP
  | 16=>bG
  | 17=>gY
  | 18=>CJ
  | 19=>pL
  | 20=>pH
  | 21=>jU
  | 22=>tI
  | 23=>LY
  | 24=>uG
  | 25=>mQ
  | 26=>kN
  | 27=>cV
  | 28=>bV
  | 29=>gO
  | 30=>eM
  | 31=>dR
  | 32=>jR
  | 33=>kQ
  | 34=>jK
  | 35=>jC
  | 36=>mT
  | 37=>BJ
  | 38=>EF
  | 39=>QX
  | 40=>wY
  | 41=>wI
  | 42=>xZ
  | 43=>uS
  | 44=>wU
  | 45=>GI
  | 46=>pJ
  | 47=>xQ
  | 48=>bU (fun _=>1)
  | 49=>bU (fun _=>0)
  | 50=>bU md
  | 51=>wA
  | 52=>rY
  | 53=>wS
  | 54=>lT
  | 55=>rG
  | 56=>rF
  | 57=>wX
  | 58=>rO
  | 59=>pY
  | 60=>OH
  | 61=>rM
  | 62=>rW
  | 63=>pS
  | 64=>pM
  | 65=>CP
  | _=>fun _ _ _=>False
noncomputable def nmG:List Str:=(["ONE","ZERO","MOST_GRADE","Shade","int","bool","tuple","MOST_DEEDS","HALF","PIECE","PIECE_FIGURES","str"]:List String).map Str.ofString
noncomputable def pkG:Nat→PV
  | 0=>FQ 1
  | 1=>FQ 0
  | 2=>.int 1000
  | 3=>.cl "Shade"
  | 4=>.ty "int"
  | 5=>.ty "bool"
  | 6=>.ty "tuple"
  | 7=>.int 20
  | 8=>.tup [.int 1,.int 2]
  | 9=>.int (10 ^ 64)
  | 10=>.int 64
  | 11=>.ty "str"
  | _=>.non
noncomputable def T:Tb:=⟨fun f=>pkS (nmS.idxOf f),fun f=>pkG (nmG.idxOf f),["Shade"],[("Shade","ember"),("Shade","leaf"),("Shade","sky")]⟩
theorem yE:T.S "is_whole"=cV:=congrArg pkS (by decide +kernel:nmS.idxOf ("is_whole":Str)=0)
theorem EJ:T.S "common"=mG:=congrArg pkS (by decide +kernel:nmS.idxOf ("common":Str)=1)
theorem nL:T.S "is_fraction"=jE:=congrArg pkS (by decide +kernel:nmS.idxOf ("is_fraction":Str)=2)
theorem GM:T.S "lowest"=bV:=congrArg pkS (by decide +kernel:nmS.idxOf ("lowest":Str)=3)
theorem jM:T.S "need_fractions"=rN:=congrArg pkS (by decide +kernel:nmS.idxOf ("need_fractions":Str)=4)
theorem XZ:T.S "plus"=gO:=congrArg pkS (by decide +kernel:nmS.idxOf ("plus":Str)=5)
theorem MY:T.S "minus"=eM:=congrArg pkS (by decide +kernel:nmS.idxOf ("minus":Str)=6)
theorem MX:T.S "times"=dR:=congrArg pkS (by decide +kernel:nmS.idxOf ("times":Str)=7)
theorem YR:T.S "over"=jR:=congrArg pkS (by decide +kernel:nmS.idxOf ("over":Str)=8)
theorem aC7:T.S "below"=kQ:=congrArg pkS (by decide +kernel:nmS.idxOf ("below":Str)=9)
theorem vD:T.S "nearest_whole"=BA:=congrArg pkS (by decide +kernel:nmS.idxOf ("nearest_whole":Str)=10)
theorem wH:T.S "is_share"=eU:=congrArg pkS (by decide +kernel:nmS.idxOf ("is_share":Str)=11)
theorem aCB:T.S "Shade"=nA:=congrArg pkS (by decide +kernel:nmS.idxOf ("Shade":Str)=12)
theorem jH:T.S "Shade.__init__"=pR:=congrArg pkS (by decide +kernel:nmS.idxOf ("Shade.__init__":Str)=13)
theorem wO:T.S "is_shade"=gZ:=congrArg pkS (by decide +kernel:nmS.idxOf ("is_shade":Str)=14)
theorem pP:T.S "need_shade"=iP:=congrArg pkS (by decide +kernel:nmS.idxOf ("need_shade":Str)=15)
theorem uW:T.S "shares_of"=bG:=congrArg pkS (by decide +kernel:nmS.idxOf ("shares_of":Str)=16)
theorem xR:T.S "shade_of"=gY:=congrArg pkS (by decide +kernel:nmS.idxOf ("shade_of":Str)=17)
theorem KS:T.S "is_grade"=CJ:=congrArg pkS (by decide +kernel:nmS.idxOf ("is_grade":Str)=18)
theorem DJ:T.S "need_grade"=pL:=congrArg pkS (by decide +kernel:nmS.idxOf ("need_grade":Str)=19)
theorem SE:T.S "is_step"=pH:=congrArg pkS (by decide +kernel:nmS.idxOf ("is_step":Str)=20)
theorem DV:T.S "need_step"=jU:=congrArg pkS (by decide +kernel:nmS.idxOf ("need_step":Str)=21)
theorem QD:T.S "printed"=tI:=congrArg pkS (by decide +kernel:nmS.idxOf ("printed":Str)=22)
theorem QT:T.S "span_of"=LY:=congrArg pkS (by decide +kernel:nmS.idxOf ("span_of":Str)=23)
theorem FL:T.S "_law_cell"=uG:=congrArg pkS (by decide +kernel:nmS.idxOf ("_law_cell":Str)=24)
theorem zR:T.S "_law_purse"=mQ:=congrArg pkS (by decide +kernel:nmS.idxOf ("_law_purse":Str)=25)
theorem FD:T.S "_law_pick"=kN:=congrArg pkS (by decide +kernel:nmS.idxOf ("_law_pick":Str)=26)
theorem AK:T.S "_law_whole"=cV:=congrArg pkS (by decide +kernel:nmS.idxOf ("_law_whole":Str)=27)
theorem OK:T.S "_law_low"=bV:=congrArg pkS (by decide +kernel:nmS.idxOf ("_law_low":Str)=28)
theorem EM:T.S "_law_plus"=gO:=congrArg pkS (by decide +kernel:nmS.idxOf ("_law_plus":Str)=29)
theorem AU:T.S "_law_minus"=eM:=congrArg pkS (by decide +kernel:nmS.idxOf ("_law_minus":Str)=30)
theorem AA:T.S "_law_times"=dR:=congrArg pkS (by decide +kernel:nmS.idxOf ("_law_times":Str)=31)
theorem XS:T.S "_law_over"=jR:=congrArg pkS (by decide +kernel:nmS.idxOf ("_law_over":Str)=32)
theorem OX:T.S "_law_below"=kQ:=congrArg pkS (by decide +kernel:nmS.idxOf ("_law_below":Str)=33)
theorem lH:T.S "_law_is_fraction"=jK:=congrArg pkS (by decide +kernel:nmS.idxOf ("_law_is_fraction":Str)=34)
theorem AF:T.S "_law_share"=jC:=congrArg pkS (by decide +kernel:nmS.idxOf ("_law_share":Str)=35)
theorem wM:T.S "_law_shares"=mT:=congrArg pkS (by decide +kernel:nmS.idxOf ("_law_shares":Str)=36)
theorem ED:T.S "_law_made"=BJ:=congrArg pkS (by decide +kernel:nmS.idxOf ("_law_made":Str)=37)
theorem AV:T.S "figures"=EF:=congrArg pkS (by decide +kernel:nmS.idxOf ("figures":Str)=38)
theorem zO:T.S "written"=QX:=congrArg pkS (by decide +kernel:nmS.idxOf ("written":Str)=39)
theorem lG:T.S "Shade.__str__"=wY:=congrArg pkS (by decide +kernel:nmS.idxOf ("Shade.__str__":Str)=40)
theorem jI:T.S "Shade.__repr__"=wI:=congrArg pkS (by decide +kernel:nmS.idxOf ("Shade.__repr__":Str)=41)
theorem lD:T.S "Shade.__len__"=xZ:=congrArg pkS (by decide +kernel:nmS.idxOf ("Shade.__len__":Str)=42)
theorem lZ:T.S "Shade.__eq__"=uS:=congrArg pkS (by decide +kernel:nmS.idxOf ("Shade.__eq__":Str)=43)
theorem HM:T.S "_law_text"=wU:=congrArg pkS (by decide +kernel:nmS.idxOf ("_law_text":Str)=44)
theorem YY:T.S "_law_is"=GI:=congrArg pkS (by decide +kernel:nmS.idxOf ("_law_is":Str)=45)
theorem AI:T.S "part_of"=pJ:=congrArg pkS (by decide +kernel:nmS.idxOf ("part_of":Str)=46)
theorem HD:T.S "toward"=xQ:=congrArg pkS (by decide +kernel:nmS.idxOf ("toward":Str)=47)
theorem zY:T.S "lighter"=bU (fun _=>1):=congrArg pkS (by decide +kernel:nmS.idxOf ("lighter":Str)=48)
theorem GY:T.S "darker"=bU (fun _=>0):=congrArg pkS (by decide +kernel:nmS.idxOf ("darker":Str)=49)
theorem GV:T.S "duller"=bU md:=congrArg pkS (by decide +kernel:nmS.idxOf ("duller":Str)=50)
theorem xY:T.S "opposite"=wA:=congrArg pkS (by decide +kernel:nmS.idxOf ("opposite":Str)=51)
theorem DU:T.S "turned"=rY:=congrArg pkS (by decide +kernel:nmS.idxOf ("turned":Str)=52)
theorem MW:T.S "is_by"=wS:=congrArg pkS (by decide +kernel:nmS.idxOf ("is_by":Str)=53)
theorem zI:T.S "is_deed"=lT:=congrArg pkS (by decide +kernel:nmS.idxOf ("is_deed":Str)=54)
theorem rR:T.S "need_deeds"=rG:=congrArg pkS (by decide +kernel:nmS.idxOf ("need_deeds":Str)=55)
theorem HA:T.S "do_one"=rF:=congrArg pkS (by decide +kernel:nmS.idxOf ("do_one":Str)=56)
theorem aAX:T.S "done"=wX:=congrArg pkS (by decide +kernel:nmS.idxOf ("done":Str)=57)
theorem lI:T.S "_law_plain_share"=rO:=congrArg pkS (by decide +kernel:nmS.idxOf ("_law_plain_share":Str)=58)
theorem EC:T.S "_law_deed"=pY:=congrArg pkS (by decide +kernel:nmS.idxOf ("_law_deed":Str)=59)
theorem UW:T.S "_law_by"=OH:=congrArg pkS (by decide +kernel:nmS.idxOf ("_law_by":Str)=60)
theorem AE:T.S "_law_deeds"=rM:=congrArg pkS (by decide +kernel:nmS.idxOf ("_law_deeds":Str)=61)
theorem AL:T.S "_law_short"=rW:=congrArg pkS (by decide +kernel:nmS.idxOf ("_law_short":Str)=62)
theorem HI:T.S "_law_done"=pS:=congrArg pkS (by decide +kernel:nmS.idxOf ("_law_done":Str)=63)
theorem AW:T.S "_law_right"=pM:=congrArg pkS (by decide +kernel:nmS.idxOf ("_law_right":Str)=64)
theorem aEg:T.S "law"=CP:=congrArg pkS (by decide +kernel:nmS.idxOf ("law":Str)=65)
theorem WD:T.gv "ONE"=FQ 1:=congrArg pkG (by decide +kernel:nmG.idxOf ("ONE":Str)=0)
theorem aAq:T.gv "ZERO"=FQ 0:=congrArg pkG (by decide +kernel:nmG.idxOf ("ZERO":Str)=1)
theorem CW:T.gv "MOST_GRADE"= .int 1000:=congrArg pkG (by decide +kernel:nmG.idxOf ("MOST_GRADE":Str)=2)
theorem kT:T.gv "Shade"= .cl "Shade":=congrArg pkG (by decide +kernel:nmG.idxOf ("Shade":Str)=3)
theorem zM:T.gv "int"= .ty "int":=congrArg pkG (by decide +kernel:nmG.idxOf ("int":Str)=4)
theorem BP:T.gv "bool"= .ty "bool":=congrArg pkG (by decide +kernel:nmG.idxOf ("bool":Str)=5)
theorem gC:T.gv "tuple"= .ty "tuple":=congrArg pkG (by decide +kernel:nmG.idxOf ("tuple":Str)=6)
theorem rX:T.gv "MOST_DEEDS"= .int 20:=congrArg pkG (by decide +kernel:nmG.idxOf ("MOST_DEEDS":Str)=7)
theorem XN:T.gv "HALF"= .tup [.int 1,.int 2]:=congrArg pkG (by decide +kernel:nmG.idxOf ("HALF":Str)=8)
theorem MU:T.gv "PIECE"= .int (10 ^ 64):=congrArg pkG (by decide +kernel:nmG.idxOf ("PIECE":Str)=9)
theorem lC:T.gv "PIECE_FIGURES"= .int 64:=congrArg pkG (by decide +kernel:nmG.idxOf ("PIECE_FIGURES":Str)=10)
theorem zZ:T.gv "str"= .ty "str":=congrArg pkG (by decide +kernel:nmG.idxOf ("str":Str)=11)
theorem hPT:PT T:={ is_whole:=yE,common:=EJ,is_fraction:=nL,lowest:=GM,need_fractions:=jM,plus:=XZ,minus:=MY,times:=MX,over:=YR,below:=aC7,nearest_whole:=vD,is_share:=wH,shade:=aCB,shadeI:=jH,is_shade:=wO,need_shade:=pP,shares_of:=uW,shade_of:=xR,is_grade:=KS,need_grade:=DJ,is_step:=SE,need_step:=DV,printed:=QD,span_of:=QT,gv_ONE:=WD,gv_ZERO:=aAq,gv_MOST_GRADE:=CW,gv_Shade:=kT,cs:=by decide +kernel,fl_e:=by decide +kernel,fl_l:=by decide +kernel,fl_s:=by decide +kernel,ty_int:=zM,ty_bool:=BP,ty_tuple:=gC }
theorem hLT:LT T:={ cell:=FL,purse:=zR,pick:=FD,whole:=AK,low:=OK,plus:=EM,minus:=AU,times:=AA,over:=XS,below:=OX,is_fraction:=lH,share:=AF,shares:=wM }
theorem hLM:LM T:={ made:=ED }
theorem hL8:L8 T:={ figures:=AV,written:=zO,strS:=lG,repS:=jI,lenS:=lD,eqS:=lZ,text:=HM,is_:=YY,part_of:=AI,toward:=HD,lighter:=zY,darker:=GY,duller:=GV,opposite:=xY,turned:=DU,is_by:=MW,is_deed:=zI,need_deeds:=rR,do_one:=HA,done:=aAX,plain:=lI,deed:=EC,by_:=UW,deeds:=AE,short_:=AL,doneL:=HI,right:=AW,gv_MD:=rX,gv_HALF:=XN,gv_PIECE:=MU,gv_PF:=lC,ty_str:=zZ }
noncomputable def aAk (a:Nat→Addr) (c:String):Addr:=if c="Shade" then a 55 else 0
theorem aF {a:Nat→Addr}:aAk a "Shade"=a 55:=by unfold aAk; simp
structure Tx (w:World) (K:W.Frag) (mg:Str→Option Value) (a:Nat→Addr) (d:Nat→FuncData) (v:Nat→Value):Prop where
  qa:bA K "common" "common" eX (.none) (a 0) (d 0)
  qb:mg "common"=some (.ref (a 0))
  qc:bA K "is_whole" "is_whole" cF (.none) (a 1) (d 1)
  qd:mg "is_whole"=some (.ref (a 1))
  qe:bA K "is_fraction" "is_fraction" bD (.none) (a 2) (d 2)
  qf:mg "is_fraction"=some (.ref (a 2))
  qg:bA K "is_share" "is_share" cC (.none) (a 3) (d 3)
  qh:mg "is_share"=some (.ref (a 3))
  qi:bA K "__init__" "Shade.__init__" aT (.none) (a 4) (d 4)
  qj:bA K "_law_cell" "_law_cell" fM (.none) (a 5) (d 5)
  qk:mg "_law_cell"=some (.ref (a 5))
  ql:bA K "_law_pick" "_law_pick" eZ (.none) (a 6) (d 6)
  qm:mg "_law_pick"=some (.ref (a 6))
  qo:bA K "_law_low" "_law_low" gU (.none) (a 7) (d 7)
  qp:mg "_law_low"=some (.ref (a 7))
  qq:bA K "_law_plain_share" "_law_plain_share" aX (.none) (a 8) (d 8)
  qr:mg "_law_plain_share"=some (.ref (a 8))
  qt:bA K "_law_share" "_law_share" dY (.none) (a 9) (d 9)
  qu:mg "_law_share"=some (.ref (a 9))
  qw:bA K "_law_by" "_law_by" jS (.none) (a 10) (d 10)
  qx:mg "_law_by"=some (.ref (a 10))
  qy:bA K "_law_deeds" "_law_deeds" dN (.none) (a 11) (d 11)
  qz:mg "_law_deeds"=some (.ref (a 11))
  qA:bA K "_law_made" "_law_made" fN (.none) (a 12) (d 12)
  qB:mg "_law_made"=some (.ref (a 12))
  qC:bA K "_law_purse" "_law_purse" dQ (.none) (a 13) (d 13)
  qD:mg "_law_purse"=some (.ref (a 13))
  qE:bA K "_law_minus" "_law_minus" dP (.none) (a 14) (d 14)
  qF:mg "_law_minus"=some (.ref (a 14))
  qG:bA K "_law_plus" "_law_plus" fL (.none) (a 15) (d 15)
  qH:mg "_law_plus"=some (.ref (a 15))
  qI:bA K "_law_times" "_law_times" eA (.none) (a 16) (d 16)
  qJ:mg "_law_times"=some (.ref (a 16))
  qK:bA K "_law_deed" "_law_deed" fA (.none) (a 17) (d 17)
  qL:mg "_law_deed"=some (.ref (a 17))
  qM:bA K "_law_done" "_law_done" fK (.none) (a 18) (d 18)
  qN:mg "_law_done"=some (.ref (a 18))
  qO:bA K "_law_whole" "_law_whole" dL (.none) (a 19) (d 19)
  qP:mg "_law_whole"=some (.ref (a 19))
  qQ:bA K "_law_is_fraction" "_law_is_fraction" aY (.none) (a 20) (d 20)
  qR:mg "_law_is_fraction"=some (.ref (a 20))
  qS:bA K "_law_text" "_law_text" fE (.none) (a 21) (d 21)
  qT:mg "_law_text"=some (.ref (a 21))
  qU:bA K "is_shade" "is_shade" bZ (.none) (a 22) (d 22)
  qV:mg "is_shade"=some (.ref (a 22))
  qW:bA K "need_shade" "need_shade" bJ (.none) (a 23) (d 23)
  qX:mg "need_shade"=some (.ref (a 23))
  qY:bA K "shares_of" "shares_of" bR (.none) (a 24) (d 24)
  qZ:mg "shares_of"=some (.ref (a 24))
  qz1:bA K "__eq__" "Shade.__eq__" bB (.none) (a 25) (d 25)
  qz2:lL K (a 55) "__eq__" (a 25)
  qz3:bA K "figures" "figures" dW (.none) (a 26) (d 26)
  qz4:mg "figures"=some (.ref (a 26))
  qz5:bA K "written" "written" eB (.none) (a 27) (d 27)
  qz6:mg "written"=some (.ref (a 27))
  qz7:bA K "__str__" "Shade.__str__" aW (.none) (a 28) (d 28)
  qz8:lL K (a 55) "__str__" (a 28)
  qz9:bA K "__repr__" "Shade.__repr__" aR (.none) (a 29) (d 29)
  qz10:lL K (a 55) "__repr__" (a 29)
  qz11:bA K "__len__" "Shade.__len__" aV (.none) (a 30) (d 30)
  qz12:lL K (a 55) "__len__" (a 30)
  qz13:bA K "_law_is" "_law_is" jX (.none) (a 31) (d 31)
  qz14:mg "_law_is"=some (.ref (a 31))
  qz15:bA K "lowest" "lowest" fJ (.none) (a 32) (d 32)
  qz16:mg "lowest"=some (.ref (a 32))
  qz17:bA K "need_fractions" "need_fractions" aS (.none) (a 33) (d 33)
  qz18:mg "need_fractions"=some (.ref (a 33))
  qz19:bA K "minus" "minus" gW (.none) (a 34) (d 34)
  qz20:mg "minus"=some (.ref (a 34))
  qz21:bA K "shade_of" "shade_of" cA (.none) (a 35) (d 35)
  qz22:mg "shade_of"=some (.ref (a 35))
  qz23:bA K "opposite" "opposite" cH (.none) (a 36) (d 36)
  qz24:mg "opposite"=some (.ref (a 36))
  qz25:bA K "part_of" "part_of" eC (.none) (a 37) (d 37)
  qz26:mg "part_of"=some (.ref (a 37))
  qz27:bA K "plus" "plus" kU (.none) (a 38) (d 38)
  qz28:mg "plus"=some (.ref (a 38))
  qz29:bA K "times" "times" gS (.none) (a 39) (d 39)
  qz30:mg "times"=some (.ref (a 39))
  qz31:bA K "toward" "toward" fI (.none) (a 40) (d 40)
  qz32:mg "toward"=some (.ref (a 40))
  qz33:bA K "darker" "darker" eW (v 41) (a 41) (d 41)
  qz34:∃ (b:Addr) (oc:Value) (od:Option Addr) (n:Nat) (sl:Array (Option Value)) ,v 41= .ref b∧K.lookup b=some ⟨oc,od,.seq #[.none] n,sl⟩
  qz35:mg "darker"=some (.ref (a 41))
  qz36:bA K "over" "over" kA (.none) (a 42) (d 42)
  qz37:mg "over"=some (.ref (a 42))
  qz38:bA K "duller" "duller" fF (v 43) (a 43) (d 43)
  qz39:∃ (b:Addr) (oc:Value) (od:Option Addr) (n:Nat) (sl:Array (Option Value)) ,v 43= .ref b∧K.lookup b=some ⟨oc,od,.seq #[.none] n,sl⟩
  qz40:mg "duller"=some (.ref (a 43))
  qz41:bA K "lighter" "lighter" dM (v 44) (a 44) (d 44)
  qz42:∃ (b:Addr) (oc:Value) (od:Option Addr) (n:Nat) (sl:Array (Option Value)) ,v 44= .ref b∧K.lookup b=some ⟨oc,od,.seq #[.none] n,sl⟩
  qz43:mg "lighter"=some (.ref (a 44))
  qz44:bA K "turned" "turned" fG (v 45) (a 45) (d 45)
  qz45:∃ (b:Addr) (oc:Value) (od:Option Addr) (n:Nat) (sl:Array (Option Value)) ,v 45= .ref b∧K.lookup b=some ⟨oc,od,.seq #[.none] n,sl⟩
  qz46:mg "turned"=some (.ref (a 45))
  qz47:bA K "do_one" "do_one" eY (.none) (a 46) (d 46)
  qz48:mg "do_one"=some (.ref (a 46))
  qz49:bA K "is_by" "is_by" gX (.none) (a 47) (d 47)
  qz50:mg "is_by"=some (.ref (a 47))
  qz51:bA K "is_deed" "is_deed" dJ (.none) (a 48) (d 48)
  qz52:mg "is_deed"=some (.ref (a 48))
  qz53:bA K "need_deeds" "need_deeds" bH (.none) (a 49) (d 49)
  qz54:mg "need_deeds"=some (.ref (a 49))
  qz55:bA K "done" "done" kW (.none) (a 50) (d 50)
  qz56:mg "done"=some (.ref (a 50))
  qz57:bA K "_law_right" "_law_right" dX (.none) (a 51) (d 51)
  qz58:mg "_law_right"=some (.ref (a 51))
  qz59:bA K "_law_shares" "_law_shares" cD (.none) (a 52) (d 52)
  qz60:mg "_law_shares"=some (.ref (a 52))
  qz61:bA K "_law_short" "_law_short" dZ (.none) (a 53) (d 53)
  qz62:mg "_law_short"=some (.ref (a 53))
  qz63:bA K "law" "law" mL (.none) (a 54) (d 54)
  qz64:mg "law"=some (.ref (a 54))
  qz65:aCN K (a 55)
  qz66:mg "Shade"=some (.ref (a 55))
  qz67:Mk K (a 55) (a 4)
  qz68:NeC K (a 55)
  qz69:∀ n∈ZT,W.kitOne K (.type n) (.ref (a 55))=some false
  qz70:∀ n∈nH,W.kitOne K (.ref (a 55)) (.type n)=some false
  na_Shade_ember:gR K (a 55) "ember"
  na_Shade_leaf:gR K (a 55) "leaf"
  na_Shade_sky:gR K (a 55) "sky"
  qz71:∃ a t0 t1 n sl,mg "HALF"=some (.ref a)∧K.lookup a=some ⟨.type "tuple",none,.seq #[.int 1 t0,.int 2 t1] n,sl⟩
  qz72:∃ t,mg "MOST_DEEDS"=some (.int 20 t)
  qz73:∃ a t0 t1 n sl,mg "ONE"=some (.ref a)∧K.lookup a=some ⟨.type "tuple",none,.seq #[.int 1 t0,.int 1 t1] n,sl⟩
  qz74:∃ t,mg "PIECE"=some (.int 10000000000000000000000000000000000000000000000000000000000000000 t)
  qz75:∃ t,mg "PIECE_FIGURES"=some (.int 64 t)
  qz76:∃ a t0 t1 n sl,mg "ZERO"=some (.ref a)∧K.lookup a=some ⟨.type "tuple",none,.seq #[.int 0 t0,.int 1 t1] n,sl⟩
  qz77:∃ (b:Addr) (n:Nat) (t0 t1 t2 t3:Tok),mg "BY_WORD"=some (.ref b)∧K.lookup b=some ⟨.type "dict",none,.dict (([("lighter",t0,.ref (a 44)),("darker",t1,.ref (a 41)),("duller",t2,.ref (a 43)),("turned",t3,.ref (a 45))]:List (Str×Tok×Value)).map fun p=>(⟨PyData.keyHash w.params p.1,.str p.1 p.2.1,p.2.2⟩:DictEntry)).toArray n, #[]⟩∧(b == sysModules)=false
  qz78:mg "abs"=none
  qz79:mg "all"=none
  qz80:mg "bool"=none
  qz81:mg "divmod"=none
  qz82:mg "enumerate"=none
  qz83:mg "int"=none
  qz84:mg "isinstance"=none
  qz85:mg "len"=none
  qz86:mg "max"=none
  qz87:mg "min"=none
  qz88:mg "range"=none
  qz89:mg "repr"=none
  qz90:mg "str"=none
  qz91:mg "tuple"=none
variable {P:Program} {w:World} {K:W.Frag} {mg:Str→Option Value} {base:Heap} {a:Nat→Addr} {d:Nat→FuncData} {v:Nat→Value}
noncomputable def AY (a:Nat→Addr) (f:Str):Addr:=if f=("darker":Str) then a 41 else if f=("duller":Str) then a 43 else if f=("lighter":Str) then a 44 else if f=("turned":Str) then a 45 else 0
theorem kL {a:Nat→Addr}:AY a "darker"=a 41:=by unfold AY; rw [if_pos rfl]
theorem jW {a:Nat→Addr}:AY a "duller"=a 43:=by unfold AY; rw [if_neg (by decide +kernel)]; rw [if_pos rfl]
theorem iL {a:Nat→Addr}:AY a "lighter"=a 44:=by unfold AY; rw [if_neg (by decide +kernel)]; rw [if_neg (by decide +kernel)]; rw [if_pos rfl]
theorem kK {a:Nat→Addr}:AY a "turned"=a 45:=by unfold AY; rw [if_neg (by decide +kernel)]; rw [if_neg (by decide +kernel)]; rw [if_neg (by decide +kernel)]; rw [if_pos rfl]
theorem lnS {n:Nat} {l:List Value} (h:l.length=n + 1):∃ a t,l=a :: t∧t.length=n:=by
  cases l with
  | nil=>cases h
  | cons a t=>exact ⟨a,t,rfl,Nat.succ.inj h⟩
theorem ln0 {l:List Value} (h:l.length=0):l=[]:=List.eq_nil_of_length_eq_zero h
theorem ln1 {l:List Value} (h:l.length=1):∃ a,l=[a]:=by
  obtain ⟨a,t,rfl,h2⟩:=lnS h
  exact ⟨a,by rw [ln0 h2]⟩
theorem ln2 {l:List Value} (h:l.length=2):∃ a b,l=[a,b]:=by
  obtain ⟨a,t,rfl,h2⟩:=lnS h
  obtain ⟨b,rfl⟩:=ln1 h2
  exact ⟨a,b,rfl⟩
theorem ln3 {l:List Value} (h:l.length=3):∃ a b c,l=[a,b,c]:=by
  obtain ⟨a,t,rfl,h2⟩:=lnS h
  obtain ⟨b,c,rfl⟩:=ln2 h2
  exact ⟨a,b,c,rfl⟩
theorem ln4 {l:List Value} (h:l.length=4):∃ a b c d,l=[a,b,c,d]:=by
  obtain ⟨a,t,rfl,h2⟩:=lnS h
  obtain ⟨b,c,d,rfl⟩:=ln3 h2
  exact ⟨a,b,c,d,rfl⟩
noncomputable abbrev Ew (K:W.Frag) (a:Nat→Addr):Ev:={ K:=K,cls:=aAk a,fna:=AY a }
theorem FM (X:Tx w K mg a d v):L2.aE K (d 0) ["one","other"] []:=X.qa.binds fun _ _ _ _ _ _ _ us _ hl=>by obtain ⟨_,_,rfl⟩:=ln2 hl; exact .of_eq rfl
theorem oG (X:Tx w K mg a d v):L2.aE K (d 1) ["thing"] []:=X.qc.binds fun _ _ _ _ _ _ _ us _ hl=>by obtain ⟨_,rfl⟩:=ln1 hl; exact .of_eq rfl
theorem nK (X:Tx w K mg a d v):L2.aE K (d 2) ["thing"] []:=X.qe.binds fun _ _ _ _ _ _ _ us _ hl=>by obtain ⟨_,rfl⟩:=ln1 hl; exact .of_eq rfl
theorem nV (X:Tx w K mg a d v):L2.aE K (d 3) ["thing"] []:=X.qg.binds fun _ _ _ _ _ _ _ us _ hl=>by obtain ⟨_,rfl⟩:=ln1 hl; exact .of_eq rfl
theorem dU (X:Tx w K mg a d v):L2.aE K (d 4) ["self","ember","leaf","sky"] []:=X.qi.binds fun _ _ _ _ _ _ _ us _ hl=>by obtain ⟨_,_,_,_,rfl⟩:=ln4 hl; exact .of_eq rfl
theorem XQ (X:Tx w K mg a d v):L2.aE K (d 5) ["_law_script","_law_k"] []:=X.qj.binds fun _ _ _ _ _ _ _ us _ hl=>by obtain ⟨_,_,rfl⟩:=ln2 hl; exact .of_eq rfl
theorem WW (X:Tx w K mg a d v):L2.aE K (d 6) ["_law_purse_here","_law_many"] []:=X.ql.binds fun _ _ _ _ _ _ _ us _ hl=>by obtain ⟨_,_,rfl⟩:=ln2 hl; exact .of_eq rfl
theorem aBp (X:Tx w K mg a d v):L2.aE K (d 7) ["_law_top","_law_bottom"] []:=X.qo.binds fun _ _ _ _ _ _ _ us _ hl=>by obtain ⟨_,_,rfl⟩:=ln2 hl; exact .of_eq rfl
theorem lB (X:Tx w K mg a d v):L2.aE K (d 8) ["_law_purse_here"] []:=X.qq.binds fun _ _ _ _ _ _ _ us _ hl=>by obtain ⟨_,rfl⟩:=ln1 hl; exact .of_eq rfl
theorem AG (X:Tx w K mg a d v):L2.aE K (d 9) ["_law_purse_here"] []:=X.qt.binds fun _ _ _ _ _ _ _ us _ hl=>by obtain ⟨_,rfl⟩:=ln1 hl; exact .of_eq rfl
theorem aHJ (X:Tx w K mg a d v):L2.aE K (d 10) ["_law_purse_here","_law_word"] []:=X.qw.binds fun _ _ _ _ _ _ _ us _ hl=>by obtain ⟨_,_,rfl⟩:=ln2 hl; exact .of_eq rfl
theorem RE (X:Tx w K mg a d v):L2.aE K (d 11) ["_law_purse_here","_law_many"] []:=X.qy.binds fun _ _ _ _ _ _ _ us _ hl=>by obtain ⟨_,_,rfl⟩:=ln2 hl; exact .of_eq rfl
theorem UT (X:Tx w K mg a d v):L2.aE K (d 12) ["_law_purse_here","_law_row"] []:=X.qA.binds fun _ _ _ _ _ _ _ us _ hl=>by obtain ⟨_,_,rfl⟩:=ln2 hl; exact .of_eq rfl
theorem RQ (X:Tx w K mg a d v):L2.aE K (d 13) ["_law_cell_here"] []:=X.qC.binds fun _ _ _ _ _ _ _ us _ hl=>by obtain ⟨_,rfl⟩:=ln1 hl; exact .of_eq rfl
theorem SW (X:Tx w K mg a d v):L2.aE K (d 14) ["_law_a","_law_b"] []:=X.qE.binds fun _ _ _ _ _ _ _ us _ hl=>by obtain ⟨_,_,rfl⟩:=ln2 hl; exact .of_eq rfl
theorem WY (X:Tx w K mg a d v):L2.aE K (d 15) ["_law_a","_law_b"] []:=X.qG.binds fun _ _ _ _ _ _ _ us _ hl=>by obtain ⟨_,_,rfl⟩:=ln2 hl; exact .of_eq rfl
theorem QS (X:Tx w K mg a d v):L2.aE K (d 16) ["_law_a","_law_b"] []:=X.qI.binds fun _ _ _ _ _ _ _ us _ hl=>by obtain ⟨_,_,rfl⟩:=ln2 hl; exact .of_eq rfl
theorem YJ (X:Tx w K mg a d v):L2.aE K (d 17) ["_law_row","_law_word","_law_amount"] []:=X.qK.binds fun _ _ _ _ _ _ _ us _ hl=>by obtain ⟨_,_,_,rfl⟩:=ln3 hl; exact .of_eq rfl
theorem YI (X:Tx w K mg a d v):L2.aE K (d 18) ["_law_row","_law_lot"] []:=X.qM.binds fun _ _ _ _ _ _ _ us _ hl=>by obtain ⟨_,_,rfl⟩:=ln2 hl; exact .of_eq rfl
theorem UB (X:Tx w K mg a d v):L2.aE K (d 19) ["_law_thing"] []:=X.qO.binds fun _ _ _ _ _ _ _ us _ hl=>by obtain ⟨_,rfl⟩:=ln1 hl; exact .of_eq rfl
theorem vF (X:Tx w K mg a d v):L2.aE K (d 20) ["_law_thing"] []:=X.qQ.binds fun _ _ _ _ _ _ _ us _ hl=>by obtain ⟨_,rfl⟩:=ln1 hl; exact .of_eq rfl
theorem VA (X:Tx w K mg a d v):L2.aE K (d 21) ["_law_a"] []:=X.qS.binds fun _ _ _ _ _ _ _ us _ hl=>by obtain ⟨_,rfl⟩:=ln1 hl; exact .of_eq rfl
theorem wF (X:Tx w K mg a d v):L2.aE K (d 22) ["thing"] []:=X.qU.binds fun _ _ _ _ _ _ _ us _ hl=>by obtain ⟨_,rfl⟩:=ln1 hl; exact .of_eq rfl
theorem CO (X:Tx w K mg a d v):L2.aE K (d 23) ["thing"] []:=X.qW.binds fun _ _ _ _ _ _ _ us _ hl=>by obtain ⟨_,rfl⟩:=ln1 hl; exact .of_eq rfl
theorem GK (X:Tx w K mg a d v):L2.aE K (d 24) ["shade"] []:=X.qY.binds fun _ _ _ _ _ _ _ us _ hl=>by obtain ⟨_,rfl⟩:=ln1 hl; exact .of_eq rfl
theorem wT (X:Tx w K mg a d v):L2.aE K (d 25) ["self","other"] []:=X.qz1.binds fun _ _ _ _ _ _ _ us _ hl=>by obtain ⟨_,_,rfl⟩:=ln2 hl; exact .of_eq rfl
theorem SU (X:Tx w K mg a d v):L2.aE K (d 26) ["number"] []:=X.qz3.binds fun _ _ _ _ _ _ _ us _ hl=>by obtain ⟨_,rfl⟩:=ln1 hl; exact .of_eq rfl
theorem OY (X:Tx w K mg a d v):L2.aE K (d 27) ["one"] []:=X.qz5.binds fun _ _ _ _ _ _ _ us _ hl=>by obtain ⟨_,rfl⟩:=ln1 hl; exact .of_eq rfl
theorem lF (X:Tx w K mg a d v):L2.aE K (d 28) ["self"] []:=X.qz7.binds fun _ _ _ _ _ _ _ us _ hl=>by obtain ⟨_,rfl⟩:=ln1 hl; exact .of_eq rfl
theorem sH (X:Tx w K mg a d v):L2.aE K (d 29) ["self"] []:=X.qz9.binds fun _ _ _ _ _ _ _ us _ hl=>by obtain ⟨_,rfl⟩:=ln1 hl; exact .of_eq rfl
theorem lE (X:Tx w K mg a d v):L2.aE K (d 30) ["self"] []:=X.qz11.binds fun _ _ _ _ _ _ _ us _ hl=>by obtain ⟨_,rfl⟩:=ln1 hl; exact .of_eq rfl
theorem aHi (X:Tx w K mg a d v):L2.aE K (d 31) ["_law_told","_law_row"] []:=X.qz13.binds fun _ _ _ _ _ _ _ us _ hl=>by obtain ⟨_,_,rfl⟩:=ln2 hl; exact .of_eq rfl
theorem YW (X:Tx w K mg a d v):L2.aE K (d 32) ["top","bottom"] []:=X.qz15.binds fun _ _ _ _ _ _ _ us _ hl=>by obtain ⟨_,_,rfl⟩:=ln2 hl; exact .of_eq rfl
theorem sF (X:Tx w K mg a d v):L2.aE K (d 33) ["things"] []:=X.qz17.binds fun _ _ _ _ _ _ _ us _ hl=>by obtain ⟨_,rfl⟩:=ln1 hl; exact .of_eq rfl
theorem NO (X:Tx w K mg a d v):L2.aE K (d 34) ["one","other"] []:=X.qz19.binds fun _ _ _ _ _ _ _ us _ hl=>by obtain ⟨_,_,rfl⟩:=ln2 hl; exact .of_eq rfl
theorem nR (X:Tx w K mg a d v):L2.aE K (d 35) ["shares"] []:=X.qz21.binds fun _ _ _ _ _ _ _ us _ hl=>by obtain ⟨_,rfl⟩:=ln1 hl; exact .of_eq rfl
theorem KN (X:Tx w K mg a d v):L2.aE K (d 36) ["shade"] []:=X.qz23.binds fun _ _ _ _ _ _ _ us _ hl=>by obtain ⟨_,rfl⟩:=ln1 hl; exact .of_eq rfl
theorem sN (X:Tx w K mg a d v):L2.aE K (d 37) ["by"] []:=X.qz25.binds fun _ _ _ _ _ _ _ us _ hl=>by obtain ⟨_,rfl⟩:=ln1 hl; exact .of_eq rfl
theorem XI (X:Tx w K mg a d v):L2.aE K (d 38) ["one","other"] []:=X.qz27.binds fun _ _ _ _ _ _ _ us _ hl=>by obtain ⟨_,_,rfl⟩:=ln2 hl; exact .of_eq rfl
theorem aBP (X:Tx w K mg a d v):L2.aE K (d 39) ["one","other"] []:=X.qz29.binds fun _ _ _ _ _ _ _ us _ hl=>by obtain ⟨_,_,rfl⟩:=ln2 hl; exact .of_eq rfl
theorem xJ (X:Tx w K mg a d v):L2.aE K (d 40) ["shade","goal","part"] []:=X.qz31.binds fun _ _ _ _ _ _ _ us _ hl=>by obtain ⟨_,_,_,rfl⟩:=ln3 hl; exact .of_eq rfl
theorem aFb (X:Tx w K mg a d v):L2.aE K (d 42) ["one","other"] []:=X.qz36.binds fun _ _ _ _ _ _ _ us _ hl=>by obtain ⟨_,_,rfl⟩:=ln2 hl; exact .of_eq rfl
theorem YX (X:Tx w K mg a d v):L2.aE K (d 46) ["shade","deed"] []:=X.qz47.binds fun _ _ _ _ _ _ _ us _ hl=>by obtain ⟨_,_,rfl⟩:=ln2 hl; exact .of_eq rfl
theorem aDa (X:Tx w K mg a d v):L2.aE K (d 47) ["word","thing"] []:=X.qz49.binds fun _ _ _ _ _ _ _ us _ hl=>by obtain ⟨_,_,rfl⟩:=ln2 hl; exact .of_eq rfl
theorem UI (X:Tx w K mg a d v):L2.aE K (d 48) ["thing"] []:=X.qz51.binds fun _ _ _ _ _ _ _ us _ hl=>by obtain ⟨_,rfl⟩:=ln1 hl; exact .of_eq rfl
theorem DB (X:Tx w K mg a d v):L2.aE K (d 49) ["deeds"] []:=X.qz53.binds fun _ _ _ _ _ _ _ us _ hl=>by obtain ⟨_,rfl⟩:=ln1 hl; exact .of_eq rfl
theorem aIc (X:Tx w K mg a d v):L2.aE K (d 50) ["shade","deeds"] []:=X.qz55.binds fun _ _ _ _ _ _ _ us _ hl=>by obtain ⟨_,_,rfl⟩:=ln2 hl; exact .of_eq rfl
theorem TF (X:Tx w K mg a d v):L2.aE K (d 51) ["_law_one","_law_row","_law_lot","_law_at"] []:=X.qz57.binds fun _ _ _ _ _ _ _ us _ hl=>by obtain ⟨_,_,_,_,rfl⟩:=ln4 hl; exact .of_eq rfl
theorem LW (X:Tx w K mg a d v):L2.aE K (d 52) ["_law_purse_here"] []:=X.qz59.binds fun _ _ _ _ _ _ _ us _ hl=>by obtain ⟨_,rfl⟩:=ln1 hl; exact .of_eq rfl
theorem QP (X:Tx w K mg a d v):L2.aE K (d 53) ["_law_lot"] []:=X.qz61.binds fun _ _ _ _ _ _ _ us _ hl=>by obtain ⟨_,rfl⟩:=ln1 hl; exact .of_eq rfl
theorem iK (X:Tx w K mg a d v):jJ K (d 4) ["self","ember","leaf","sky"] 1 ["sky","ember","leaf"] [.arg 0,.arg 2,.arg 3,.arg 1]:=by
  refine X.qi.sh rfl fun _ _ _ _ _ _ _ us ws hK hl hl2=>?_
  obtain ⟨u0,rfl⟩:=ln1 hl
  obtain ⟨w0,w1,w2,rfl⟩:=ln3 hl2
  refine ⟨[u0,w1,w2,w0],.of_eq rfl,fun vs zs r rz=>?_⟩
  obtain _ | ⟨r_u0,r⟩:=r
  cases r
  obtain _ | ⟨r_w0,rz⟩:=rz
  obtain _ | ⟨r_w1,rz⟩:=rz
  obtain _ | ⟨r_w2,rz⟩:=rz
  cases rz
  exact (.cons r_u0 (.cons r_w1 (.cons r_w2 (.cons r_w0 .nil))))
theorem lK (X:Tx w K mg a d v):jJ K (d 50) ["shade","deeds"] 0 ["deeds","shade"] [.arg 1,.arg 0]:=by
  refine X.qz55.sh rfl fun _ _ _ _ _ _ _ us ws hK hl hl2=>?_
  obtain rfl:=ln0 hl
  obtain ⟨w0,w1,rfl⟩:=ln2 hl2
  refine ⟨[w1,w0],.of_eq rfl,fun vs zs r rz=>?_⟩
  cases r
  obtain _ | ⟨r_w0,rz⟩:=rz
  obtain _ | ⟨r_w1,rz⟩:=rz
  cases rz
  exact (.cons r_w1 (.cons r_w0 .nil))
theorem BY (X:Tx w K mg a d v):jJ K (d 41) ["shade","by"] 1 [] [.arg 0,.non]:=by
  obtain ⟨b,oc,od,n,sl,e,hb⟩:=X.qz34
  refine X.qz33.sh rfl fun _ _ _ _ _ _ _ us ws hK hl hl2=>?_
  obtain ⟨u0,rfl⟩:=ln1 hl
  obtain rfl:=ln0 hl2
  refine ⟨[u0,(.none)],W.binds_K hK e hb rfl rfl rfl,fun vs zs r rz=>?_⟩
  obtain _ | ⟨r_u0,r⟩:=r
  cases r
  cases rz
  exact (.cons r_u0 (.cons rfl .nil))
theorem BQ (X:Tx w K mg a d v):jJ K (d 41) ["shade","by"] 2 [] [.arg 0,.arg 1]:=by
  obtain ⟨b,oc,od,n,sl,e,hb⟩:=X.qz34
  refine X.qz33.sh rfl fun _ _ _ _ _ _ _ us ws hK hl hl2=>?_
  obtain ⟨u0,u1,rfl⟩:=ln2 hl
  obtain rfl:=ln0 hl2
  refine ⟨[u0,u1],W.binds_K hK e hb rfl rfl rfl,fun vs zs r rz=>?_⟩
  obtain _ | ⟨r_u0,r⟩:=r
  obtain _ | ⟨r_u1,r⟩:=r
  cases r
  cases rz
  exact (.cons r_u0 (.cons r_u1 .nil))
theorem CB (X:Tx w K mg a d v):jJ K (d 43) ["shade","by"] 1 [] [.arg 0,.non]:=by
  obtain ⟨b,oc,od,n,sl,e,hb⟩:=X.qz39
  refine X.qz38.sh rfl fun _ _ _ _ _ _ _ us ws hK hl hl2=>?_
  obtain ⟨u0,rfl⟩:=ln1 hl
  obtain rfl:=ln0 hl2
  refine ⟨[u0,(.none)],W.binds_K hK e hb rfl rfl rfl,fun vs zs r rz=>?_⟩
  obtain _ | ⟨r_u0,r⟩:=r
  cases r
  cases rz
  exact (.cons r_u0 (.cons rfl .nil))
theorem CH (X:Tx w K mg a d v):jJ K (d 43) ["shade","by"] 2 [] [.arg 0,.arg 1]:=by
  obtain ⟨b,oc,od,n,sl,e,hb⟩:=X.qz39
  refine X.qz38.sh rfl fun _ _ _ _ _ _ _ us ws hK hl hl2=>?_
  obtain ⟨u0,u1,rfl⟩:=ln2 hl
  obtain rfl:=ln0 hl2
  refine ⟨[u0,u1],W.binds_K hK e hb rfl rfl rfl,fun vs zs r rz=>?_⟩
  obtain _ | ⟨r_u0,r⟩:=r
  obtain _ | ⟨r_u1,r⟩:=r
  cases r
  cases rz
  exact (.cons r_u0 (.cons r_u1 .nil))
theorem yN (X:Tx w K mg a d v):jJ K (d 44) ["shade","by"] 1 [] [.arg 0,.non]:=by
  obtain ⟨b,oc,od,n,sl,e,hb⟩:=X.qz42
  refine X.qz41.sh rfl fun _ _ _ _ _ _ _ us ws hK hl hl2=>?_
  obtain ⟨u0,rfl⟩:=ln1 hl
  obtain rfl:=ln0 hl2
  refine ⟨[u0,(.none)],W.binds_K hK e hb rfl rfl rfl,fun vs zs r rz=>?_⟩
  obtain _ | ⟨r_u0,r⟩:=r
  cases r
  cases rz
  exact (.cons r_u0 (.cons rfl .nil))
theorem yO (X:Tx w K mg a d v):jJ K (d 44) ["shade","by"] 2 [] [.arg 0,.arg 1]:=by
  obtain ⟨b,oc,od,n,sl,e,hb⟩:=X.qz42
  refine X.qz41.sh rfl fun _ _ _ _ _ _ _ us ws hK hl hl2=>?_
  obtain ⟨u0,u1,rfl⟩:=ln2 hl
  obtain rfl:=ln0 hl2
  refine ⟨[u0,u1],W.binds_K hK e hb rfl rfl rfl,fun vs zs r rz=>?_⟩
  obtain _ | ⟨r_u0,r⟩:=r
  obtain _ | ⟨r_u1,r⟩:=r
  cases r
  cases rz
  exact (.cons r_u0 (.cons r_u1 .nil))
theorem BR (X:Tx w K mg a d v):jJ K (d 45) ["shade","by"] 1 [] [.arg 0,.non]:=by
  obtain ⟨b,oc,od,n,sl,e,hb⟩:=X.qz45
  refine X.qz44.sh rfl fun _ _ _ _ _ _ _ us ws hK hl hl2=>?_
  obtain ⟨u0,rfl⟩:=ln1 hl
  obtain rfl:=ln0 hl2
  refine ⟨[u0,(.none)],W.binds_K hK e hb rfl rfl rfl,fun vs zs r rz=>?_⟩
  obtain _ | ⟨r_u0,r⟩:=r
  cases r
  cases rz
  exact (.cons r_u0 (.cons rfl .nil))
theorem BZ (X:Tx w K mg a d v):jJ K (d 45) ["shade","by"] 2 [] [.arg 0,.arg 1]:=by
  obtain ⟨b,oc,od,n,sl,e,hb⟩:=X.qz45
  refine X.qz44.sh rfl fun _ _ _ _ _ _ _ us ws hK hl hl2=>?_
  obtain ⟨u0,u1,rfl⟩:=ln2 hl
  obtain rfl:=ln0 hl2
  refine ⟨[u0,u1],W.binds_K hK e hb rfl rfl rfl,fun vs zs r rz=>?_⟩
  obtain _ | ⟨r_u0,r⟩:=r
  obtain _ | ⟨r_u1,r⟩:=r
  cases r
  cases rz
  exact (.cons r_u0 (.cons r_u1 .nil))
noncomputable abbrev FO (P:Program) (w:World) (K:W.Frag) (mg:Str→Option Value) (base:Heap) (a:Nat→Addr) (d:Nat→FuncData) (n i:Nat) (ps:List Str) (x:Str):Prop:=bS P w K mg base CX0 n (a i) (d i) ps (fW (Ew K a) (T.S x))
theorem ck (X:Tx w K mg a d v):Ck K (Ew K a) T:=by
  refine ⟨rfl,⟨?_, ?_, ?_, ?_⟩, ?_⟩
  · exact ac (by rw [show (Ew K a).cls "Shade"=a 55 from aF]; exact X.qz65) (an)
  · exact ac (by rw [show (Ew K a).cls "Shade"=a 55 from aF]; exact X.qz69) (an)
  · exact ac (by rw [show (Ew K a).cls "Shade"=a 55 from aF]; exact X.qz70) (an)
  · exact ac (ac (fun h=>absurd rfl h) (an)) (an)
  · intro c f h
    have key:∀ p∈T.fl,Cls K ((Ew K a).cls p.1)∧gR K ((Ew K a).cls p.1) p.2:=ac (by dsimp only; rw [aF]; exact ⟨X.qz65.cl,X.na_Shade_ember⟩) (ac (by dsimp only; rw [aF]; exact ⟨X.qz65.cl,X.na_Shade_leaf⟩) (ac (by dsimp only; rw [aF]; exact ⟨X.qz65.cl,X.na_Shade_sky⟩) (an)))
    exact key (c,f) h
local macro_rules | `(tactic| walk_at "sl") => `(tactic| (intro xs G Q h; repeat (first | exact (congrArg List.length h.1).trans rfl | (obtain ⟨_, h⟩ := h))))
theorem RU (X:Tx w K mg a d v):Gf P w K mg base (Ew K a) T 0 xO:=
  ⟨an,an,an,an,an,an,an,an,an,an,an,an,an,an,fun z=>by cases z⟩
theorem AN (X:Tx w K mg a d v):FO P w K mg base a d 2 0 ["one","other"] "common":=by
  rw [FO,EJ]; exact aN X.qa UG (ck X) (RU X ) PQ (by walk_at "sl") (aAA hPT)
theorem GW (X:Tx w K mg a d v):Gf P w K mg base (Ew K a) T 0 oP:=
  ⟨an,an,an,an,an,ac (⟨X.qz80,⟨"bool",PyProof.Rows.boot_bool,BP⟩,by decide +kernel⟩) (ac (⟨X.qz83,⟨"int",PyProof.Rows.boot_int,zM⟩,by decide +kernel⟩) (an)),ac (X.qz84) (an),an,an,an,an,an,an,an,fun z=>by cases z⟩
theorem lW (X:Tx w K mg a d v):FO P w K mg base a d 2 1 ["thing"] "is_whole":=by
  rw [FO,yE]; exact aN X.qc FY (ck X) (GW X ) HC (by walk_at "sl") (wG hPT)
theorem yD (X:Tx w K mg a d v):Gf P w K mg base (Ew K a) T 2 iQ:=
  ⟨ac (⟨_,_,_,⟨(AN X).mono (by decide),X.qb,X.qa.kp,by decide +kernel⟩,FM X⟩) (ac (⟨_,_,_,⟨(lW X).mono (by decide),X.qd,X.qc.kp,by decide +kernel⟩,oG X⟩) (an)),an,an,an,an,ac (⟨X.qz91,⟨"tuple",PyProof.Rows.boot_tuple,gC⟩,by decide +kernel⟩) (an),ac (X.qz78) (ac (X.qz84) (ac (X.qz85) (an))),an,an,an,an,an,an,an,fun z=>by cases z⟩
theorem mJ (X:Tx w K mg a d v):FO P w K mg base a d 4 2 ["thing"] "is_fraction":=by
  rw [FO,nL]; exact aN X.qe xW (ck X) (yD X) yB (by walk_at "sl") (yW hPT)
theorem FP (X:Tx w K mg a d v):Gf P w K mg base (Ew K a) T 4 oK:=
  ⟨ac (⟨_,_,_,⟨(mJ X).mono (by decide),X.qf,X.qe.kp,by decide +kernel⟩,nK X⟩) (an),an,an,an,an,an,an,an,an,an,an,an,an,an,fun z=>by cases z⟩
theorem mM (X:Tx w K mg a d v):FO P w K mg base a d 6 3 ["thing"] "is_share":=by
  rw [FO,wH]; exact aN X.qg FF (ck X) (FP X) FI (by walk_at "sl") (JD hPT)
theorem pZ (X:Tx w K mg a d v):Gf P w K mg base (Ew K a) T 6 fS:=
  ⟨ac (⟨_,_,_,⟨(mM X).mono (by decide),X.qh,X.qg.kp,by decide +kernel⟩,nV X⟩) (an),an,an,an,an,an,ac (X.qz82) (an),an,an,an,an,an,an,an,fun z=>by cases z⟩
theorem bN (X:Tx w K mg a d v):FO P w K mg base a d 8 4 ["self","ember","leaf","sky"] "Shade.__init__":=by
  rw [FO,jH]; exact aN X.qi rS (ck X) (pZ X) oV (by walk_at "sl") (uK hPT)
theorem UF (X:Tx w K mg a d v):Gf P w K mg base (Ew K a) T 0 wP:=
  ⟨an,an,an,an,an,an,ac (X.qz85) (an),an,an,an,an,an,an,an,fun z=>by cases z⟩
theorem PR (X:Tx w K mg a d v):FO P w K mg base a d 2 5 ["_law_script","_law_k"] "_law_cell":=by
  rw [FO,FL]; exact aN X.qj QK (ck X) (UF X ) QL (by walk_at "sl") (VD)
theorem QC (X:Tx w K mg a d v):Gf P w K mg base (Ew K a) T 0 xB:=
  ⟨an,an,an,an,an,an,an,an,an,an,an,an,an,an,fun z=>by cases z⟩
theorem RW (X:Tx w K mg a d v):FO P w K mg base a d 2 6 ["_law_purse_here","_law_many"] "_law_pick":=by
  rw [FO,FD]; exact aN X.ql SB (ck X) (QC X ) SO (by walk_at "sl") (XX)
theorem fO (X:Tx w K mg a d v) {k:Nat} (h:2≤k):∃ ad fd ps,Fk P w K mg base (Ew K a) T k "_law_pick" ad fd ps∧L2.aE K fd ps []:=⟨_,_,_,⟨(RW X).mono h,X.qm,X.ql.kp,by decide +kernel⟩,WW X⟩
theorem ZL (X:Tx w K mg a d v):Gf P w K mg base (Ew K a) T 0 DF:=
  ⟨an,an,an,an,an,an,ac (X.qz78) (an),an,an,an,an,an,an,an,fun z=>by cases z⟩
theorem YU (X:Tx w K mg a d v):FO P w K mg base a d 2 7 ["_law_top","_law_bottom"] "_law_low":=by
  rw [FO,OK]; exact aN X.qo ZO (ck X) (ZL X ) aAw (by walk_at "sl") (aC2)
theorem jP (X:Tx w K mg a d v) {k:Nat} (h:2≤k):∃ ad fd ps,Fk P w K mg base (Ew K a) T k "_law_low" ad fd ps∧L2.aE K fd ps []:=⟨_,_,_,⟨(YU X).mono h,X.qp,X.qo.kp,by decide +kernel⟩,aBp X⟩
theorem uA (X:Tx w K mg a d v):Gf P w K mg base (Ew K a) T 2 gH:=
  ⟨ac (jP X (by decide)) (ac (fO X (by decide)) (an)),an,an,an,an,an,an,an,an,an,an,an,an,an,fun z=>by cases z⟩
theorem jA (X:Tx w K mg a d v):FO P w K mg base a d 4 8 ["_law_purse_here"] "_law_plain_share":=by
  rw [FO,lI]; exact aN X.qq sZ (ck X) (uA X) tB (by walk_at "sl") (oM hLT)
theorem KQ (X:Tx w K mg a d v):Gf P w K mg base (Ew K a) T 2 sR:=
  ⟨ac (jP X (by decide)) (ac (fO X (by decide)) (an)),an,an,an,an,an,an,an,an,an,an,an,an,an,fun z=>by cases z⟩
theorem xL (X:Tx w K mg a d v):FO P w K mg base a d 4 9 ["_law_purse_here"] "_law_share":=by
  rw [FO,AF]; exact aN X.qt IV (ck X) (KQ X) LK (by walk_at "sl") (SZ hLT)
theorem aCi (X:Tx w K mg a d v):Gf P w K mg base (Ew K a) T 4 IL:=
  ⟨ac (fO X (by decide)) (ac (⟨_,_,_,⟨(jA X).mono (by decide),X.qr,X.qq.kp,by decide +kernel⟩,lB X⟩) (ac (⟨_,_,_,⟨(xL X).mono (by decide),X.qu,X.qt.kp,by decide +kernel⟩,AG X⟩) (an))),an,an,an,an,an,an,an,an,an,an,an,an,an,fun z=>by cases z⟩
theorem aDe (X:Tx w K mg a d v):FO P w K mg base a d 6 10 ["_law_purse_here","_law_word"] "_law_by":=by
  rw [FO,UW]; exact aN X.qw aCr (ck X) (aCi X) aCK (by walk_at "sl") (TN hLT hL8)
theorem IP (X:Tx w K mg a d v):Gf P w K mg base (Ew K a) T 6 tN:=
  ⟨ac (⟨_,_,_,⟨(aDe X).mono (by decide),X.qx,X.qw.kp,by decide +kernel⟩,aHJ X⟩) (ac (fO X (by decide)) (an)),an,an,an,an,ac (⟨X.qz91,⟨"tuple",PyProof.Rows.boot_tuple,gC⟩,by decide +kernel⟩) (an),ac (X.qz88) (ac (X.qz91) (an)),an,an,an,an,an,an,an,fun z=>by cases z⟩
theorem MM (X:Tx w K mg a d v):FO P w K mg base a d 8 11 ["_law_purse_here","_law_many"] "_law_deeds":=by
  rw [FO,AE]; exact aN X.qy IA (ck X) (IP X) JM (by walk_at "sl") (PF hLT hL8)
theorem UK (X:Tx w K mg a d v):Gf P w K mg base (Ew K a) T 8 yH:=
  ⟨ac (fO X (by decide)) (an),ac (⟨"Shade","Shade.__init__",_,_,_,⟨by rw [show (Ew K a).cls "Shade"=a 55 from aF]; exact X.qz67,(bN X).mono (by decide),by rw [show (Ew K a).cls "Shade"=a 55 from aF]; exact X.qz66,jD hPT,by decide +kernel⟩,dU X⟩) (an),an,ac (⟨"Shade","Shade.__init__",_,_,_,⟨by rw [show (Ew K a).cls "Shade"=a 55 from aF]; exact X.qz67,(bN X).mono (by decide),by rw [show (Ew K a).cls "Shade"=a 55 from aF]; exact X.qz66,jD hPT,by decide +kernel⟩,iK X⟩) (an),ac (by rw [kT]; exact sD X.qz66 aF) (an),an,an,an,an,an,an,an,an,an,fun z=>by cases z⟩
theorem TK (X:Tx w K mg a d v):FO P w K mg base a d 10 12 ["_law_purse_here","_law_row"] "_law_made":=by
  rw [FO,ED]; exact aN X.qA OR (ck X) (UK X) PN (by walk_at "sl") (aAM hPT hLT)
theorem JH (X:Tx w K mg a d v):Gf P w K mg base (Ew K a) T 0 sV:=
  ⟨an,an,an,an,an,ac (⟨X.qz83,⟨"int",PyProof.Rows.boot_int,zM⟩,by decide +kernel⟩) (an),ac (X.qz83) (an),an,an,an,an,an,an,an,fun z=>by cases z⟩
theorem IF (X:Tx w K mg a d v):FO P w K mg base a d 2 13 ["_law_cell_here"] "_law_purse":=by
  rw [FO,zR]; exact aN X.qC LH (ck X) (JH X ) HR (by walk_at "sl") (UH)
theorem MI (X:Tx w K mg a d v):Gf P w K mg base (Ew K a) T 2 sT:=
  ⟨ac (jP X (by decide)) (an),an,an,an,an,an,an,an,an,an,an,an,an,an,fun z=>by cases z⟩
theorem MA (X:Tx w K mg a d v):FO P w K mg base a d 4 14 ["_law_a","_law_b"] "_law_minus":=by
  rw [FO,AU]; exact aN X.qE IJ (ck X) (MI X) IZ (by walk_at "sl") (OT hLT)
theorem QO (X:Tx w K mg a d v):Gf P w K mg base (Ew K a) T 2 vX:=
  ⟨ac (jP X (by decide)) (an),an,an,an,an,an,an,an,an,an,an,an,an,an,fun z=>by cases z⟩
theorem RS (X:Tx w K mg a d v):FO P w K mg base a d 4 15 ["_law_a","_law_b"] "_law_plus":=by
  rw [FO,EM]; exact aN X.qG TW (ck X) (QO X) QR (by walk_at "sl") (ZG hLT)
theorem KP (X:Tx w K mg a d v):Gf P w K mg base (Ew K a) T 2 tR:=
  ⟨ac (jP X (by decide)) (an),an,an,an,an,an,an,an,an,an,an,an,an,an,fun z=>by cases z⟩
theorem IH (X:Tx w K mg a d v):FO P w K mg base a d 4 16 ["_law_a","_law_b"] "_law_times":=by
  rw [FO,AA]; exact aN X.qI ML (ck X) (KP X) LR (by walk_at "sl") (SN hLT)
theorem TL (X:Tx w K mg a d v):Gf P w K mg base (Ew K a) T 4 wQ:=
  ⟨ac (⟨_,_,_,⟨(MA X).mono (by decide),X.qF,X.qE.kp,by decide +kernel⟩,SW X⟩) (ac (⟨_,_,_,⟨(RS X).mono (by decide),X.qH,X.qG.kp,by decide +kernel⟩,WY X⟩) (ac (⟨_,_,_,⟨(IH X).mono (by decide),X.qJ,X.qI.kp,by decide +kernel⟩,QS X⟩) (an))),an,an,an,an,ac (⟨X.qz83,⟨"int",PyProof.Rows.boot_int,zM⟩,by decide +kernel⟩) (ac (⟨X.qz91,⟨"tuple",PyProof.Rows.boot_tuple,gC⟩,by decide +kernel⟩) (an)),ac (X.qz83) (ac (X.qz88) (ac (X.qz91) (an))),an,an,an,an,an,an,an,fun z=>by cases z⟩
theorem SD (X:Tx w K mg a d v):FO P w K mg base a d 6 17 ["_law_row","_law_word","_law_amount"] "_law_deed":=by
  rw [FO,EC]; exact aN X.qK PP (ck X) (TL X) UA (by walk_at "sl") (EO hLT)
theorem RG (X:Tx w K mg a d v):Gf P w K mg base (Ew K a) T 6 vT:=
  ⟨ac (⟨_,_,_,⟨(SD X).mono (by decide),X.qL,X.qK.kp,by decide +kernel⟩,YJ X⟩) (an),an,an,an,an,an,an,an,an,an,an,an,an,an,fun z=>by cases z⟩
theorem RZ (X:Tx w K mg a d v):FO P w K mg base a d 8 18 ["_law_row","_law_lot"] "_law_done":=by
  rw [FO,HI]; exact aN X.qM OZ (ck X) (RG X) OQ (by walk_at "sl") (aAG hL8)
theorem LP (X:Tx w K mg a d v):Gf P w K mg base (Ew K a) T 0 sS:=
  ⟨an,an,an,an,an,ac (⟨X.qz80,⟨"bool",PyProof.Rows.boot_bool,BP⟩,by decide +kernel⟩) (ac (⟨X.qz83,⟨"int",PyProof.Rows.boot_int,zM⟩,by decide +kernel⟩) (an)),ac (X.qz84) (an),an,an,an,an,an,an,an,fun z=>by cases z⟩
theorem KE (X:Tx w K mg a d v):FO P w K mg base a d 2 19 ["_law_thing"] "_law_whole":=by
  rw [FO,AK]; exact aN X.qO IW (ck X) (LP X ) LS (by walk_at "sl") (RI hPT)
theorem uE (X:Tx w K mg a d v):Gf P w K mg base (Ew K a) T 2 gP:=
  ⟨ac (jP X (by decide)) (ac (⟨_,_,_,⟨(KE X).mono (by decide),X.qP,X.qO.kp,by decide +kernel⟩,UB X⟩) (an)),an,an,an,an,ac (⟨X.qz91,⟨"tuple",PyProof.Rows.boot_tuple,gC⟩,by decide +kernel⟩) (an),ac (X.qz84) (ac (X.qz85) (an)),an,an,an,an,an,an,an,fun z=>by cases z⟩
theorem tT (X:Tx w K mg a d v):FO P w K mg base a d 4 20 ["_law_thing"] "_law_is_fraction":=by
  rw [FO,lH]; exact aN X.qQ sX (ck X) (uE X) uF (by walk_at "sl") (vE hPT hLT)
theorem SY (X:Tx w K mg a d v):Gf P w K mg base (Ew K a) T 0 yC:=
  ⟨an,an,an,an,an,ac (⟨X.qz83,⟨"int",PyProof.Rows.boot_int,zM⟩,by decide +kernel⟩) (ac (⟨X.qz90,⟨"str",PyProof.Rows.boot_str,zZ⟩,by decide +kernel⟩) (an)),ac (X.qz83) (ac (X.qz90) (an)),an,an,an,an,an,an,an,fun z=>by cases z⟩
theorem TY (X:Tx w K mg a d v):FO P w K mg base a d 2 21 ["_law_a"] "_law_text":=by
  rw [FO,HM]; exact aN X.qS SL (ck X) (SY X ) UE (by walk_at "sl") (aAH)
theorem GX (X:Tx w K mg a d v):Gf P w K mg base (Ew K a) T 0 oE:=
  ⟨an,an,an,an,ac (by rw [kT]; exact sD X.qz66 aF) (an),an,ac (X.qz84) (an),an,an,an,an,an,an,an,fun z=>by cases z⟩
theorem uX (X:Tx w K mg a d v):FO P w K mg base a d 2 22 ["thing"] "is_shade":=by
  rw [FO,wO]; exact aN X.qU DY (ck X) (GX X ) GH (by walk_at "sl") (LG hPT)
theorem yQ (X:Tx w K mg a d v):Gf P w K mg base (Ew K a) T 2 kR:=
  ⟨ac (⟨_,_,_,⟨(uX X).mono (by decide),X.qV,X.qU.kp,by decide +kernel⟩,wF X⟩) (an),an,an,an,an,an,an,an,an,an,an,an,an,an,fun z=>by cases z⟩
theorem zG (X:Tx w K mg a d v):FO P w K mg base a d 4 23 ["thing"] "need_shade":=by
  rw [FO,pP]; exact aN X.qW yR (ck X) (yQ X) zF (by walk_at "sl") (DR hPT)
theorem cN (X:Tx w K mg a d v) {k:Nat} (h:4≤k):∃ ad fd ps,Fk P w K mg base (Ew K a) T k "need_shade" ad fd ps∧L2.aE K fd ps []:=⟨_,_,_,⟨(zG X).mono h,X.qX,X.qW.kp,by decide +kernel⟩,CO X⟩
theorem DE (X:Tx w K mg a d v):Gf P w K mg base (Ew K a) T 4 mP:=
  ⟨ac (cN X (by decide)) (an),an,an,an,an,an,an,an,an,an,an,an,an,an,fun z=>by cases z⟩
theorem DG (X:Tx w K mg a d v):FO P w K mg base a d 6 24 ["shade"] "shares_of":=by
  rw [FO,uW]; exact aN X.qY DA (ck X) (DE X) BB (by walk_at "sl") (FT hPT)
theorem bY (X:Tx w K mg a d v) {k:Nat} (h:6≤k):∃ ad fd ps,Fk P w K mg base (Ew K a) T k "shares_of" ad fd ps∧L2.aE K fd ps []:=⟨_,_,_,⟨(DG X).mono h,X.qZ,X.qY.kp,by decide +kernel⟩,GK X⟩
theorem vG (X:Tx w K mg a d v):Gf P w K mg base (Ew K a) T 6 hZ:=
  ⟨ac (bY X (by decide)) (an),an,an,an,ac (by rw [kT]; exact sD X.qz66 aF) (an),an,ac (X.qz84) (an),an,an,an,an,an,an,an,fun z=>by cases z⟩
theorem vA (X:Tx w K mg a d v):FO P w K mg base a d 8 25 ["self","other"] "Shade.__eq__":=by
  rw [FO,lZ]; exact aN X.qz1 uY (ck X) (vG X) uZ (by walk_at "sl") (wK hPT)
theorem JR (X:Tx w K mg a d v):Gf P w K mg base (Ew K a) T 0 tL:=
  ⟨an,an,an,an,ac (by obtain ⟨t,h⟩:=X.qz74; rw [MU]; exact II h) (ac (by obtain ⟨t,h⟩:=X.qz75; rw [lC]; exact II h) (an)),ac (⟨X.qz90,⟨"str",PyProof.Rows.boot_str,zZ⟩,by decide +kernel⟩) (an),ac (X.qz81) (ac (X.qz90) (an)),an,an,an,an,an,an,an,fun z=>by cases z⟩
theorem JX (X:Tx w K mg a d v):FO P w K mg base a d 2 26 ["number"] "figures":=by
  rw [FO,AV]; exact aN X.qz3 JB (ck X) (JR X ) ME (by walk_at "sl") (SS hL8)
theorem KR (X:Tx w K mg a d v):Gf P w K mg base (Ew K a) T 2 tQ:=
  ⟨ac (⟨_,_,_,⟨(JX X).mono (by decide),X.qz4,X.qz3.kp,by decide +kernel⟩,SU X⟩) (an),an,an,an,an,an,an,an,an,an,an,an,an,an,fun z=>by cases z⟩
theorem JF (X:Tx w K mg a d v):FO P w K mg base a d 4 27 ["one"] "written":=by
  rw [FO,zO]; exact aN X.qz5 LI (ck X) (KR X) IY (by walk_at "sl") (SV hL8)
theorem tH (X:Tx w K mg a d v):Gf P w K mg base (Ew K a) T 6 gN:=
  ⟨ac (bY X (by decide)) (ac (⟨_,_,_,⟨(JF X).mono (by decide),X.qz6,X.qz5.kp,by decide +kernel⟩,OY X⟩) (an)),an,an,an,an,an,an,an,an,an,an,an,an,an,fun z=>by cases z⟩
theorem jN (X:Tx w K mg a d v):FO P w K mg base a d 8 28 ["self"] "Shade.__str__":=by
  rw [FO,lG]; exact aN X.qz7 uO (ck X) (tH X) sI (by walk_at "sl") (vB hPT hL8)
theorem rP (X:Tx w K mg a d v):Gf P w K mg base (Ew K a) T 10 fP:=
  ⟨an,an,an,an,an,ac (⟨X.qz90,⟨"str",PyProof.Rows.boot_str,zZ⟩,by decide +kernel⟩) (an),ac (X.qz90) (an),an,an,an,ac (fun b hb=>by rw [show CV.lookup ("str":Str)=some .str from by decide +kernel] at hb; cases hb; exact ac (⟨_,_,8,"__str__",by decide,rfl,by rw [show (Ew K a).cls "Shade"=a 55 from aF]; exact X.qz68,by rw [show (Ew K a).cls "Shade"=a 55 from aF]; exact X.qz8,(jN X),lF X⟩) (an)) (an),an,an,an,fun z=>by cases z⟩
theorem rB (X:Tx w K mg a d v):FO P w K mg base a d 12 29 ["self"] "Shade.__repr__":=by
  rw [FO,jI]; exact aN X.qz9 rJ (ck X) (rP X) rA (by walk_at "sl") (uB hL8)
theorem tZ (X:Tx w K mg a d v):Gf P w K mg base (Ew K a) T 6 gK:=
  ⟨ac (bY X (by decide)) (an),an,an,an,an,an,ac (X.qz85) (an),an,an,an,an,an,an,an,fun z=>by cases z⟩
theorem jG (X:Tx w K mg a d v):FO P w K mg base a d 8 30 ["self"] "Shade.__len__":=by
  rw [FO,lD]; exact aN X.qz11 uL (ck X) (tZ X) sL (by walk_at "sl") (oH hPT)
theorem aBB (X:Tx w K mg a d v):Gf P w K mg base (Ew K a) T 14 HY:=
  ⟨ac (⟨_,_,_,⟨(tT X).mono (by decide),X.qR,X.qQ.kp,by decide +kernel⟩,vF X⟩) (ac (⟨_,_,_,⟨(TY X).mono (by decide),X.qT,X.qS.kp,by decide +kernel⟩,VA X⟩) (ac (⟨_,_,_,⟨(uX X).mono (by decide),X.qV,X.qU.kp,by decide +kernel⟩,wF X⟩) (ac (bY X (by decide)) (an)))),ac (⟨"Shade","Shade.__init__",_,_,_,⟨by rw [show (Ew K a).cls "Shade"=a 55 from aF]; exact X.qz67,(bN X).mono (by decide),by rw [show (Ew K a).cls "Shade"=a 55 from aF]; exact X.qz66,jD hPT,by decide +kernel⟩,dU X⟩) (an),an,an,ac (by rw [kT]; exact sD X.qz66 aF) (an),ac (⟨X.qz80,⟨"bool",PyProof.Rows.boot_bool,BP⟩,by decide +kernel⟩) (ac (⟨X.qz90,⟨"str",PyProof.Rows.boot_str,zZ⟩,by decide +kernel⟩) (an)),ac (X.qz79) (ac (X.qz80) (ac (X.qz85) (ac (X.qz89) (ac (X.qz90) (an))))),an,ac (⟨_,_,by rw [show (Ew K a).cls "Shade"=a 55 from aF]; exact X.qz68,by rw [show (Ew K a).cls "Shade"=a 55 from aF]; exact X.qz2,(vA X).mono (by decide),wT X⟩) (an),an,ac (fun b hb=>by rw [show CV.lookup ("str":Str)=some .str from by decide +kernel] at hb; cases hb; exact ac (⟨_,_,8,"__str__",by decide,rfl,by rw [show (Ew K a).cls "Shade"=a 55 from aF]; exact X.qz68,by rw [show (Ew K a).cls "Shade"=a 55 from aF]; exact X.qz8,(jN X),lF X⟩) (an)) (ac (fun b hb=>by rw [show CV.lookup ("repr":Str)=some .repr from by decide +kernel] at hb; cases hb; exact ac (⟨_,_,12,"__repr__",by decide,rfl,by rw [show (Ew K a).cls "Shade"=a 55 from aF]; exact X.qz68,by rw [show (Ew K a).cls "Shade"=a 55 from aF]; exact X.qz10,(rB X),sH X⟩) (an)) (ac (fun b hb=>by rw [show CV.lookup ("len":Str)=some .len from by decide +kernel] at hb; cases hb; exact ac (⟨_,_,8,"__len__",by decide,rfl,by rw [show (Ew K a).cls "Shade"=a 55 from aF]; exact X.qz68,by rw [show (Ew K a).cls "Shade"=a 55 from aF]; exact X.qz12,(jG X),lE X⟩) (an)) (ac (fun b hb=>by rw [show CV.lookup ("bool":Str)=some .bool from by decide +kernel] at hb; cases hb; exact ac (⟨_,_,8,"__len__",by decide,rfl,by rw [show (Ew K a).cls "Shade"=a 55 from aF]; exact X.qz68,by rw [show (Ew K a).cls "Shade"=a 55 from aF]; exact X.qz12,(jG X),lE X⟩) (an)) (an)))),an,an,an,fun z=>by cases z⟩
theorem aBC (X:Tx w K mg a d v):FO P w K mg base a d 16 31 ["_law_told","_law_row"] "_law_is":=by
  rw [FO,YY]; exact aN X.qz13 aBz (ck X) (aBB X) aBd (by walk_at "sl") (UC hPT hLT hL8)
theorem TU (X:Tx w K mg a d v):Gf P w K mg base (Ew K a) T 2 yF:=
  ⟨ac (⟨_,_,_,⟨(AN X).mono (by decide),X.qb,X.qa.kp,by decide +kernel⟩,FM X⟩) (an),an,an,an,an,an,ac (X.qz78) (an),an,an,an,an,an,an,an,fun z=>by cases z⟩
theorem RM (X:Tx w K mg a d v):FO P w K mg base a d 4 32 ["top","bottom"] "lowest":=by
  rw [FO,GM]; exact aN X.qz15 TC (ck X) (TU X) RV (by walk_at "sl") (aAV hPT)
theorem mR (X:Tx w K mg a d v) {k:Nat} (h:4≤k):∃ ad fd ps,Fk P w K mg base (Ew K a) T k "lowest" ad fd ps∧L2.aE K fd ps []:=⟨_,_,_,⟨(RM X).mono h,X.qz16,X.qz15.kp,by decide +kernel⟩,YW X⟩
theorem pC (X:Tx w K mg a d v):Gf P w K mg base (Ew K a) T 4 fY:=
  ⟨ac (⟨_,_,_,⟨(mJ X).mono (by decide),X.qf,X.qe.kp,by decide +kernel⟩,nK X⟩) (an),an,an,an,an,an,ac (X.qz82) (an),an,an,an,an,an,an,an,fun z=>by cases z⟩
theorem rK (X:Tx w K mg a d v):FO P w K mg base a d 6 33 ["things"] "need_fractions":=by
  rw [FO,jM]; exact aN X.qz17 pD (ck X) (pC X) rQ (by walk_at "sl") (sG hPT)
theorem cZ (X:Tx w K mg a d v) {k:Nat} (h:6≤k):∃ ad fd ps,Fk P w K mg base (Ew K a) T k "need_fractions" ad fd ps∧L2.aE K fd ps []:=⟨_,_,_,⟨(rK X).mono h,X.qz18,X.qz17.kp,by decide +kernel⟩,sF X⟩
theorem aAu (X:Tx w K mg a d v):Gf P w K mg base (Ew K a) T 6 DH:=
  ⟨ac (mR X (by decide)) (ac (cZ X (by decide)) (an)),an,an,an,an,an,an,an,an,an,an,an,an,an,fun z=>by cases z⟩
theorem EV (X:Tx w K mg a d v):FO P w K mg base a d 8 34 ["one","other"] "minus":=by
  rw [FO,MY]; exact aN X.qz19 VG (ck X) (aAu X) aAB (by walk_at "sl") (aCm hPT)
theorem FJ (X:Tx w K mg a d v):Gf P w K mg base (Ew K a) T 8 nQ:=
  ⟨an,ac (⟨"Shade","Shade.__init__",_,_,_,⟨by rw [show (Ew K a).cls "Shade"=a 55 from aF]; exact X.qz67,(bN X).mono (by decide),by rw [show (Ew K a).cls "Shade"=a 55 from aF]; exact X.qz66,jD hPT,by decide +kernel⟩,dU X⟩) (an),an,an,ac (by rw [kT]; exact sD X.qz66 aF) (an),an,an,an,an,an,an,an,an,an,fun z=>by cases z⟩
theorem mH (X:Tx w K mg a d v):FO P w K mg base a d 10 35 ["shares"] "shade_of":=by
  rw [FO,xR]; exact aN X.qz21 EQ (ck X) (FJ X) HF (by walk_at "sl") (HS hPT)
theorem EA (X:Tx w K mg a d v):Gf P w K mg base (Ew K a) T 10 oJ:=
  ⟨ac (⟨_,_,_,⟨(EV X).mono (by decide),X.qz20,X.qz19.kp,by decide +kernel⟩,NO X⟩) (ac (⟨_,_,_,⟨(mH X).mono (by decide),X.qz22,X.qz21.kp,by decide +kernel⟩,nR X⟩) (ac (bY X (by decide)) (an))),an,an,an,ac (by obtain ⟨b,t0,t1,n,sl,h,l⟩:=X.qz73; rw [WD]; exact vK (vP rfl h l) (by first | rfl | exact CF.symm)) (an),an,an,an,an,an,an,an,an,an,fun z=>by cases z⟩
theorem FR (X:Tx w K mg a d v):FO P w K mg base a d 12 36 ["shade"] "opposite":=by
  rw [FO,xY]; exact aN X.qz23 GB (ck X) (EA X) ES (by walk_at "sl") (zD hPT)
theorem LQ (X:Tx w K mg a d v):Gf P w K mg base (Ew K a) T 6 sB:=
  ⟨ac (⟨_,_,_,⟨(mM X).mono (by decide),X.qh,X.qg.kp,by decide +kernel⟩,nV X⟩) (an),an,an,an,ac (by obtain ⟨b,t0,t1,n,sl,h,l⟩:=X.qz71; rw [XN]; exact vK (vP rfl h l) (by first | rfl | exact CF.symm)) (an),an,an,an,an,an,an,an,an,an,fun z=>by cases z⟩
theorem nX (X:Tx w K mg a d v):FO P w K mg base a d 8 37 ["by"] "part_of":=by
  rw [FO,AI]; exact aN X.qz25 KI (ck X) (LQ X) HX (by walk_at "sl") (BO hPT hL8)
theorem aCS (X:Tx w K mg a d v):Gf P w K mg base (Ew K a) T 6 IC:=
  ⟨ac (mR X (by decide)) (ac (cZ X (by decide)) (an)),an,an,an,an,an,an,an,an,an,an,an,an,an,fun z=>by cases z⟩
theorem OF (X:Tx w K mg a d v):FO P w K mg base a d 8 38 ["one","other"] "plus":=by
  rw [FO,XZ]; exact aN X.qz27 aCz (ck X) (aCS X) aC9 (by walk_at "sl") (aGr hPT)
theorem aAf (X:Tx w K mg a d v):Gf P w K mg base (Ew K a) T 6 BG:=
  ⟨ac (mR X (by decide)) (ac (cZ X (by decide)) (an)),an,an,an,an,an,an,an,an,an,an,an,an,an,fun z=>by cases z⟩
theorem UM (X:Tx w K mg a d v):FO P w K mg base a d 8 39 ["one","other"] "times":=by
  rw [FO,MX]; exact aN X.qz29 aAz (ck X) (aAf X) VO (by walk_at "sl") (aCq hPT)
theorem TQ (X:Tx w K mg a d v):Gf P w K mg base (Ew K a) T 10 wZ:=
  ⟨ac (⟨_,_,_,⟨(EV X).mono (by decide),X.qz20,X.qz19.kp,by decide +kernel⟩,NO X⟩) (ac (⟨_,_,_,⟨(OF X).mono (by decide),X.qz28,X.qz27.kp,by decide +kernel⟩,XI X⟩) (ac (⟨_,_,_,⟨(mH X).mono (by decide),X.qz22,X.qz21.kp,by decide +kernel⟩,nR X⟩) (ac (bY X (by decide)) (ac (⟨_,_,_,⟨(UM X).mono (by decide),X.qz30,X.qz29.kp,by decide +kernel⟩,aBP X⟩) (an))))),an,an,an,an,an,an,an,an,an,an,an,an,an,fun z=>by cases z⟩
theorem tP (X:Tx w K mg a d v):FO P w K mg base a d 12 40 ["shade","goal","part"] "toward":=by
  rw [FO,HD]; exact aN X.qz31 OM (ck X) (TQ X) OP (by walk_at "sl") (GQ hPT)
theorem PY (X:Tx w K mg a d v):Gf P w K mg base (Ew K a) T 12 yG:=
  ⟨ac (cN X (by decide)) (ac (⟨_,_,_,⟨(nX X).mono (by decide),X.qz26,X.qz25.kp,by decide +kernel⟩,sN X⟩) (ac (⟨_,_,_,⟨(tP X).mono (by decide),X.qz32,X.qz31.kp,by decide +kernel⟩,xJ X⟩) (an))),an,an,an,ac (by obtain ⟨b,t0,t1,n,sl,h,l⟩:=X.qz76; rw [aAq]; exact vK (vP rfl h l) (by first | rfl | exact CF.symm)) (an),an,an,an,an,an,an,an,an,an,fun z=>by cases z⟩
theorem AR (X:Tx w K mg a d v):FO P w K mg base a d 14 41 ["shade","by"] "darker":=by
  rw [FO,GY]; exact aN X.qz33 OV (ck X) (PY X) OO (by walk_at "sl") (HE hPT hL8)
theorem aBM (X:Tx w K mg a d v):Gf P w K mg base (Ew K a) T 6 LV:=
  ⟨ac (mR X (by decide)) (ac (cZ X (by decide)) (an)),an,an,an,an,an,an,an,an,an,an,an,an,an,fun z=>by cases z⟩
theorem aDf (X:Tx w K mg a d v):FO P w K mg base a d 8 42 ["one","other"] "over":=by
  rw [FO,YR]; exact aN X.qz36 aBh (ck X) (aBM X) aCA (by walk_at "sl") (aGT hPT)
theorem QZ (X:Tx w K mg a d v):Gf P w K mg base (Ew K a) T 12 wN:=
  ⟨ac (cN X (by decide)) (ac (⟨_,_,_,⟨(aDf X).mono (by decide),X.qz37,X.qz36.kp,by decide +kernel⟩,aFb X⟩) (ac (⟨_,_,_,⟨(nX X).mono (by decide),X.qz26,X.qz25.kp,by decide +kernel⟩,sN X⟩) (ac (⟨_,_,_,⟨(OF X).mono (by decide),X.qz28,X.qz27.kp,by decide +kernel⟩,XI X⟩) (ac (⟨_,_,_,⟨(tP X).mono (by decide),X.qz32,X.qz31.kp,by decide +kernel⟩,xJ X⟩) (an))))),an,an,an,an,an,an,an,an,an,an,an,an,an,fun z=>by cases z⟩
theorem AD (X:Tx w K mg a d v):FO P w K mg base a d 14 43 ["shade","by"] "duller":=by
  rw [FO,GV]; exact aN X.qz38 OW (ck X) (QZ X) QG (by walk_at "sl") (EI hPT hL8)
theorem KU (X:Tx w K mg a d v):Gf P w K mg base (Ew K a) T 12 tG:=
  ⟨ac (cN X (by decide)) (ac (⟨_,_,_,⟨(nX X).mono (by decide),X.qz26,X.qz25.kp,by decide +kernel⟩,sN X⟩) (ac (⟨_,_,_,⟨(tP X).mono (by decide),X.qz32,X.qz31.kp,by decide +kernel⟩,xJ X⟩) (an))),an,an,an,ac (by obtain ⟨b,t0,t1,n,sl,h,l⟩:=X.qz73; rw [WD]; exact vK (vP rfl h l) (by first | rfl | exact CF.symm)) (an),an,an,an,an,an,an,an,an,an,fun z=>by cases z⟩
theorem wR (X:Tx w K mg a d v):FO P w K mg base a d 14 44 ["shade","by"] "lighter":=by
  rw [FO,zY]; exact aN X.qz41 KC (ck X) (KU X) HV (by walk_at "sl") (BU hPT hL8)
theorem OU (X:Tx w K mg a d v):Gf P w K mg base (Ew K a) T 10 xA:=
  ⟨ac (⟨_,_,_,⟨(lW X).mono (by decide),X.qd,X.qc.kp,by decide +kernel⟩,oG X⟩) (ac (cN X (by decide)) (ac (⟨_,_,_,⟨(mH X).mono (by decide),X.qz22,X.qz21.kp,by decide +kernel⟩,nR X⟩) (ac (bY X (by decide)) (an)))),an,an,an,an,an,ac (X.qz88) (an),an,an,an,an,an,an,an,fun z=>by cases z⟩
theorem AJ (X:Tx w K mg a d v):FO P w K mg base a d 12 45 ["shade","by"] "turned":=by
  rw [FO,DU]; exact aN X.qz44 SF (ck X) (OU X) SK (by walk_at "sl") (HK hPT)
theorem RN (X:Tx w K mg a d v):Gf P w K mg base (Ew K a) T 14 vZ:=
  ⟨ac (⟨_,_,_,⟨(FR X).mono (by decide),X.qz24,X.qz23.kp,by decide +kernel⟩,KN X⟩) (an),an,an,an,an,an,ac (X.qz85) (an),an,an,an,an,ac (by obtain ⟨b,n,t0,t1,t2,t3,h1,h2,h3⟩:=X.qz77; exact ⟨b,_,n,h1,h2,xC _,h3,fun z=>by rw [GL]; exact NX z (by simp only [List.map_cons,List.map_nil,Ew,kL,jW,iL,kK])⟩) (an),ac (by dsimp only; rw [kL]; exact ⟨_,_,(AR X).mono (by decide),X.qz33.kp,BY X⟩) (ac (by dsimp only; rw [kL]; exact ⟨_,_,(AR X).mono (by decide),X.qz33.kp,BQ X⟩) (ac (by dsimp only; rw [jW]; exact ⟨_,_,(AD X).mono (by decide),X.qz38.kp,CB X⟩) (ac (by dsimp only; rw [jW]; exact ⟨_,_,(AD X).mono (by decide),X.qz38.kp,CH X⟩) (ac (by dsimp only; rw [iL]; exact ⟨_,_,(wR X).mono (by decide),X.qz41.kp,yN X⟩) (ac (by dsimp only; rw [iL]; exact ⟨_,_,(wR X).mono (by decide),X.qz41.kp,yO X⟩) (ac (by dsimp only; rw [kK]; exact ⟨_,_,(AJ X).mono (by decide),X.qz44.kp,BR X⟩) (ac (by dsimp only; rw [kK]; exact ⟨_,_,(AJ X).mono (by decide),X.qz44.kp,BZ X⟩) (an)))))))),an,fun z=>by cases z⟩
theorem RY (X:Tx w K mg a d v):FO P w K mg base a d 16 46 ["shade","deed"] "do_one":=by
  rw [FO,HA]; exact aN X.qz47 RF (ck X) (RN X) TM (by walk_at "sl") (UN hL8)
theorem XO (X:Tx w K mg a d v):Gf P w K mg base (Ew K a) T 6 DQ:=
  ⟨ac (⟨_,_,_,⟨(mM X).mono (by decide),X.qh,X.qg.kp,by decide +kernel⟩,nV X⟩) (ac (⟨_,_,_,⟨(lW X).mono (by decide),X.qd,X.qc.kp,by decide +kernel⟩,oG X⟩) (an)),an,an,an,an,an,an,an,an,an,an,an,an,an,fun z=>by cases z⟩
theorem YN (X:Tx w K mg a d v):FO P w K mg base a d 8 47 ["word","thing"] "is_by":=by
  rw [FO,MW]; exact aN X.qz49 aAN (ck X) (XO X) aAm (by walk_at "sl") (aB0 hPT)
theorem KL (X:Tx w K mg a d v):Gf P w K mg base (Ew K a) T 8 tW:=
  ⟨ac (⟨_,_,_,⟨(YN X).mono (by decide),X.qz50,X.qz49.kp,by decide +kernel⟩,aDa X⟩) (an),an,an,an,an,ac (⟨X.qz90,⟨"str",PyProof.Rows.boot_str,zZ⟩,by decide +kernel⟩) (ac (⟨X.qz91,⟨"tuple",PyProof.Rows.boot_tuple,gC⟩,by decide +kernel⟩) (an)),ac (X.qz84) (ac (X.qz85) (an)),an,an,an,an,ac (by obtain ⟨b,n,t0,t1,t2,t3,h1,h2,h3⟩:=X.qz77; exact ⟨b,_,n,h1,h2,xC _,h3,fun z=>by rw [GL]; exact NX z (by simp only [List.map_cons,List.map_nil,Ew,kL,jW,iL,kK])⟩) (an),an,an,fun z=>by cases z⟩
theorem JC (X:Tx w K mg a d v):FO P w K mg base a d 10 48 ["thing"] "is_deed":=by
  rw [FO,zI]; exact aN X.qz51 KJ (ck X) (KL X) IG (by walk_at "sl") (TR hPT hL8)
theorem yI (X:Tx w K mg a d v):Gf P w K mg base (Ew K a) T 10 kM:=
  ⟨ac (⟨_,_,_,⟨(JC X).mono (by decide),X.qz52,X.qz51.kp,by decide +kernel⟩,UI X⟩) (an),an,an,an,ac (by obtain ⟨t,h⟩:=X.qz72; rw [rX]; exact II h) (an),ac (⟨X.qz91,⟨"tuple",PyProof.Rows.boot_tuple,gC⟩,by decide +kernel⟩) (an),ac (X.qz82) (ac (X.qz84) (ac (X.qz85) (an))),an,an,an,an,an,an,an,fun z=>by cases z⟩
theorem yX (X:Tx w K mg a d v):FO P w K mg base a d 12 49 ["deeds"] "need_deeds":=by
  rw [FO,rR]; exact aN X.qz53 yZ (ck X) (yI X) zB (by walk_at "sl") (DO hPT hL8)
theorem aCa (X:Tx w K mg a d v):Gf P w K mg base (Ew K a) T 16 LD:=
  ⟨ac (⟨_,_,_,⟨(RY X).mono (by decide),X.qz48,X.qz47.kp,by decide +kernel⟩,YX X⟩) (ac (⟨_,_,_,⟨(yX X).mono (by decide),X.qz54,X.qz53.kp,by decide +kernel⟩,DB X⟩) (ac (cN X (by decide)) (an))),an,an,an,an,an,an,an,an,an,an,an,an,an,fun z=>by cases z⟩
theorem NE (X:Tx w K mg a d v):FO P w K mg base a d 18 50 ["shade","deeds"] "done":=by
  rw [FO,aAX]; exact aN X.qz55 aCW (ck X) (aCa X) aBg (by walk_at "sl") (aH1 hPT hL8)
theorem ID (X:Tx w K mg a d v):Gf P w K mg base (Ew K a) T 80 sE:=
  ⟨ac (⟨_,_,_,⟨(RZ X).mono (by decide),X.qN,X.qM.kp,by decide +kernel⟩,YI X⟩) (ac (⟨_,_,_,⟨(aBC X).mono (by decide),X.qz14,X.qz13.kp,by decide +kernel⟩,aHi X⟩) (ac (⟨_,_,_,⟨(NE X).mono (by decide),X.qz56,X.qz55.kp,by decide +kernel⟩,aIc X⟩) (an))),an,ac (⟨_,_,_,⟨(NE X).mono (by decide),X.qz56,X.qz55.kp,by decide +kernel⟩,lK X⟩) (an),an,an,an,ac (X.qz89) (an),an,an,an,an,an,an,an,fun _=>by decide⟩
theorem IB (X:Tx w K mg a d v):FO P w K mg base a d 82 51 ["_law_one","_law_row","_law_lot","_law_at"] "_law_right":=by
  rw [FO,AW]; exact aN X.qz57 KK (ck X) (ID X) MD (by walk_at "sl") (DN hL8)
theorem EG (X:Tx w K mg a d v):Gf P w K mg base (Ew K a) T 4 nY:=
  ⟨ac (fO X (by decide)) (ac (⟨_,_,_,⟨(xL X).mono (by decide),X.qu,X.qt.kp,by decide +kernel⟩,AG X⟩) (an)),an,an,an,an,ac (⟨X.qz91,⟨"tuple",PyProof.Rows.boot_tuple,gC⟩,by decide +kernel⟩) (an),ac (X.qz88) (ac (X.qz91) (an)),an,an,an,an,an,an,an,fun z=>by cases z⟩
theorem GD (X:Tx w K mg a d v):FO P w K mg base a d 6 52 ["_law_purse_here"] "_law_shares":=by
  rw [FO,wM]; exact aN X.qz59 FH (ck X) (EG X) DZ (by walk_at "sl") (MO hLT)
theorem MQ (X:Tx w K mg a d v):Gf P w K mg base (Ew K a) T 0 uD:=
  ⟨an,an,an,an,an,ac (⟨X.qz91,⟨"tuple",PyProof.Rows.boot_tuple,gC⟩,by decide +kernel⟩) (an),ac (X.qz82) (ac (X.qz84) (ac (X.qz85) (ac (X.qz91) (an)))),an,an,an,an,an,an,an,fun z=>by cases z⟩
theorem JQ (X:Tx w K mg a d v):FO P w K mg base a d 2 53 ["_law_lot"] "_law_short":=by
  rw [FO,AL]; exact aN X.qz61 LJ (ck X) (MQ X ) IT (by walk_at "sl") (QQ hPT)
theorem aHn (X:Tx w K mg a d v):Gf P w K mg base (Ew K a) T 82 ZJ:=
  ⟨ac (⟨_,_,_,⟨(PR X).mono (by decide),X.qk,X.qj.kp,by decide +kernel⟩,XQ X⟩) (ac (⟨_,_,_,⟨(MM X).mono (by decide),X.qz,X.qy.kp,by decide +kernel⟩,RE X⟩) (ac (⟨_,_,_,⟨(TK X).mono (by decide),X.qB,X.qA.kp,by decide +kernel⟩,UT X⟩) (ac (fO X (by decide)) (ac (⟨_,_,_,⟨(jA X).mono (by decide),X.qr,X.qq.kp,by decide +kernel⟩,lB X⟩) (ac (⟨_,_,_,⟨(IF X).mono (by decide),X.qD,X.qC.kp,by decide +kernel⟩,RQ X⟩) (ac (⟨_,_,_,⟨(IB X).mono (by decide),X.qz58,X.qz57.kp,by decide +kernel⟩,TF X⟩) (ac (⟨_,_,_,⟨(GD X).mono (by decide),X.qz60,X.qz59.kp,by decide +kernel⟩,LW X⟩) (ac (⟨_,_,_,⟨(JQ X).mono (by decide),X.qz62,X.qz61.kp,by decide +kernel⟩,QP X⟩) (an))))))))),ac (⟨"Shade","Shade.__init__",_,_,_,⟨by rw [show (Ew K a).cls "Shade"=a 55 from aF]; exact X.qz67,(bN X).mono (by decide),by rw [show (Ew K a).cls "Shade"=a 55 from aF]; exact X.qz66,jD hPT,by decide +kernel⟩,dU X⟩) (an),an,an,ac (by rw [kT]; exact sD X.qz66 aF) (an),ac (⟨X.qz91,⟨"tuple",PyProof.Rows.boot_tuple,gC⟩,by decide +kernel⟩) (an),ac (X.qz85) (ac (X.qz86) (ac (X.qz87) (ac (X.qz88) (ac (X.qz91) (an))))),an,an,an,an,an,an,an,fun z=>by cases z⟩
theorem aHY (X:Tx w K mg a d v):FO P w K mg base a d 84 54 ["_law_script"] "law":=by
  rw [FO,aEg]; exact aN X.qz63 aG6 (ck X) (aHn X) aHp (by walk_at "sl") (aIl hPT hLT hLM hL8)
noncomputable abbrev zA (K:W.Frag) (x:Str) (f:Addr):Prop:=W.nsIn K mainGlobals x=some (some (.ref f))
noncomputable abbrev zL (K:W.Frag) (f:Addr) (x y:Str) (s:Stmt) (d m c:Value):Prop:=K.lookup f=some ⟨.type "function",none,.func (fX x y s d m c), #[]⟩
noncomputable abbrev zC (K:W.Frag) (c:Value) (x:Str):Prop:=W.codeIn K c x=true
noncomputable abbrev zK (K:W.Frag) (f:Addr):Prop:=W.keepIn K (.ref f)=true
theorem aHX {l:W.OpenLaw} {w:World} {K:W.Frag} {h:Heap} {mg:Str→Option Value} {fa:Addr} {f0 f1 f2 f3 f4 f5 f6 f7 f8 f9 f10 f11 f12 f13 f14 f15 f16 f17 f18 f19 f20 f21 f22 f23 f24 f25 f26 f27 f28 f29 f30 f31 f32 f33 f34 f35 f36 f37 f38 f39 f40 f41 f42 f43 f44 f45 f46 f47 f48 f49 f50 f51 f52 f53 f54:Addr} {pm0 cd0 pm1 cd1 pm2 cd2 pm3 cd3 pm4 cd4 pm5 cd5 pm6 cd6 pm7 cd7 pm8 cd8 pm9 cd9 pm10 cd10 pm11 cd11 pm12 cd12 pm13 cd13 pm14 cd14 pm15 cd15 pm16 cd16 pm17 cd17 pm18 cd18 pm19 cd19 pm20 cd20 pm21 cd21 pm22 cd22 pm23 cd23 pm24 cd24 pm25 cd25 pm26 cd26 pm27 cd27 pm28 cd28 pm29 cd29 pm30 cd30 pm31 cd31 pm32 cd32 pm33 cd33 pm34 cd34 pm35 cd35 pm36 cd36 pm37 cd37 pm38 cd38 pm39 cd39 pm40 cd40 pm41 cd41 pm42 cd42 pm43 cd43 pm44 cd44 pm45 cd45 pm46 cd46 pm47 cd47 pm48 cd48 pm49 cd49 pm50 cd50 pm51 cd51 pm52 cd52 pm53 cd53 pm54 cd54:Value} (X:K.In h) (G:h.Ns mainGlobals mg) (hfa:mg "law"=some (.ref fa))
    {C_Shade:Addr} (u1:zA K "Shade" C_Shade) (u2:W.plainGet K C_Shade Str.empty=true) (u3:W.hasDictIn K C_Shade=true) (u4:W.plainOver K C_Shade=true) (u5:W.findIn K (.ref C_Shade) "__setattr__"=some (some (.builtin "object.__setattr__"))) (u6:W.makesIn K C_Shade=true) (u7:zK K C_Shade)
    (u8:W.findIn K (.ref C_Shade) "__class__"=some (some (.builtin "object.__class__"))) (u9:W.specialIn K (.builtin "object.__class__") "__get__"=some (some (.builtin "getset_descriptor.__get__"))) (ua:W.takesIn K (.builtin "object.__class__")=some true) (ub:W.mroIn K C_Shade (.type "object")=some true)
    (uc:W.findIn K (.ref C_Shade) "__ne__"=some (some (.builtin "object.__ne__"))) (ud:W.subIn K (.ref C_Shade) (.type "object")=some true) (ue:W.findIn K (.ref C_Shade) "__bool__"=some none)
    (uf:W.kitOne K (.type "NoneType") (.ref C_Shade)=some false)
    (u10:W.kitOne K (.type "bool") (.ref C_Shade)=some false)
    (u11:W.kitOne K (.type "int") (.ref C_Shade)=some false)
    (u12:W.kitOne K (.type "str") (.ref C_Shade)=some false)
    (u13:W.kitOne K (.type "list") (.ref C_Shade)=some false)
    (u14:W.kitOne K (.type "tuple") (.ref C_Shade)=some false)
    (u15:W.kitOne K (.type "dict") (.ref C_Shade)=some false)
    (u16:W.kitOne K (.ref C_Shade) (.type "int")=some false)
    (u17:W.kitOne K (.ref C_Shade) (.type "bool")=some false)
    (u18:W.kitOne K (.ref C_Shade) (.type "tuple")=some false)
    (u19:W.kitOne K (.ref C_Shade) (.type "str")=some false)
    (u1a:W.kitOne K (.ref C_Shade) (.type "list")=some false)
    (u1b:W.kitOne K (.ref C_Shade) (.type "dict")=some false)
    (u1c:W.findIn K (.ref C_Shade) "ember"=some none)
    (u1d:W.findIn K (.ref C_Shade) "leaf"=some none)
    (u1e:W.findIn K (.ref C_Shade) "sky"=some none)
    {ac_HALF:Addr} {t1_HALF t2_HALF:Tok} {odc_HALF:Option Addr} {nc_HALF:Nat} {slc_HALF:Array (Option Value)} (u1f:zA K "HALF" ac_HALF) (u20:K.lookup ac_HALF=some ⟨.type "tuple",none,.seq #[.int 1 t1_HALF,.int 2 t2_HALF] nc_HALF,slc_HALF⟩)
    {tk_MOST_DEEDS:Tok} (u21:W.nsIn K mainGlobals "MOST_DEEDS"=some (some (.int 20 tk_MOST_DEEDS)))
    {ac_ONE:Addr} {t1_ONE t2_ONE:Tok} {odc_ONE:Option Addr} {nc_ONE:Nat} {slc_ONE:Array (Option Value)} (u22:zA K "ONE" ac_ONE) (u23:K.lookup ac_ONE=some ⟨.type "tuple",none,.seq #[.int 1 t1_ONE,.int 1 t2_ONE] nc_ONE,slc_ONE⟩)
    {tk_PIECE:Tok} (u24:W.nsIn K mainGlobals "PIECE"=some (some (.int 10000000000000000000000000000000000000000000000000000000000000000 tk_PIECE)))
    {tk_PIECE_FIGURES:Tok} (u25:W.nsIn K mainGlobals "PIECE_FIGURES"=some (some (.int 64 tk_PIECE_FIGURES)))
    {ac_ZERO:Addr} {t1_ZERO t2_ZERO:Tok} {odc_ZERO:Option Addr} {nc_ZERO:Nat} {slc_ZERO:Array (Option Value)} (u26:zA K "ZERO" ac_ZERO) (u27:K.lookup ac_ZERO=some ⟨.type "tuple",none,.seq #[.int 0 t1_ZERO,.int 1 t2_ZERO] nc_ZERO,slc_ZERO⟩)
    {ad_BY_WORD:Addr} {nd_BY_WORD:Nat} {td0_BY_WORD td1_BY_WORD td2_BY_WORD td3_BY_WORD:Tok} (u28:zA K "BY_WORD" ad_BY_WORD) (u29:K.lookup ad_BY_WORD=some ⟨.type "dict",none,.dict #[⟨PyData.keyHash w.params ("lighter":Str),.str "lighter" td0_BY_WORD,.ref f44⟩,⟨PyData.keyHash w.params ("darker":Str),.str "darker" td1_BY_WORD,.ref f41⟩,⟨PyData.keyHash w.params ("duller":Str),.str "duller" td2_BY_WORD,.ref f43⟩,⟨PyData.keyHash w.params ("turned":Str),.str "turned" td3_BY_WORD,.ref f45⟩] nd_BY_WORD, #[]⟩) (u2a:(ad_BY_WORD == sysModules)=false)
    (a0:zA K "common" f0)
    (l0:zL K f0 "common" "common" eX .none pm0 cd0) (c0:zC K cd0 "common") (k0:zK K f0)
    (a1:zA K "is_whole" f1)
    (l1:zL K f1 "is_whole" "is_whole" cF .none pm1 cd1) (c1:zC K cd1 "is_whole") (k1:zK K f1)
    (a2:zA K "is_fraction" f2)
    (l2:zL K f2 "is_fraction" "is_fraction" bD .none pm2 cd2) (c2:zC K cd2 "is_fraction") (k2:zK K f2)
    (a3:zA K "is_share" f3)
    (l3:zL K f3 "is_share" "is_share" cC .none pm3 cd3) (c3:zC K cd3 "is_share") (k3:zK K f3)
    (a4:W.findIn K (.ref C_Shade) "__init__"=some (some (.ref f4))) (i4:W.isFn K (.ref f4)=true)
    (l4:zL K f4 "__init__" "Shade.__init__" aT .none pm4 cd4) (c4:zC K cd4 "Shade.__init__") (k4:zK K f4)
    (a5:zA K "_law_cell" f5)
    (l5:zL K f5 "_law_cell" "_law_cell" fM .none pm5 cd5) (c5:zC K cd5 "_law_cell") (k5:zK K f5)
    (a6:zA K "_law_pick" f6)
    (l6:zL K f6 "_law_pick" "_law_pick" eZ .none pm6 cd6) (c6:zC K cd6 "_law_pick") (k6:zK K f6)
    (a7:zA K "_law_low" f7)
    (l7:zL K f7 "_law_low" "_law_low" gU .none pm7 cd7) (c7:zC K cd7 "_law_low") (k7:zK K f7)
    (a8:zA K "_law_plain_share" f8)
    (l8:zL K f8 "_law_plain_share" "_law_plain_share" aX .none pm8 cd8) (c8:zC K cd8 "_law_plain_share") (k8:zK K f8)
    (a9:zA K "_law_share" f9)
    (l9:zL K f9 "_law_share" "_law_share" dY .none pm9 cd9) (c9:zC K cd9 "_law_share") (k9:zK K f9)
    (a10:zA K "_law_by" f10)
    (l10:zL K f10 "_law_by" "_law_by" jS .none pm10 cd10) (c10:zC K cd10 "_law_by") (k10:zK K f10)
    (a11:zA K "_law_deeds" f11)
    (l11:zL K f11 "_law_deeds" "_law_deeds" dN .none pm11 cd11) (c11:zC K cd11 "_law_deeds") (k11:zK K f11)
    (a12:zA K "_law_made" f12)
    (l12:zL K f12 "_law_made" "_law_made" fN .none pm12 cd12) (c12:zC K cd12 "_law_made") (k12:zK K f12)
    (a13:zA K "_law_purse" f13)
    (l13:zL K f13 "_law_purse" "_law_purse" dQ .none pm13 cd13) (c13:zC K cd13 "_law_purse") (k13:zK K f13)
    (a14:zA K "_law_minus" f14)
    (l14:zL K f14 "_law_minus" "_law_minus" dP .none pm14 cd14) (c14:zC K cd14 "_law_minus") (k14:zK K f14)
    (a15:zA K "_law_plus" f15)
    (l15:zL K f15 "_law_plus" "_law_plus" fL .none pm15 cd15) (c15:zC K cd15 "_law_plus") (k15:zK K f15)
    (a16:zA K "_law_times" f16)
    (l16:zL K f16 "_law_times" "_law_times" eA .none pm16 cd16) (c16:zC K cd16 "_law_times") (k16:zK K f16)
    (a17:zA K "_law_deed" f17)
    (l17:zL K f17 "_law_deed" "_law_deed" fA .none pm17 cd17) (c17:zC K cd17 "_law_deed") (k17:zK K f17)
    (a18:zA K "_law_done" f18)
    (l18:zL K f18 "_law_done" "_law_done" fK .none pm18 cd18) (c18:zC K cd18 "_law_done") (k18:zK K f18)
    (a19:zA K "_law_whole" f19)
    (l19:zL K f19 "_law_whole" "_law_whole" dL .none pm19 cd19) (c19:zC K cd19 "_law_whole") (k19:zK K f19)
    (a20:zA K "_law_is_fraction" f20)
    (l20:zL K f20 "_law_is_fraction" "_law_is_fraction" aY .none pm20 cd20) (c20:zC K cd20 "_law_is_fraction") (k20:zK K f20)
    (a21:zA K "_law_text" f21)
    (l21:zL K f21 "_law_text" "_law_text" fE .none pm21 cd21) (c21:zC K cd21 "_law_text") (k21:zK K f21)
    (a22:zA K "is_shade" f22)
    (l22:zL K f22 "is_shade" "is_shade" bZ .none pm22 cd22) (c22:zC K cd22 "is_shade") (k22:zK K f22)
    (a23:zA K "need_shade" f23)
    (l23:zL K f23 "need_shade" "need_shade" bJ .none pm23 cd23) (c23:zC K cd23 "need_shade") (k23:zK K f23)
    (a24:zA K "shares_of" f24)
    (l24:zL K f24 "shares_of" "shares_of" bR .none pm24 cd24) (c24:zC K cd24 "shares_of") (k24:zK K f24)
    (a25:W.findIn K (.ref C_Shade) "__eq__"=some (some (.ref f25))) (i25:W.isFn K (.ref f25)=true)
    (l25:zL K f25 "__eq__" "Shade.__eq__" bB .none pm25 cd25) (c25:zC K cd25 "Shade.__eq__") (k25:zK K f25)
    (a26:zA K "figures" f26)
    (l26:zL K f26 "figures" "figures" dW .none pm26 cd26) (c26:zC K cd26 "figures") (k26:zK K f26)
    (a27:zA K "written" f27)
    (l27:zL K f27 "written" "written" eB .none pm27 cd27) (c27:zC K cd27 "written") (k27:zK K f27)
    (a28:W.findIn K (.ref C_Shade) "__str__"=some (some (.ref f28))) (i28:W.isFn K (.ref f28)=true)
    (l28:zL K f28 "__str__" "Shade.__str__" aW .none pm28 cd28) (c28:zC K cd28 "Shade.__str__") (k28:zK K f28)
    (a29:W.findIn K (.ref C_Shade) "__repr__"=some (some (.ref f29))) (i29:W.isFn K (.ref f29)=true)
    (l29:zL K f29 "__repr__" "Shade.__repr__" aR .none pm29 cd29) (c29:zC K cd29 "Shade.__repr__") (k29:zK K f29)
    (a30:W.findIn K (.ref C_Shade) "__len__"=some (some (.ref f30))) (i30:W.isFn K (.ref f30)=true)
    (l30:zL K f30 "__len__" "Shade.__len__" aV .none pm30 cd30) (c30:zC K cd30 "Shade.__len__") (k30:zK K f30)
    (a31:zA K "_law_is" f31)
    (l31:zL K f31 "_law_is" "_law_is" jX .none pm31 cd31) (c31:zC K cd31 "_law_is") (k31:zK K f31)
    (a32:zA K "lowest" f32)
    (l32:zL K f32 "lowest" "lowest" fJ .none pm32 cd32) (c32:zC K cd32 "lowest") (k32:zK K f32)
    (a33:zA K "need_fractions" f33)
    (l33:zL K f33 "need_fractions" "need_fractions" aS .none pm33 cd33) (c33:zC K cd33 "need_fractions") (k33:zK K f33)
    (a34:zA K "minus" f34)
    (l34:zL K f34 "minus" "minus" gW .none pm34 cd34) (c34:zC K cd34 "minus") (k34:zK K f34)
    (a35:zA K "shade_of" f35)
    (l35:zL K f35 "shade_of" "shade_of" cA .none pm35 cd35) (c35:zC K cd35 "shade_of") (k35:zK K f35)
    (a36:zA K "opposite" f36)
    (l36:zL K f36 "opposite" "opposite" cH .none pm36 cd36) (c36:zC K cd36 "opposite") (k36:zK K f36)
    (a37:zA K "part_of" f37)
    (l37:zL K f37 "part_of" "part_of" eC .none pm37 cd37) (c37:zC K cd37 "part_of") (k37:zK K f37)
    (a38:zA K "plus" f38)
    (l38:zL K f38 "plus" "plus" kU .none pm38 cd38) (c38:zC K cd38 "plus") (k38:zK K f38)
    (a39:zA K "times" f39)
    (l39:zL K f39 "times" "times" gS .none pm39 cd39) (c39:zC K cd39 "times") (k39:zK K f39)
    (a40:zA K "toward" f40)
    (l40:zL K f40 "toward" "toward" fI .none pm40 cd40) (c40:zC K cd40 "toward") (k40:zK K f40)
    {bd41:Addr} {ocd41:Value} {odd41:Option Addr} {nd41:Nat} {sld41:Array (Option Value)}
    (a41:zA K "darker" f41)
    (l41:zL K f41 "darker" "darker" eW (.ref bd41) pm41 cd41) (c41:zC K cd41 "darker") (k41:zK K f41)
    (u2b:K.lookup bd41=some ⟨ocd41,odd41,.seq #[.none] nd41,sld41⟩)
    (a42:zA K "over" f42)
    (l42:zL K f42 "over" "over" kA .none pm42 cd42) (c42:zC K cd42 "over") (k42:zK K f42)
    {bd43:Addr} {ocd43:Value} {odd43:Option Addr} {nd43:Nat} {sld43:Array (Option Value)}
    (a43:zA K "duller" f43)
    (l43:zL K f43 "duller" "duller" fF (.ref bd43) pm43 cd43) (c43:zC K cd43 "duller") (k43:zK K f43)
    (u2c:K.lookup bd43=some ⟨ocd43,odd43,.seq #[.none] nd43,sld43⟩)
    {bd44:Addr} {ocd44:Value} {odd44:Option Addr} {nd44:Nat} {sld44:Array (Option Value)}
    (a44:zA K "lighter" f44)
    (l44:zL K f44 "lighter" "lighter" dM (.ref bd44) pm44 cd44) (c44:zC K cd44 "lighter") (k44:zK K f44)
    (u2d:K.lookup bd44=some ⟨ocd44,odd44,.seq #[.none] nd44,sld44⟩)
    {bd45:Addr} {ocd45:Value} {odd45:Option Addr} {nd45:Nat} {sld45:Array (Option Value)}
    (a45:zA K "turned" f45)
    (l45:zL K f45 "turned" "turned" fG (.ref bd45) pm45 cd45) (c45:zC K cd45 "turned") (k45:zK K f45)
    (u2e:K.lookup bd45=some ⟨ocd45,odd45,.seq #[.none] nd45,sld45⟩)
    (a46:zA K "do_one" f46)
    (l46:zL K f46 "do_one" "do_one" eY .none pm46 cd46) (c46:zC K cd46 "do_one") (k46:zK K f46)
    (a47:zA K "is_by" f47)
    (l47:zL K f47 "is_by" "is_by" gX .none pm47 cd47) (c47:zC K cd47 "is_by") (k47:zK K f47)
    (a48:zA K "is_deed" f48)
    (l48:zL K f48 "is_deed" "is_deed" dJ .none pm48 cd48) (c48:zC K cd48 "is_deed") (k48:zK K f48)
    (a49:zA K "need_deeds" f49)
    (l49:zL K f49 "need_deeds" "need_deeds" bH .none pm49 cd49) (c49:zC K cd49 "need_deeds") (k49:zK K f49)
    (a50:zA K "done" f50)
    (l50:zL K f50 "done" "done" kW .none pm50 cd50) (c50:zC K cd50 "done") (k50:zK K f50)
    (a51:zA K "_law_right" f51)
    (l51:zL K f51 "_law_right" "_law_right" dX .none pm51 cd51) (c51:zC K cd51 "_law_right") (k51:zK K f51)
    (a52:zA K "_law_shares" f52)
    (l52:zL K f52 "_law_shares" "_law_shares" cD .none pm52 cd52) (c52:zC K cd52 "_law_shares") (k52:zK K f52)
    (a53:zA K "_law_short" f53)
    (l53:zL K f53 "_law_short" "_law_short" dZ .none pm53 cd53) (c53:zC K cd53 "_law_short") (k53:zK K f53)
    (a54:zA K "law" f54)
    (l54:zL K f54 "law" "law" mL .none pm54 cd54) (c54:zC K cd54 "law") (k54:zK K f54)
    (u2f:W.nsIn K mainGlobals "abs"=some none)
    (u30:W.nsIn K mainGlobals "all"=some none)
    (u31:W.nsIn K mainGlobals "bool"=some none)
    (u32:W.nsIn K mainGlobals "divmod"=some none)
    (u33:W.nsIn K mainGlobals "enumerate"=some none)
    (u34:W.nsIn K mainGlobals "int"=some none)
    (u35:W.nsIn K mainGlobals "isinstance"=some none)
    (u36:W.nsIn K mainGlobals "len"=some none)
    (u37:W.nsIn K mainGlobals "max"=some none)
    (u38:W.nsIn K mainGlobals "min"=some none)
    (u39:W.nsIn K mainGlobals "range"=some none)
    (u3a:W.nsIn K mainGlobals "repr"=some none)
    (u3b:W.nsIn K mainGlobals "str"=some none)
    (u3c:W.nsIn K mainGlobals "tuple"=some none)
    :∃ fd:FuncData,(∀ (s:Shared) (v:Value),BindsTo s fd ⟨[v],[]⟩ [("_law_script",v)])∧∀ base:Heap,K.In base→base.Ns mainGlobals mg→bS l.prog w K mg base CX0 84 fa fd ["_law_script"] (OB K):=by
  have e:=hfa.symm.trans (W.mg_of X G a54)
  have e2:f54=fa:=by injection e with e; injection e with e; exact e.symm
  subst e2
  have T:Tx w K mg (fun i=>([f0,f1,f2,f3,f4,f5,f6,f7,f8,f9,f10,f11,f12,f13,f14,f15,f16,f17,f18,f19,f20,f21,f22,f23,f24,f25,f26,f27,f28,f29,f30,f31,f32,f33,f34,f35,f36,f37,f38,f39,f40,f41,f42,f43,f44,f45,f46,f47,f48,f49,f50,f51,f52,f53,f54,C_Shade]:List Addr).getD i 0) (fun i=>([fX "common" "common" eX .none pm0 cd0,fX "is_whole" "is_whole" cF .none pm1 cd1,fX "is_fraction" "is_fraction" bD .none pm2 cd2,fX "is_share" "is_share" cC .none pm3 cd3,fX "__init__" "Shade.__init__" aT .none pm4 cd4,fX "_law_cell" "_law_cell" fM .none pm5 cd5,fX "_law_pick" "_law_pick" eZ .none pm6 cd6,fX "_law_low" "_law_low" gU .none pm7 cd7,fX "_law_plain_share" "_law_plain_share" aX .none pm8 cd8,fX "_law_share" "_law_share" dY .none pm9 cd9,fX "_law_by" "_law_by" jS .none pm10 cd10,fX "_law_deeds" "_law_deeds" dN .none pm11 cd11,fX "_law_made" "_law_made" fN .none pm12 cd12,fX "_law_purse" "_law_purse" dQ .none pm13 cd13,fX "_law_minus" "_law_minus" dP .none pm14 cd14,fX "_law_plus" "_law_plus" fL .none pm15 cd15,fX "_law_times" "_law_times" eA .none pm16 cd16,fX "_law_deed" "_law_deed" fA .none pm17 cd17,fX "_law_done" "_law_done" fK .none pm18 cd18,fX "_law_whole" "_law_whole" dL .none pm19 cd19,fX "_law_is_fraction" "_law_is_fraction" aY .none pm20 cd20,fX "_law_text" "_law_text" fE .none pm21 cd21,fX "is_shade" "is_shade" bZ .none pm22 cd22,fX "need_shade" "need_shade" bJ .none pm23 cd23,fX "shares_of" "shares_of" bR .none pm24 cd24,fX "__eq__" "Shade.__eq__" bB .none pm25 cd25,fX "figures" "figures" dW .none pm26 cd26,fX "written" "written" eB .none pm27 cd27,fX "__str__" "Shade.__str__" aW .none pm28 cd28,fX "__repr__" "Shade.__repr__" aR .none pm29 cd29,fX "__len__" "Shade.__len__" aV .none pm30 cd30,fX "_law_is" "_law_is" jX .none pm31 cd31,fX "lowest" "lowest" fJ .none pm32 cd32,fX "need_fractions" "need_fractions" aS .none pm33 cd33,fX "minus" "minus" gW .none pm34 cd34,fX "shade_of" "shade_of" cA .none pm35 cd35,fX "opposite" "opposite" cH .none pm36 cd36,fX "part_of" "part_of" eC .none pm37 cd37,fX "plus" "plus" kU .none pm38 cd38,fX "times" "times" gS .none pm39 cd39,fX "toward" "toward" fI .none pm40 cd40,fX "darker" "darker" eW (.ref bd41) pm41 cd41,fX "over" "over" kA .none pm42 cd42,fX "duller" "duller" fF (.ref bd43) pm43 cd43,fX "lighter" "lighter" dM (.ref bd44) pm44 cd44,fX "turned" "turned" fG (.ref bd45) pm45 cd45,fX "do_one" "do_one" eY .none pm46 cd46,fX "is_by" "is_by" gX .none pm47 cd47,fX "is_deed" "is_deed" dJ .none pm48 cd48,fX "need_deeds" "need_deeds" bH .none pm49 cd49,fX "done" "done" kW .none pm50 cd50,fX "_law_right" "_law_right" dX .none pm51 cd51,fX "_law_shares" "_law_shares" cD .none pm52 cd52,fX "_law_short" "_law_short" dZ .none pm53 cd53,fX "law" "law" mL .none pm54 cd54]:List FuncData).getD i (fX "law" "law" mL .none pm54 cd54)) (fun i=>([.none,.none,.none,.none,.none,.none,.none,.none,.none,.none,.none,.none,.none,.none,.none,.none,.none,.none,.none,.none,.none,.none,.none,.none,.none,.none,.none,.none,.none,.none,.none,.none,.none,.none,.none,.none,.none,.none,.none,.none,.none,.ref bd41,.none,.ref bd43,.ref bd44,.ref bd45,.none,.none,.none,.none,.none,.none,.none,.none,.none]:List Value).getD i .none) :=
    ⟨aD (st:=eX) l0 c0 k0,
     W.mg_of X G a0,
     aD (st:=cF) l1 c1 k1,
     W.mg_of X G a1,
     aD (st:=bD) l2 c2 k2,
     W.mg_of X G a2,
     aD (st:=cC) l3 c3 k3,
     W.mg_of X G a3,
     aD (st:=aT) l4 c4 k4,
     aD (st:=fM) l5 c5 k5,
     W.mg_of X G a5,
     aD (st:=eZ) l6 c6 k6,
     W.mg_of X G a6,
     aD (st:=gU) l7 c7 k7,
     W.mg_of X G a7,
     aD (st:=aX) l8 c8 k8,
     W.mg_of X G a8,
     aD (st:=dY) l9 c9 k9,
     W.mg_of X G a9,
     aD (st:=jS) l10 c10 k10,
     W.mg_of X G a10,
     aD (st:=dN) l11 c11 k11,
     W.mg_of X G a11,
     aD (st:=fN) l12 c12 k12,
     W.mg_of X G a12,
     aD (st:=dQ) l13 c13 k13,
     W.mg_of X G a13,
     aD (st:=dP) l14 c14 k14,
     W.mg_of X G a14,
     aD (st:=fL) l15 c15 k15,
     W.mg_of X G a15,
     aD (st:=eA) l16 c16 k16,
     W.mg_of X G a16,
     aD (st:=fA) l17 c17 k17,
     W.mg_of X G a17,
     aD (st:=fK) l18 c18 k18,
     W.mg_of X G a18,
     aD (st:=dL) l19 c19 k19,
     W.mg_of X G a19,
     aD (st:=aY) l20 c20 k20,
     W.mg_of X G a20,
     aD (st:=fE) l21 c21 k21,
     W.mg_of X G a21,
     aD (st:=bZ) l22 c22 k22,
     W.mg_of X G a22,
     aD (st:=bJ) l23 c23 k23,
     W.mg_of X G a23,
     aD (st:=bR) l24 c24 k24,
     W.mg_of X G a24,
     aD (st:=bB) l25 c25 k25,
     ⟨a25,i25,k25⟩,
     aD (st:=dW) l26 c26 k26,
     W.mg_of X G a26,
     aD (st:=eB) l27 c27 k27,
     W.mg_of X G a27,
     aD (st:=aW) l28 c28 k28,
     ⟨a28,i28,k28⟩,
     aD (st:=aR) l29 c29 k29,
     ⟨a29,i29,k29⟩,
     aD (st:=aV) l30 c30 k30,
     ⟨a30,i30,k30⟩,
     aD (st:=jX) l31 c31 k31,
     W.mg_of X G a31,
     aD (st:=fJ) l32 c32 k32,
     W.mg_of X G a32,
     aD (st:=aS) l33 c33 k33,
     W.mg_of X G a33,
     aD (st:=gW) l34 c34 k34,
     W.mg_of X G a34,
     aD (st:=cA) l35 c35 k35,
     W.mg_of X G a35,
     aD (st:=cH) l36 c36 k36,
     W.mg_of X G a36,
     aD (st:=eC) l37 c37 k37,
     W.mg_of X G a37,
     aD (st:=kU) l38 c38 k38,
     W.mg_of X G a38,
     aD (st:=gS) l39 c39 k39,
     W.mg_of X G a39,
     aD (st:=fI) l40 c40 k40,
     W.mg_of X G a40,
     aD (st:=eW) l41 c41 k41,
     ⟨_,_,_,_,_,rfl,u2b⟩,
     W.mg_of X G a41,
     aD (st:=kA) l42 c42 k42,
     W.mg_of X G a42,
     aD (st:=fF) l43 c43 k43,
     ⟨_,_,_,_,_,rfl,u2c⟩,
     W.mg_of X G a43,
     aD (st:=dM) l44 c44 k44,
     ⟨_,_,_,_,_,rfl,u2d⟩,
     W.mg_of X G a44,
     aD (st:=fG) l45 c45 k45,
     ⟨_,_,_,_,_,rfl,u2e⟩,
     W.mg_of X G a45,
     aD (st:=eY) l46 c46 k46,
     W.mg_of X G a46,
     aD (st:=gX) l47 c47 k47,
     W.mg_of X G a47,
     aD (st:=dJ) l48 c48 k48,
     W.mg_of X G a48,
     aD (st:=bH) l49 c49 k49,
     W.mg_of X G a49,
     aD (st:=kW) l50 c50 k50,
     W.mg_of X G a50,
     aD (st:=dX) l51 c51 k51,
     W.mg_of X G a51,
     aD (st:=cD) l52 c52 k52,
     W.mg_of X G a52,
     aD (st:=dZ) l53 c53 k53,
     W.mg_of X G a53,
     aD (st:=mL) l54 c54 k54,
     W.mg_of X G a54,
     ⟨⟨u2,u3,u4,u5⟩,u8,u9,ua,ub⟩,
     W.mg_of X G u1,
     ⟨u6,a4,i4,u7⟩,
     ⟨uc,ud,ue⟩,
     ac (uf) (ac (u10) (ac (u11) (ac (u12) (ac (u13) (ac (u14) (ac (u15) (an))))))),
     ac (u16) (ac (u17) (ac (u18) (ac (u19) (ac (u1a) (ac (u1b) (an)))))),
     u1c,
     u1d,
     u1e,
     ⟨_,_,_,_,_,W.mg_of X G u1f,u20⟩,
     ⟨tk_MOST_DEEDS,W.mg_of X G u21⟩,
     ⟨_,_,_,_,_,W.mg_of X G u22,u23⟩,
     ⟨tk_PIECE,W.mg_of X G u24⟩,
     ⟨tk_PIECE_FIGURES,W.mg_of X G u25⟩,
     ⟨_,_,_,_,_,W.mg_of X G u26,u27⟩,
     ⟨_,_,_,_,_,_,W.mg_of X G u28,u29,u2a⟩,
     W.mg_none_of X G u2f,
     W.mg_none_of X G u30,
     W.mg_none_of X G u31,
     W.mg_none_of X G u32,
     W.mg_none_of X G u33,
     W.mg_none_of X G u34,
     W.mg_none_of X G u35,
     W.mg_none_of X G u36,
     W.mg_none_of X G u37,
     W.mg_none_of X G u38,
     W.mg_none_of X G u39,
     W.mg_none_of X G u3a,
     W.mg_none_of X G u3b,
     W.mg_none_of X G u3c⟩
  refine ⟨fX "law" "law" mL .none pm54 cd54,fun s v=>.of_eq rfl,fun base _ _=>?_⟩
  have ok:=aHY (P:=l.prog) (w:=w) (base:=base) T
  unfold FO at ok
  rw [aEg] at ok
  exact ok.imp fun vs H Q E h=>aHF h
theorem wsd:W.OpenLaw.wellSaid PySem.Challenge.rw_lightshares_k08_deeds_by_name_in_turn=true:=by kernel_rfl
noncomputable abbrev hk0:W.Hook:=W.kHook K0 aK fun _=>rfl
noncomputable def mo0 (P:Params):Obj:=⟨(.type "dict"),none,.dict #[kE P "__name__" 165 zS4,kE P "__doc__" 166 .none,kE P "__package__" 167 .none,kE P "__loader__" 168 (.builtin "__main__.__loader__#opaque"),kE P "__spec__" 169 .none,kE P "__annotations__" 170 (.ref 6),kE P "__builtins__" 171 (.ref 4),kE P "__file__" 173 (.str "/claim/cut.py" 172),kE P "__cached__" 174 .none,kE P "ShadeError" 206 (.ref 24),kE P "NoNumber" 231 (.ref 44),kE P "NoShade" 256 (.ref 63),kE P "NoPart" 281 (.ref 82),kE P "NoDeed" 306 (.ref 101)] 14, #[]⟩
noncomputable def M1:Obj:=oT []
noncomputable def M2:Obj:=oL [iV 2,iV 0,.ref 20,iV 4,iV 0,.ref 33,iV 9,iV 0,.ref 52,iV 14,iV 0,.ref 71,iV 19,iV 0,.ref 90]
noncomputable def M3:Obj:=oC [.str "<module>" 182,.str "<module>" 183,fC 184,iV 1,iV 0,iV 0,iV 0,iV 0,.ref 11,.bool false,iV 181,.ref 12,.none,.none,.none,.none,iV 185,iV 1,fC 186]
noncomputable def M4:Obj:=oR 13 3 (.str "__main__" 164)
noncomputable def M5:Obj:=oT [.type "ValueError"]
noncomputable def M6:Obj:=oB "type.__prepare__" (.type "type")
noncomputable def mo7 (P:Params):Obj:=⟨(.type "dict"),none,.dict #[kE P "__module__" 196 zS4,kE P "__qualname__" 198 (.str "ShadeError" 197),kE P "__firstlineno__" 200 (.int 2 199),kE P "__static_attributes__" 201 (.ref 22)] 4, #[]⟩
noncomputable def M8:Obj:=oL []
noncomputable def M9:Obj:=oC [.str "ShadeError" 191,.str "ShadeError" 192,fC 193,iV 2,iV 0,iV 0,iV 0,iV 0,.ref 18,.bool false,iV 181,.ref 19,.none,.none,.none,.none,iV 194,iV 2,fC 195]
noncomputable def M10:Obj:=oR 20 17 zS4
noncomputable def M11:Obj:=⟨(.type "getset_descriptor"),none,.fields #[(.str "__weakref__" 202),(.ref 24),(.builtin "ExceptionGroup.__weakref__"),.none], #[]⟩
noncomputable def M12:Obj:=oS 24
noncomputable def M13:Obj:=oB "object.__init_subclass__" (.ref 24)
noncomputable def M14:Obj:=oT [.ref 24]
noncomputable def aFP (P:Params):Obj:=⟨(.type "dict"),none,.dict #[kE P "__module__" 214 zS4,kE P "__qualname__" 216 (.str "NoNumber" 215),kE P "__firstlineno__" 218 (.int 4 217),kE P "__init__" 226 (.ref 41),kE P "__static_attributes__" 228 (.ref 42)] 5, #[]⟩
noncomputable def M16:Obj:=oL [iV 6,iV 4,.ref 40]
noncomputable def M17:Obj:=oC [.str "NoNumber" 209,.str "NoNumber" 210,fC 211,iV 4,iV 0,iV 0,iV 0,iV 0,.ref 31,.bool false,iV 181,.ref 32,.none,.none,.none,.none,iV 212,iV 4,fC 213]
noncomputable def M18:Obj:=oR 33 30 zS4
noncomputable def M19:Obj:=oT [.str "self" 222,.str "place" 223]
noncomputable def M20:Obj:=oN "__init__" "NoNumber.__init__" (dS (top 2) 0)
noncomputable def M21:Obj:=oC [.str "__init__" 219,.str "NoNumber.__init__" 220,fC 221,iV 6,iV 2,iV 0,iV 0,iV 3,.ref 35,.bool true,iV 181,.ref 36,.none,.ref 37,.ref 38,.ref 39,iV 224,iV 6,fC 225]
noncomputable def M22:Obj:=oF "__init__" "NoNumber.__init__" (dS (top 2) 0) .none zS4 40
noncomputable def M23:Obj:=oT [.str "place" 227]
noncomputable def M24:Obj:=oS 44
noncomputable def M25:Obj:=oB "object.__init_subclass__" (.ref 44)
noncomputable def aFB (P:Params):Obj:=⟨(.type "dict"),none,.dict #[kE P "__module__" 239 zS4,kE P "__qualname__" 241 (.str "NoShade" 240),kE P "__firstlineno__" 243 (.int 9 242),kE P "__init__" 251 (.ref 60),kE P "__static_attributes__" 253 (.ref 61)] 5, #[]⟩
noncomputable def M27:Obj:=oL [iV 11,iV 4,.ref 59]
noncomputable def M28:Obj:=oC [.str "NoShade" 234,.str "NoShade" 235,fC 236,iV 9,iV 0,iV 0,iV 0,iV 0,.ref 50,.bool false,iV 181,.ref 51,.none,.none,.none,.none,iV 237,iV 9,fC 238]
noncomputable def M29:Obj:=oR 52 49 zS4
noncomputable def M30:Obj:=oT [.str "self" 247,.str "light" 248]
noncomputable def M31:Obj:=oN "__init__" "NoShade.__init__" (dS (top 3) 0)
noncomputable def M32:Obj:=oC [.str "__init__" 244,.str "NoShade.__init__" 245,fC 246,iV 11,iV 2,iV 0,iV 0,iV 3,.ref 54,.bool true,iV 181,.ref 55,.none,.ref 56,.ref 57,.ref 58,iV 249,iV 11,fC 250]
noncomputable def M33:Obj:=oF "__init__" "NoShade.__init__" (dS (top 3) 0) .none zS4 59
noncomputable def M34:Obj:=oT [.str "light" 252]
noncomputable def M35:Obj:=oS 63
noncomputable def M36:Obj:=oB "object.__init_subclass__" (.ref 63)
noncomputable def aFF (P:Params):Obj:=⟨(.type "dict"),none,.dict #[kE P "__module__" 264 zS4,kE P "__qualname__" 266 (.str "NoPart" 265),kE P "__firstlineno__" 268 (.int 14 267),kE P "__init__" 276 (.ref 79),kE P "__static_attributes__" 278 (.ref 80)] 5, #[]⟩
noncomputable def M38:Obj:=oL [iV 16,iV 4,.ref 78]
noncomputable def M39:Obj:=oC [.str "NoPart" 259,.str "NoPart" 260,fC 261,iV 14,iV 0,iV 0,iV 0,iV 0,.ref 69,.bool false,iV 181,.ref 70,.none,.none,.none,.none,iV 262,iV 14,fC 263]
noncomputable def M40:Obj:=oR 71 68 zS4
noncomputable def M41:Obj:=oT [.str "self" 272,.str "part" 273]
noncomputable def M42:Obj:=oN "__init__" "NoPart.__init__" (dS (top 4) 0)
noncomputable def M43:Obj:=oC [.str "__init__" 269,.str "NoPart.__init__" 270,fC 271,iV 16,iV 2,iV 0,iV 0,iV 3,.ref 73,.bool true,iV 181,.ref 74,.none,.ref 75,.ref 76,.ref 77,iV 274,iV 16,fC 275]
noncomputable def M44:Obj:=oF "__init__" "NoPart.__init__" (dS (top 4) 0) .none zS4 78
noncomputable def M45:Obj:=oT [.str "part" 277]
noncomputable def M46:Obj:=oS 82
noncomputable def M47:Obj:=oB "object.__init_subclass__" (.ref 82)
noncomputable def aHe (P:Params):Obj:=⟨(.type "dict"),none,.dict #[kE P "__module__" 289 zS4,kE P "__qualname__" 291 (.str "NoDeed" 290),kE P "__firstlineno__" 293 (.int 19 292),kE P "__init__" 301 (.ref 98),kE P "__static_attributes__" 303 (.ref 99)] 5, #[]⟩
noncomputable def M49:Obj:=oL [iV 21,iV 4,.ref 97]
noncomputable def M50:Obj:=oC [.str "NoDeed" 284,.str "NoDeed" 285,fC 286,iV 19,iV 0,iV 0,iV 0,iV 0,.ref 88,.bool false,iV 181,.ref 89,.none,.none,.none,.none,iV 287,iV 19,fC 288]
noncomputable def M51:Obj:=oR 90 87 zS4
noncomputable def M52:Obj:=oT [.str "self" 297,.str "place" 298]
noncomputable def M53:Obj:=oN "__init__" "NoDeed.__init__" (dS (top 5) 0)
noncomputable def M54:Obj:=oC [.str "__init__" 294,.str "NoDeed.__init__" 295,fC 296,iV 21,iV 2,iV 0,iV 0,iV 3,.ref 92,.bool true,iV 181,.ref 93,.none,.ref 94,.ref 95,.ref 96,iV 299,iV 21,fC 300]
noncomputable def M55:Obj:=oF "__init__" "NoDeed.__init__" (dS (top 5) 0) .none zS4 97
noncomputable def M56:Obj:=oT [.str "place" 302]
noncomputable def M57:Obj:=oS 101
noncomputable def M58:Obj:=oB "object.__init_subclass__" (.ref 101)
noncomputable def aLR (P:Params):Obj:=⟨(.type "dict"),none,.dict #[kE P "__name__" 165 zS1,kE P "__doc__" 166 .none,kE P "__package__" 167 .none,kE P "__loader__" 168 (.builtin "__main__.__loader__#opaque"),kE P "__spec__" 169 .none,kE P "__annotations__" 170 (.ref 6),kE P "__builtins__" 171 (.ref 4),kE P "__file__" 173 (.str "/claim/cut.py" 172),kE P "__cached__" 174 .none,kE P "ShadeError" 206 (.ref 24),kE P "NoNumber" 231 (.ref 44),kE P "NoShade" 256 (.ref 63),kE P "NoPart" 281 (.ref 82),kE P "NoDeed" 306 (.ref 101),kE P "ZERO" 311 (.ref 104),kE P "ONE" 314 (.ref 105),kE P "PIECE_FIGURES" 316 (.int 64 315),kE P "PIECE" 320 (.int 10000000000000000000000000000000000000000000000000000000000000000 319),kE P "is_whole" 327 (.ref 112),kE P "common" 335 (.ref 119),kE P "is_fraction" 344 (.ref 126),kE P "lowest" 353 (.ref 133),kE P "need_fractions" 362 (.ref 140),kE P "plus" 370 (.ref 147),kE P "minus" 378 (.ref 154),kE P "times" 386 (.ref 161),kE P "over" 394 (.ref 168),kE P "figures" 403 (.ref 175),kE P "written" 410 (.ref 182),kE P "is_share" 419 (.ref 189),kE P "Shade" 482 (.ref 230),kE P "is_shade" 489 (.ref 241),kE P "need_shade" 496 (.ref 248),kE P "shares_of" 503 (.ref 255),kE P "shade_of" 513 (.ref 262),kE P "MOST_DEEDS" 517 (.int 20 516),kE P "HALF" 520 (.ref 263),kE P "part_of" 527 (.ref 270),kE P "toward" 533 (.ref 275)] 39, #[]⟩
noncomputable def M60:Obj:=oL [iV 2,iV 0,.ref 20,iV 4,iV 0,.ref 33,iV 9,iV 0,.ref 52,iV 14,iV 0,.ref 71,iV 19,iV 0,.ref 90,iV 29,iV 0,.ref 111,iV 31,iV 0,.ref 118,iV 35,iV 0,.ref 125,iV 40,iV 0,.ref 132,iV 45,iV 0,.ref 139,iV 49,iV 0,.ref 146,iV 52,iV 0,.ref 153,iV 55,iV 0,.ref 160,iV 58,iV 0,.ref 167,iV 63,iV 0,.ref 174,iV 70,iV 0,.ref 181,iV 75,iV 0,.ref 188,iV 77,iV 0,.ref 195,iV 98,iV 0,.ref 240,iV 100,iV 0,.ref 247,iV 103,iV 0,.ref 254,iV 106,iV 0,.ref 261,iV 112,iV 0,.ref 269,iV 118,iV 0,.ref 274]
noncomputable def M61:Obj:=oT [.str "thing" 324]
noncomputable def M62:Obj:=oN "is_whole" "is_whole" cF
noncomputable def M63:Obj:=oT [.str "one" 331,.str "other" 332]
noncomputable def M64:Obj:=oN "common" "common" eX
noncomputable def M65:Obj:=oT [.str "thing" 339,.str "top" 340,.str "bottom" 341]
noncomputable def M66:Obj:=oN "is_fraction" "is_fraction" bD
noncomputable def M67:Obj:=oT [.str "top" 348,.str "bottom" 349,.str "shared" 350]
noncomputable def M68:Obj:=oN "lowest" "lowest" fJ
noncomputable def M69:Obj:=oT [.str "things" 357,.str "place" 358,.str "thing" 359]
noncomputable def M70:Obj:=oN "need_fractions" "need_fractions" aS
noncomputable def M71:Obj:=oT [.str "one" 366,.str "other" 367]
noncomputable def M72:Obj:=oN "plus" "plus" kU
noncomputable def M73:Obj:=oT [.str "one" 374,.str "other" 375]
noncomputable def M74:Obj:=oN "minus" "minus" gW
noncomputable def M75:Obj:=oT [.str "one" 382,.str "other" 383]
noncomputable def M76:Obj:=oN "times" "times" gS
noncomputable def M77:Obj:=oT [.str "one" 390,.str "other" 391]
noncomputable def M78:Obj:=oN "over" "over" kA
noncomputable def M79:Obj:=oT [.str "number" 398,.str "pieces" 399,.str "piece" 400]
noncomputable def M80:Obj:=oN "figures" "figures" dW
noncomputable def M81:Obj:=oT [.str "one" 407]
noncomputable def M82:Obj:=oN "written" "written" eB
noncomputable def M83:Obj:=oT [.str "thing" 416]
noncomputable def M84:Obj:=oN "is_share" "is_share" cC
noncomputable def aJU (P:Params):Obj:=⟨(.type "dict"),none,.dict #[kE P "__module__" 427 zS2,kE P "__qualname__" 429 (.str "Shade" 428),kE P "__firstlineno__" 431 (.int 77 430),kE P "__init__" 443 (.ref 203),kE P "__eq__" 451 (.ref 210),kE P "__len__" 457 (.ref 215),kE P "__str__" 463 (.ref 220),kE P "__repr__" 470 (.ref 227),kE P "__static_attributes__" 474 (.ref 228)] 9, #[]⟩
noncomputable def M86:Obj:=oL [iV 79,iV 4,.ref 202,iV 87,iV 4,.ref 209,iV 90,iV 4,.ref 214,iV 93,iV 4,.ref 219,iV 96,iV 4,.ref 226]
noncomputable def M87:Obj:=oC [.str "Shade" 422,.str "Shade" 423,fC 424,iV 77,iV 0,iV 0,iV 0,iV 0,.ref 193,.bool false,iV 181,.ref 194,.none,.none,.none,.none,iV 425,iV 77,fC 426]
noncomputable def M88:Obj:=oR 195 192 zS2
noncomputable def M89:Obj:=oT [.str "self" 435,.str "ember" 436,.str "leaf" 437,.str "sky" 438,.str "light" 439,.str "share" 440]
noncomputable def M90:Obj:=oN "__init__" "Shade.__init__" aT
noncomputable def M91:Obj:=oT [.str "self" 447,.str "other" 448]
noncomputable def M92:Obj:=oN "__eq__" "Shade.__eq__" bB
noncomputable def M93:Obj:=oN "__len__" "Shade.__len__" aV
noncomputable def M94:Obj:=oN "__str__" "Shade.__str__" aW
noncomputable def M95:Obj:=oT [.str "self" 467]
noncomputable def M96:Obj:=oN "__repr__" "Shade.__repr__" aR
noncomputable def M97:Obj:=oT [.str "ember" 471,.str "leaf" 472,.str "sky" 473]
noncomputable def M98:Obj:=⟨(.type "getset_descriptor"),none,.fields #[(.str "__dict__" 475),(.ref 230),(.builtin "function.__dict__"),(.builtin "function.__dict__#set")], #[]⟩
noncomputable def M99:Obj:=⟨(.type "getset_descriptor"),none,.fields #[(.str "__weakref__" 477),(.ref 230),(.builtin "ExceptionGroup.__weakref__"),.none], #[]⟩
noncomputable def aKh:Obj:=oS 230
noncomputable def aKu:Obj:=oB "object.__init_subclass__" (.ref 230)
noncomputable def aJH:Obj:=oT [.str "thing" 486]
noncomputable def aKE:Obj:=oN "is_shade" "is_shade" bZ
noncomputable def aIC:Obj:=oT [.str "thing" 493]
noncomputable def aIr:Obj:=oN "need_shade" "need_shade" bJ
noncomputable def aKp:Obj:=oT [.str "shade" 500]
noncomputable def aKt:Obj:=oN "shares_of" "shares_of" bR
noncomputable def aJi:Obj:=oT [.str "shares" 507,.str "ember" 508,.str "leaf" 509,.str "sky" 510]
noncomputable def aKo:Obj:=oN "shade_of" "shade_of" cA
noncomputable def aJJ:Obj:=oT [.str "by" 524]
noncomputable def aJP:Obj:=oN "part_of" "part_of" eC
noncomputable def aJ2:Obj:=oN "toward" "toward" fI
noncomputable def aMG:Obj:=oL [iV 2,iV 0,.ref 20,iV 4,iV 0,.ref 33,iV 9,iV 0,.ref 52,iV 14,iV 0,.ref 71,iV 19,iV 0,.ref 90,iV 29,iV 0,.ref 111,iV 31,iV 0,.ref 118,iV 35,iV 0,.ref 125,iV 40,iV 0,.ref 132,iV 45,iV 0,.ref 139,iV 49,iV 0,.ref 146,iV 52,iV 0,.ref 153,iV 55,iV 0,.ref 160,iV 58,iV 0,.ref 167,iV 63,iV 0,.ref 174,iV 70,iV 0,.ref 181,iV 75,iV 0,.ref 188,iV 77,iV 0,.ref 195,iV 98,iV 0,.ref 240,iV 100,iV 0,.ref 247,iV 103,iV 0,.ref 254,iV 106,iV 0,.ref 261,iV 112,iV 0,.ref 269,iV 118,iV 0,.ref 274,iV 120,iV 0,.ref 282,iV 123,iV 0,.ref 290,iV 126,iV 0,.ref 298,iV 131,iV 0,.ref 304,iV 139,iV 0,.ref 309,iV 142,iV 0,.ref 317,iV 148,iV 0,.ref 324,iV 157,iV 0,.ref 331,iV 163,iV 0,.ref 338,iV 170,iV 0,.ref 345,iV 177,iV 0,.ref 352,iV 184,iV 0,.ref 359,iV 186,iV 0,.ref 366,iV 195,iV 0,.ref 373,iV 197,iV 0,.ref 380,iV 204,iV 0,.ref 387,iV 206,iV 0,.ref 394,iV 208,iV 0,.ref 401,iV 210,iV 0,.ref 408,iV 214,iV 0,.ref 415,iV 216,iV 0,.ref 422,iV 220,iV 0,.ref 429,iV 222,iV 0,.ref 434,iV 230,iV 0,.ref 441,iV 234,iV 0,.ref 446,iV 251,iV 0,.ref 453,iV 257,iV 0,.ref 458,iV 267,iV 0,.ref 465,iV 278,iV 0,.ref 472,iV 282,iV 0,.ref 479,iV 290,iV 0,.ref 486,iV 297,iV 0,.ref 491]
noncomputable def aLm:Obj:=oT [.str "shade" 537,.str "by" 538]
noncomputable def aLH:Obj:=oN "lighter" "lighter" dM
noncomputable def aLM:Obj:=oT [.str "shade" 545,.str "by" 546]
noncomputable def aL3:Obj:=oN "darker" "darker" eW
noncomputable def aMb:Obj:=oT [.str "shade" 553,.str "by" 554,.str "part" 555,.str "together" 556]
noncomputable def aLO:Obj:=oN "duller" "duller" fF
noncomputable def aLW:Obj:=oN "turned" "turned" fG
noncomputable def aLo:Obj:=oN "opposite" "opposite" cH
noncomputable def aMj:Obj:=oT [.str "word" 584,.str "thing" 585]
noncomputable def aL6:Obj:=oN "is_by" "is_by" gX
noncomputable def aLA:Obj:=oT [.str "thing" 592,.str "word" 593]
noncomputable def aLK:Obj:=oN "is_deed" "is_deed" dJ
noncomputable def aMe:Obj:=oT [.str "deeds" 600,.str "place" 601,.str "thing" 602]
noncomputable def aLw:Obj:=oN "need_deeds" "need_deeds" bH
noncomputable def aLe:Obj:=oT [.str "shade" 609,.str "deed" 610,.str "change" 611]
noncomputable def aLx:Obj:=oN "do_one" "do_one" eY
noncomputable def aLy:Obj:=oT [.str "shade" 618,.str "deeds" 619,.str "deed" 620]
noncomputable def aLI:Obj:=oN "done" "done" kW
noncomputable def aMd:Obj:=oT [.str "_law_script" 629,.str "_law_k" 630,.str "_law_state" 631,.str "_law_cell_here" 632]
noncomputable def aL9:Obj:=oN "_law_cell" "_law_cell" fM
noncomputable def aMZ:Obj:=oT [.str "_law_cell_here" 639]
noncomputable def aMM:Obj:=oN "_law_purse" "_law_purse" dQ
noncomputable def aMu:Obj:=oT [.str "_law_purse_here" 646,.str "_law_many" 647,.str "_law_state" 648,.str "_law_taken" 649]
noncomputable def aLf:Obj:=oN "_law_pick" "_law_pick" eZ
noncomputable def aLT:Obj:=oT [.str "_law_thing" 656]
noncomputable def aMi:Obj:=oN "_law_whole" "_law_whole" dL
noncomputable def aMY:Obj:=oT [.str "_law_top" 663,.str "_law_bottom" 664,.str "_law_one" 665,.str "_law_other" 666]
noncomputable def aML:Obj:=oN "_law_low" "_law_low" gU
noncomputable def aLt:Obj:=oT [.str "_law_a" 673,.str "_law_b" 674]
noncomputable def aLU:Obj:=oN "_law_plus" "_law_plus" fL
noncomputable def aMg:Obj:=oT [.str "_law_a" 681,.str "_law_b" 682]
noncomputable def aMS:Obj:=oN "_law_minus" "_law_minus" dP
noncomputable def aLZ:Obj:=oT [.str "_law_a" 689,.str "_law_b" 690]
noncomputable def aLu:Obj:=oN "_law_times" "_law_times" eA
noncomputable def aLh:Obj:=oT [.str "_law_thing" 697]
noncomputable def aMr:Obj:=oN "_law_is_fraction" "_law_is_fraction" aY
noncomputable def aK7:Obj:=oT [.str "_law_a" 704]
noncomputable def aL2:Obj:=oN "_law_text" "_law_text" fE
noncomputable def aME:Obj:=oT [.str "_law_purse_here" 711,.str "_law_way" 712,.str "_law_bottom" 713]
noncomputable def aLb:Obj:=oN "_law_share" "_law_share" dY
noncomputable def aLS:Obj:=oT [.str "_law_purse_here" 720]
noncomputable def aMo:Obj:=oN "_law_plain_share" "_law_plain_share" aX
noncomputable def aMQ:Obj:=oN "_law_shares" "_law_shares" cD
noncomputable def aMU:Obj:=oT [.str "_law_purse_here" 733,.str "_law_row" 734]
noncomputable def aMn:Obj:=oN "_law_made" "_law_made" fN
noncomputable def aMV:Obj:=oN "_law_deed" "_law_deed" fA
noncomputable def aMK:Obj:=oT [.str "_law_purse_here" 747,.str "_law_word" 748,.str "_law_way" 749,.str "_law_some" 750]
noncomputable def aL5:Obj:=oN "_law_by" "_law_by" jS
noncomputable def aMH:Obj:=oN "_law_is" "_law_is" jX
noncomputable def aLr:Obj:=oT [.str "_law_purse_here" 763,.str "_law_many" 764,.str "_law_words" 765,.str "_law_found" 766,.str "_law_k" 767,.str "_law_word" 768,.str "_law_amount" 769]
noncomputable def aLF:Obj:=oN "_law_deeds" "_law_deeds" dN
noncomputable def aMz:Obj:=oT [.str "_law_row" 776,.str "_law_lot" 777,.str "_law_deed_here" 778]
noncomputable def aMs:Obj:=oN "_law_done" "_law_done" fK
noncomputable def aLn:Obj:=oT [.str "_law_one" 785,.str "_law_row" 786,.str "_law_lot" 787,.str "_law_at" 788,.str "_law_due" 789,.str "_law_kept" 790,.str "_law_some" 791,.str "_law_told" 792]
noncomputable def aMk:Obj:=oN "_law_right" "_law_right" dX
noncomputable def aL8:Obj:=oT [.str "_law_lot" 799,.str "_law_found" 800,.str "_law_k" 801,.str "_law_deed_here" 802]
noncomputable def aMF:Obj:=oN "_law_short" "_law_short" dZ
noncomputable def aMD:Obj:=oN "law" "law" mL
noncomputable abbrev pW:Program:=PySem.Challenge.pw_lightshares_k08_deeds_by_name_in_turn
noncomputable abbrev bdy:List Stmt:=W.behindTheImports pW
noncomputable abbrev env0:Env:={ scope:=pW.main.scope,locals:=mainNs,globals:=mainNs,cells:=[],code:=(.ref 13),frame:=some 14 }
noncomputable abbrev cE0:Code:=.body bdy env0
noncomputable abbrev B0:List Frame:=[W.topFrame ⟨0,0,0,0⟩]
noncomputable abbrev S0 (w:World) (os:OsState):Shared:=⟨W.boot_heap w.params,Array.mk [],W.boot_drawn,W.boot_toks,os⟩
theorem aMT:∀ w:World,(W.fencedOpening treeTable pW w 6536).map (fun s=>(s.heap,s.gens,s.drawn,s.toks))=some (W.boot_heap w.params,Array.mk [],W.boot_drawn,W.boot_toks):=W.boot_open (by rfl) (by decide) (fun _=>by rfl)
theorem aLD:∀ w:World,((W.boot_heap w.params).isNs mainGlobals && (Array.mk []:Array GenState).size == 0,(W.boot_heap w.params).objs.size,(W.boot_heap w.params).nsMap mainGlobals "__annotations__")=(true,11,(some (.ref 6))):=by
  intro w
  kernel_rfl
noncomputable def Sa (w:World) (os:OsState):Shared:=aKR (W.topGo treeTable pW w 11 (some (.ref 6)) 12 (S0 w os) (W.topStub pW)) (S0 w os)
theorem aIJ:∀ (w:World) (os:OsState),W.topGo treeTable pW w 11 (some (.ref 6)) 12 (S0 w os) (W.topStub pW)=some (Sa w os,⟨denote treeTable cE0,cE0,⟨0,0,0,0⟩,B0⟩):=by
  intro w os
  kernel_rfl
noncomputable def Sb (w:World) (os:OsState):Shared:=aKA (W.segRun treeTable pW w 11 (some (.ref 6)) 1 1 (Sa w os) (W.blockOf bdy env0 cE0 ⟨0,0,0,0⟩ B0)) (S0 w os)
theorem aJr:∀ (w:World) (os:OsState),W.segRun treeTable pW w 11 (some (.ref 6)) 1 1 (Sa w os) (W.blockOf bdy env0 cE0 ⟨0,0,0,0⟩ B0)=some (.next,Sb w os,cE0,⟨0,0,0,0⟩):=by
  intro w os
  kernel_rfl
noncomputable def hm0 (P:Params):Heap:=⟨#[W.boot_o_0 P,W.boot_o_1 P,W.boot_o_2 P,mo0 P,W.boot_o_4 P,W.boot_o_5 P,W.boot_o_6 P,W.boot_o_7 P,W.boot_o_8 P,W.boot_o_9 P,W.boot_o_10 P,M1,M2,M3,M4,M5,M6,mo7 P,M1,M8,M9,M10,M1,aC1 P,aBt P,M11,M12,M13,M14,M6,aFP P,M1,M16,M17,M18,M1,M8,M19,M1,M20,M21,M22,M23,aCF P,aCx P,M24,M25,M14,M6,aFB P,M1,M27,M28,M29,M1,M8,M30,M1,M31,M32,M33,M34,aBe P,aBi P,M35,M36,M14,M6,aFF P,M1,M38,M39,M40,M1,M8,M41,M1,M42,M43,M44,M45,aBf P,aBs P,M46,M47,M14,M6,aHe P,M1,M49,M50,M51,M1,M8,M52,M1,M53,M54,M55,M56,OI P,MS P,M57,M58],(W.boot_heap P).life⟩
noncomputable abbrev Sm0 (w:World) (os:OsState):Shared:=⟨hm0 w.params,Array.mk [],W.boot_drawn,307,os⟩
noncomputable abbrev l0:List Stmt:=bdy.take 6
noncomputable abbrev r0:List Stmt:=bdy.drop 6
theorem aL4:∀ (w:World),∀ os:OsState,W.segRun treeTable pW w 11 (some (.ref 6)) 1 1176 (Sb w os) (W.piecesOf l0 env0 cE0 ⟨0,0,0,0⟩ B0)=some (.next,Sm0 w os,cE0,⟨19,0,23,26⟩):=by
  intro w os
  kernel_rfl
noncomputable def hm1 (P:Params):Heap:=⟨#[W.boot_o_0 P,W.boot_o_1 P,W.boot_o_2 P,aLR P,W.boot_o_4 P,W.boot_o_5 P,W.boot_o_6 P,W.boot_o_7 P,W.boot_o_8 P,W.boot_o_9 P,W.boot_o_10 P,M1,M60,M3,M4,M5,M6,mo7 P,M1,M8,M9,M10,M1,aC1 P,aBt P,M11,M12,M13,M14,M6,aFP P,M1,M16,M17,M18,M1,M8,M19,M1,M20,M21,M22,M23,aCF P,aCx P,M24,M25,M14,M6,aFB P,M1,M27,M28,M29,M1,M8,M30,M1,M31,M32,M33,M34,aBe P,aBi P,M35,M36,M14,M6,aFF P,M1,M38,M39,M40,M1,M8,M41,M1,M42,M43,M44,M45,aBf P,aBs P,M46,M47,M14,M6,aHe P,M1,M49,M50,M51,M1,M8,M52,M1,M53,M54,M55,M56,OI P,MS P,M57,M58,UL P,UR P,M1,M8,M61,M1,M62,VQ P,WP P,M1,M8,M63,M1,M64,aAD P,aAP P,M1,M8,M65,M1,M66,aAC P,VB P,M1,M8,M67,M1,M68,aAt P,ZK P,M1,M8,M69,M1,M70,ZX P,aAd P,M1,M8,M71,M1,M72,aAg P,XR P,M1,M8,M73,M1,M74,WO P,VZ P,M1,M8,M75,M1,M76,WR P,YG P,M1,M8,M77,M1,M78,ZZ P,XV P,M1,M8,M79,M1,M80,aAb P,YF P,M1,M8,M81,M1,M82,ZN P,ZW P,M1,M8,M83,M1,M84,ZV P,aAl P,M1,M6,aJU P,M1,M86,M87,M88,M1,M8,M89,M1,M90,VI P,UP P,M1,M8,M91,M1,M92,XT P,WX P,M1,M8,M93,XE P,YM P,M1,M8,M94,WN P,VM P,M1,M8,M95,M1,M96,ZI P,aAR P,M97,aAe P,XD P,M98,M99,aKh,aKu,M1,M8,aJH,M1,aKE,WK P,YD P,M1,M8,aIC,M1,aIr,UY P,aAj P,M1,M8,aKp,M1,aKt,aAr P,YE P,M1,M8,aJi,M1,aKo,YK P,aAi P,aAW P,M1,M8,aJJ,M1,aJP,US P,YH P,M1,M8,aJ2,WF P,ZH P],(W.boot_heap P).life⟩
noncomputable abbrev Sm1 (w:World) (os:OsState):Shared:=⟨hm1 w.params,Array.mk [],W.boot_drawn,534,os⟩
noncomputable abbrev l1:List Stmt:=r0.take 28
noncomputable abbrev r1:List Stmt:=r0.drop 28
theorem aLz:∀ (w:World),∀ os:OsState,W.segRun treeTable pW w 11 (some (.ref 6)) 1 985 (Sm0 w os) (W.piecesOf l1 env0 cE0 ⟨19,0,23,26⟩ B0)=some (.next,Sm1 w os,cE0,⟨118,0,119,97⟩):=by
  intro w os
  kernel_rfl
noncomputable def hm2 (P:Params):Heap:=⟨#[W.boot_o_0 P,W.boot_o_1 P,W.boot_o_2 P,ko3 P,W.boot_o_4 P,W.boot_o_5 P,W.boot_o_6 P,W.boot_o_7 P,W.boot_o_8 P,W.boot_o_9 P,W.boot_o_10 P,M1,aMG,M3,M4,M5,M6,mo7 P,M1,M8,M9,M10,M1,aC1 P,aBt P,M11,M12,M13,M14,M6,aFP P,M1,M16,M17,M18,M1,M8,M19,M1,M20,M21,M22,M23,aCF P,aCx P,M24,M25,M14,M6,aFB P,M1,M27,M28,M29,M1,M8,M30,M1,M31,M32,M33,M34,aBe P,aBi P,M35,M36,M14,M6,aFF P,M1,M38,M39,M40,M1,M8,M41,M1,M42,M43,M44,M45,aBf P,aBs P,M46,M47,M14,M6,aHe P,M1,M49,M50,M51,M1,M8,M52,M1,M53,M54,M55,M56,OI P,MS P,M57,M58,UL P,UR P,M1,M8,M61,M1,M62,VQ P,WP P,M1,M8,M63,M1,M64,aAD P,aAP P,M1,M8,M65,M1,M66,aAC P,VB P,M1,M8,M67,M1,M68,aAt P,ZK P,M1,M8,M69,M1,M70,ZX P,aAd P,M1,M8,M71,M1,M72,aAg P,XR P,M1,M8,M73,M1,M74,WO P,VZ P,M1,M8,M75,M1,M76,WR P,YG P,M1,M8,M77,M1,M78,ZZ P,XV P,M1,M8,M79,M1,M80,aAb P,YF P,M1,M8,M81,M1,M82,ZN P,ZW P,M1,M8,M83,M1,M84,ZV P,aAl P,M1,M6,aJU P,M1,M86,M87,M88,M1,M8,M89,M1,M90,VI P,UP P,M1,M8,M91,M1,M92,XT P,WX P,M1,M8,M93,XE P,YM P,M1,M8,M94,WN P,VM P,M1,M8,M95,M1,M96,ZI P,aAR P,M97,aAe P,XD P,M98,M99,aKh,aKu,M1,M8,aJH,M1,aKE,WK P,YD P,M1,M8,aIC,M1,aIr,UY P,aAj P,M1,M8,aKp,M1,aKt,aAr P,YE P,M1,M8,aJi,M1,aKo,YK P,aAi P,aAW P,M1,M8,aJJ,M1,aJP,US P,YH P,M1,M8,aJ2,WF P,ZH P,EH P,M1,M8,aLm,M1,aLH,aDB P,aEf P,EH P,M1,M8,aLM,M1,aL3,aDU P,aEA P,EH P,M1,M8,aMb,M1,aLO,aDF P,aDY P,EH P,M1,M8,aLW,aDG P,aEt P,M1,M8,aLo,aED P,aDR P,aDx P,M1,M8,aMj,M1,aL6,aEK P,aEk P,M1,M8,aLA,M1,aLK,aDM P,aDD P,M1,M8,aMe,M1,aLw,aDK P,aEH P,M1,M8,aLe,M1,aLx,aEb P,aEm P,M1,M8,aLy,M1,aLI,aEF P,aE4 P,M1,M8,aMd,M1,aL9,aEN P,aDw P,M1,M8,aMZ,M1,aMM,aE6 P,aEY P,M1,M8,aMu,M1,aLf,aDX P,aEd P,M1,M8,aLT,M1,aMi,aDJ P,aEl P,M1,M8,aMY,M1,aML,aEQ P,aEI P,M1,M8,aLt,M1,aLU,aEx P,aE1 P,M1,M8,aMg,M1,aMS,aEL P,aDZ P,M1,M8,aLZ,M1,aLu,aEB P,aD4 P,M1,M8,aLh,M1,aMr,aEo P,aEW P,M1,M8,aK7,M1,aL2,aE2 P,aEn P,M1,M8,aME,M1,aLb,aD2 P,aEc P,M1,M8,aLS,M1,aMo,aEw P,aDN P,M1,M8,aMQ,aDO P,aEJ P,M1,M8,aMU,M1,aMn,aE0 P,aEG P,M1,M8,aMV,aDy P,aEZ P,M1,M8,aMK,M1,aL5,aEM P,aE7 P,M1,M8,aMH,aEp P,aDH P,M1,M8,aLr,M1,aLF,aER P,aEC P,M1,M8,aMz,M1,aMs,aDA P,aD3 P,M1,M8,aLn,M1,aMk,aEy P,aEs P,M1,M8,aL8,M1,aMF,aEv P,aD9 P,M1,M8,aMD,aEO P,aDS P],(W.boot_heap P).life⟩
noncomputable abbrev Sm2 (w:World) (os:OsState):Shared:=⟨hm2 w.params,Array.mk [],W.boot_drawn,812,os⟩
noncomputable abbrev l2:List Stmt:=r1.take 34
noncomputable abbrev r2:List Stmt:=r1.drop 34
theorem aMq:∀ (w:World),∀ os:OsState,W.segRun treeTable pW w 11 (some (.ref 6)) 1 1047 (Sm1 w os) (W.piecesOf l2 env0 cE0 ⟨118,0,119,97⟩ B0)=some (.next,Sm2 w os,cE0,⟨297,0,312,15⟩):=W.byRow2 "special-get-raises" (P:=fun w=>∀ os:OsState,W.segRun treeTable pW w 11 (some (.ref 6)) 1 1047 (Sm1 w os) (W.piecesOf l2 env0 cE0 ⟨118,0,119,97⟩ B0)=some (.next,Sm2 w os,cE0,⟨297,0,312,15⟩)) (fun w os=>by kernel_rfl) (fun w os=>by kernel_rfl)
theorem aIB:∀ (w:World) (os:OsState),(W.topRun treeTable pW w 11 (some (.ref 6)) 21 (Sm2 w os) (W.restOf r2 env0 cE0 ⟨297,0,312,15⟩ B0)).map (fun s₁=>(W.staticsOk (importedModules pW.main.body) (W.boot_heap w.params) s₁.heap && W.namesBound pW s₁.heap && W.gensDone s₁ && W.laidKept (W.boot_heap w.params) s₁.heap,W.openSeen qv lo (importedModules pW.main.body) (fun s=>W.recOk [] s) true s₁,hk0.obs s₁))=some (true,W.openGood qv lo,hk0.val w):=by
  intro w os
  kernel_rfl
theorem hlt:W.LeftO PySem.Challenge.pw_lightshares_k08_deeds_by_name_in_turn qv lo (fun s=>W.recOk [] s) hk0.obs hk0.val 6536:=by
  refine L3.aKI (M:=12 + (1 + (1176 + (985 + (1047 + 21))))) aMT aLD (by decide) fun w os=>?_
  obtain ⟨s₁,e,h⟩:=Option.map_eq_some_iff.mp (aIB w os)
  refine ⟨s₁,W.go_top (aIJ w os) (W.piece_block (aJr w os) ?_),h⟩
  rw [show bdy=l0 ++ r0 from (List.take_append_drop _ _).symm]
  refine W.piece_app (aL4 w os) ?_
  rw [show r0=l1 ++ r1 from (List.take_append_drop _ _).symm]
  refine W.piece_app (aLz w os) ?_
  rw [show r1=l2 ++ r2 from (List.take_append_drop _ _).symm]
  refine W.piece_app (aMq w os) ?_
  exact e
end My
open PySem PySem.W PyProof.Rows
set_option maxRecDepth 100000 in
set_option maxHeartbeats 0 in
theorem PySem.Challenge.cw_lightshares_k08_deeds_by_name_in_turn_holds : PySem.Challenge.rw_lightshares_k08_deeds_by_name_in_turn.Holds := by
  w_on
  refine W.holds_law My.wsd fun said=>?_
  refine W.holds_open (q:=My.qv) (loose:=My.lo) (N:=6536) (XP:=fun _ _=>True)
    (Xt:=fun s=>W.recOk [] s)
    (Yf:=My.hk0.obs) (Ya:=My.hk0.val) (YP:=My.hk0.says)
    My.hlt My.hk0.of My.hk0.keeps
    (fun _ _=>trivial) (fun _ _ _ _ _=>trivial) (by rfl) (by rfl) (by rfl)
    (fun s e=>W.recFacts_of e) (by rfl) (by assumption) (by decide +kernel)
    ⟨rfl,rfl,rfl,rfl,rfl,by decide +kernel⟩ ?hw ?hc
  case hw=>w_witness2
  refine L2.ZA (K:=My.K0) (l:=PySem.Challenge.rw_lightshares_k08_deeds_by_name_in_turn) (n:=63) (k:=84) (x:="_law_script") (CX:=L2.CX0) (sp:=L3.OB)
    rfl (by decide) rfl ⟨rfl,by decide,by decide,fun _=>rfl⟩ (fun w h Y=>W.kIn_of Y) ?F (fun K H a ns hl hO hS=>L3.TX hl hO hS) (fun _ _ _ _ z=>z)
  case F =>
    intro w mg fa h KX G hmg
    refine' My.aHX (C_Shade:=230)
      (f0:=119) (pm0:=My.zS3) (cd0:=(.ref 118))
      (f1:=112) (pm1:=My.zS3) (cd1:=(.ref 111))
      (f2:=126) (pm2:=My.zS3) (cd2:=(.ref 125))
      (f3:=189) (pm3:=My.zS2) (cd3:=(.ref 188))
      (f4:=203) (pm4:=My.zS2) (cd4:=(.ref 202))
      (f5:=353) (pm5:=My.zS0) (cd5:=(.ref 352))
      (f6:=367) (pm6:=My.zS0) (cd6:=(.ref 366))
      (f7:=381) (pm7:=My.zS0) (cd7:=(.ref 380))
      (f8:=430) (pm8:=My.zS0) (cd8:=(.ref 429))
      (f9:=423) (pm9:=My.zS0) (cd9:=(.ref 422))
      (f10:=454) (pm10:=My.zS0) (cd10:=(.ref 453))
      (f11:=466) (pm11:=My.zS0) (cd11:=(.ref 465))
      (f12:=442) (pm12:=My.zS0) (cd12:=(.ref 441))
      (f13:=360) (pm13:=My.zS0) (cd13:=(.ref 359))
      (f14:=395) (pm14:=My.zS0) (cd14:=(.ref 394))
      (f15:=388) (pm15:=My.zS0) (cd15:=(.ref 387))
      (f16:=402) (pm16:=My.zS0) (cd16:=(.ref 401))
      (f17:=447) (pm17:=My.zS0) (cd17:=(.ref 446))
      (f18:=473) (pm18:=My.zS0) (cd18:=(.ref 472))
      (f19:=374) (pm19:=My.zS0) (cd19:=(.ref 373))
      (f20:=409) (pm20:=My.zS0) (cd20:=(.ref 408))
      (f21:=416) (pm21:=My.zS0) (cd21:=(.ref 415))
      (f22:=241) (pm22:=My.zS2) (cd22:=(.ref 240))
      (f23:=248) (pm23:=My.zS2) (cd23:=(.ref 247))
      (f24:=255) (pm24:=My.zS2) (cd24:=(.ref 254))
      (f25:=210) (pm25:=My.zS2) (cd25:=(.ref 209))
      (f26:=175) (pm26:=My.zS3) (cd26:=(.ref 174))
      (f27:=182) (pm27:=My.zS3) (cd27:=(.ref 181))
      (f28:=220) (pm28:=My.zS2) (cd28:=(.ref 219))
      (f29:=227) (pm29:=My.zS2) (cd29:=(.ref 226))
      (f30:=215) (pm30:=My.zS2) (cd30:=(.ref 214))
      (f31:=459) (pm31:=My.zS0) (cd31:=(.ref 458))
      (f32:=133) (pm32:=My.zS3) (cd32:=(.ref 132))
      (f33:=140) (pm33:=My.zS3) (cd33:=(.ref 139))
      (f34:=154) (pm34:=My.zS3) (cd34:=(.ref 153))
      (f35:=262) (pm35:=My.zS2) (cd35:=(.ref 261))
      (f36:=310) (pm36:=My.zS1) (cd36:=(.ref 309))
      (f37:=270) (pm37:=My.zS1) (cd37:=(.ref 269))
      (f38:=147) (pm38:=My.zS3) (cd38:=(.ref 146))
      (f39:=161) (pm39:=My.zS3) (cd39:=(.ref 160))
      (f40:=275) (pm40:=My.zS1) (cd40:=(.ref 274))
      (f41:=291) (pm41:=My.zS1) (cd41:=(.ref 290))
      (bd41:=284) (ocd41:=(.type "tuple")) (odd41:=none) (nd41:=0) (sld41:= #[])
      (f42:=168) (pm42:=My.zS3) (cd42:=(.ref 167))
      (f43:=299) (pm43:=My.zS1) (cd43:=(.ref 298))
      (bd43:=292) (ocd43:=(.type "tuple")) (odd43:=none) (nd43:=0) (sld43:= #[])
      (f44:=283) (pm44:=My.zS1) (cd44:=(.ref 282))
      (bd44:=276) (ocd44:=(.type "tuple")) (odd44:=none) (nd44:=0) (sld44:= #[])
      (f45:=305) (pm45:=My.zS1) (cd45:=(.ref 304))
      (bd45:=300) (ocd45:=(.type "tuple")) (odd45:=none) (nd45:=0) (sld45:= #[])
      (f46:=339) (pm46:=My.zS1) (cd46:=(.ref 338))
      (f47:=318) (pm47:=My.zS1) (cd47:=(.ref 317))
      (f48:=325) (pm48:=My.zS1) (cd48:=(.ref 324))
      (f49:=332) (pm49:=My.zS1) (cd49:=(.ref 331))
      (f50:=346) (pm50:=My.zS1) (cd50:=(.ref 345))
      (f51:=480) (pm51:=My.zS0) (cd51:=(.ref 479))
      (f52:=435) (pm52:=My.zS0) (cd52:=(.ref 434))
      (f53:=487) (pm53:=My.zS0) (cd53:=(.ref 486))
      (f54:=492) (pm54:=My.zS0) (cd54:=(.ref 491))
      (ac_HALF:=263) (t1_HALF:=518) (t2_HALF:=519) (odc_HALF:=none) (nc_HALF:=0) (slc_HALF:= #[])
      (tk_MOST_DEEDS:=516)
      (ac_ONE:=105) (t1_ONE:=312) (t2_ONE:=313) (odc_ONE:=none) (nc_ONE:=0) (slc_ONE:= #[])
      (tk_PIECE:=319)
      (tk_PIECE_FIGURES:=315)
      (ac_ZERO:=104) (t1_ZERO:=309) (t2_ZERO:=310) (odc_ZERO:=none) (nc_ZERO:=0) (slc_ZERO:= #[])
      (ad_BY_WORD:=311) (nd_BY_WORD:=4) (td0_BY_WORD:=572) (td1_BY_WORD:=573) (td2_BY_WORD:=574) (td3_BY_WORD:=575) KX G hmg ?nn_Shade ?no_Shade ?nb_Shade ?aC_Shade ?pg_Shade ?hd_Shade ?po_Shade ?sa_Shade ?jD ?kc_Shade ?ha_Shade ?hn_Shade ?ht_Shade ?hm_Shade ?kp_Shade_NoneType ?kp_Shade_bool ?kp_Shade_int ?kp_Shade_str ?kp_Shade_list ?kp_Shade_tuple ?kp_Shade_dict ?ko_Shade_int ?ko_Shade_bool ?ko_Shade_tuple ?ko_Shade_str ?ko_Shade_list ?ko_Shade_dict ?na_Shade_ember ?na_Shade_leaf ?na_Shade_sky ?cc_HALF ?cl_HALF ?cc_MOST_DEEDS ?cc_ONE ?cl_ONE ?cc_PIECE ?cc_PIECE_FIGURES ?cc_ZERO ?cl_ZERO ?cc_BY_WORD ?cl_BY_WORD ?cs_BY_WORD ?a0 ?l0 ?c0 ?k0 ?a1 ?l1 ?c1 ?k1 ?a2 ?l2 ?c2 ?k2 ?a3 ?l3 ?c3 ?k3 ?a4 ?i4 ?l4 ?c4 ?k4 ?a5 ?l5 ?c5 ?k5 ?a6 ?l6 ?c6 ?k6 ?a7 ?l7 ?c7 ?k7 ?a8 ?l8 ?c8 ?k8 ?a9 ?l9 ?c9 ?k9 ?a10 ?l10 ?c10 ?k10 ?a11 ?l11 ?c11 ?k11 ?a12 ?l12 ?c12 ?k12 ?a13 ?l13 ?c13 ?k13 ?a14 ?l14 ?c14 ?k14 ?a15 ?l15 ?c15 ?k15 ?a16 ?l16 ?c16 ?k16 ?a17 ?l17 ?c17 ?k17 ?a18 ?l18 ?c18 ?k18 ?a19 ?l19 ?c19 ?k19 ?a20 ?l20 ?c20 ?k20 ?a21 ?l21 ?c21 ?k21 ?a22 ?l22 ?c22 ?k22 ?a23 ?l23 ?c23 ?k23 ?a24 ?l24 ?c24 ?k24 ?a25 ?i25 ?l25 ?c25 ?k25 ?a26 ?l26 ?c26 ?k26 ?a27 ?l27 ?c27 ?k27 ?a28 ?i28 ?l28 ?c28 ?k28 ?a29 ?i29 ?l29 ?c29 ?k29 ?a30 ?i30 ?l30 ?c30 ?k30 ?a31 ?l31 ?c31 ?k31 ?a32 ?l32 ?c32 ?k32 ?a33 ?l33 ?c33 ?k33 ?a34 ?l34 ?c34 ?k34 ?a35 ?l35 ?c35 ?k35 ?a36 ?l36 ?c36 ?k36 ?a37 ?l37 ?c37 ?k37 ?a38 ?l38 ?c38 ?k38 ?a39 ?l39 ?c39 ?k39 ?a40 ?l40 ?c40 ?k40 ?a41 ?l41 ?c41 ?k41 ?ld41 ?a42 ?l42 ?c42 ?k42 ?a43 ?l43 ?c43 ?k43 ?ld43 ?a44 ?l44 ?c44 ?k44 ?ld44 ?a45 ?l45 ?c45 ?k45 ?ld45 ?a46 ?l46 ?c46 ?k46 ?a47 ?l47 ?c47 ?k47 ?a48 ?l48 ?c48 ?k48 ?a49 ?l49 ?c49 ?k49 ?a50 ?l50 ?c50 ?k50 ?a51 ?l51 ?c51 ?k51 ?a52 ?l52 ?c52 ?k52 ?a53 ?l53 ?c53 ?k53 ?a54 ?l54 ?c54 ?k54 ?z_abs ?z_all ?z_bool ?z_divmod ?z_enumerate ?z_int ?z_isinstance ?z_len ?z_max ?z_min ?z_range ?z_repr ?z_str ?z_tuple
    all_goals kernel_rfl
