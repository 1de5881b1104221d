import PyProof.Rows.All
import Wide.All
import OpenK.AllK
import Wide.FinOn
import Lean
import PyProof.EqAt
import PyProof.EqKinds
import PyProof.TupleCall
import PySem.Challenge.RW_lightshares_k07_deeds_of_one_shade
set_option Elab.async false
set_option linter.all false
set_option maxRecDepth 100000
namespace L2
open PySem PySem.Spec PyProof.Rows
noncomputable abbrev Key:=Sum Int Str
noncomputable def keyIs:Key→Value→Bool
  | .inl k,v=>Value.isInt k v
  | .inr x,v=>Value.isStrOf x v
noncomputable def keyH (w:World):Key→Int
  | .inl k=>hashInt k
  | .inr x=>hashStr w x
theorem keyIs_shape:∀ {k:Key} {v:Value},keyIs k v=true→(∃ i t,k=Sum.inl i∧v=Value.int i t)∨(∃ x t,k=Sum.inr x∧v=Value.str x t)
  | .inl i,v,h=>by
    obtain ⟨t,e⟩:=Value.isInt_shape (k:=i) (v:=v) h
    exact .inl ⟨i,t,rfl,e⟩
  | .inr x,v,h=>by
    obtain ⟨t,e⟩:=Value.isStrOf_shape (x:=x) (v:=v) h
    exact .inr ⟨x,t,rfl,e⟩
theorem keyIs_int (i:Int) (t:Tok):keyIs (.inl i) (.int i t)=true:=by simp [keyIs,Value.isInt]
theorem keyIs_str (x:Str) (t:Tok):keyIs (.inr x) (.str x t)=true:=by simp [keyIs,Value.isStrOf]
theorem key_ll (a b:Int):decide ((Sum.inl a:Key)=Sum.inl b)=(a == b):=by
  by_cases e:a=b
  · subst e; simp
  · have h:¬(Sum.inl a:Key)=Sum.inl b:=fun q=>e (Sum.inl.inj q)
    rw [decide_eq_false h]
    exact (beq_eq_false_iff_ne.mpr e).symm
theorem key_rr (a b:Str):decide ((Sum.inr a:Key)=Sum.inr b)=decide (a=b):=by
  by_cases e:a=b
  · subst e; simp
  · have h:¬(Sum.inr a:Key)=Sum.inr b:=fun q=>e (Sum.inr.inj q)
    rw [decide_eq_false h,decide_eq_false e]
theorem key_lr (a:Int) (b:Str):decide ((Sum.inl a:Key)=Sum.inr b)=false:=decide_eq_false (fun q=>nomatch q)
theorem key_rl (a:Str) (b:Int):decide ((Sum.inr a:Key)=Sum.inl b)=false:=decide_eq_false (fun q=>nomatch q)
noncomputable def mixKind (prog:Program) (w:World):PySem.KeyKind prog w Key where
  is:=keyIs
  hash:=keyH w
  inj :=fun v a b ha hb=>by
    rcases keyIs_shape ha with ⟨i,t,rfl,rfl⟩ | ⟨x,t,rfl,rfl⟩
    · rcases keyIs_shape hb with ⟨j,u,rfl,e⟩ | ⟨y,u,rfl,e⟩
      · injection e with e1 _; rw [e1]
      · exact nomatch e
    · rcases keyIs_shape hb with ⟨j,u,rfl,e⟩ | ⟨y,u,rfl,e⟩
      · exact nomatch e
      · injection e with e1 _; rw [e1]
  byValue:=fun k v h=>by
    rcases keyIs_shape h with ⟨i,t,rfl,rfl⟩ | ⟨x,t,rfl,rfl⟩ <;> rfl
  pyHash:=fun hv h=>by
    rcases keyIs_shape hv with ⟨i,t,rfl,rfl⟩ | ⟨x,t,rfl,rfl⟩
    · exact wpAny_pyHash_int h
    · exact wpAny_pyHash_str h
  eqBool:=fun hu hv h=>by
    rcases keyIs_shape hu with ⟨i,t,rfl,rfl⟩ | ⟨x,t,rfl,rfl⟩
    · rcases keyIs_shape hv with ⟨j,u,rfl,rfl⟩ | ⟨y,u,rfl,rfl⟩
      · rw [key_ll] at h; exact wpAny_eqBool_int h
      · rw [key_lr] at h; exact SeqAt.EqAt.int_str i t y u _ _ _ _ h
    · rcases keyIs_shape hv with ⟨j,u,rfl,rfl⟩ | ⟨y,u,rfl,rfl⟩
      · rw [key_rl] at h; exact SeqAt.EqAt.str_int x t j u _ _ _ _ h
      · rw [key_rr] at h; exact wpAny_eqBool_str h
  «strs» :=fun k x t v h=>by
    rcases keyIs_shape h with ⟨i,u,rfl,e⟩ | ⟨y,u,rfl,e⟩
    · exact nomatch e
    · injection e with e1 _
      subst e1
      cases v <;> rfl
theorem mixKind_is (prog:Program) (w:World) (k:Key) (v:Value):(mixKind prog w).is k v=keyIs k v:=rfl
theorem mixKind_int (prog:Program) (w:World) (i:Int) (t:Tok):(mixKind prog w).is (.inl i) (.int i t)=true:=keyIs_int i t
theorem mixKind_str (prog:Program) (w:World) (x:Str) (t:Tok):(mixKind prog w).is (.inr x) (.str x t)=true:=keyIs_str x t
end L2
namespace L2
open PySem PySem.Spec PyProof.Rows
inductive V where
  | non | bl (b:Bool) | int (i:Int) | str (x:Str) | byt (b:Array UInt8) | flt (b:UInt64) | ref (a:Addr) | ty (n:String)
  deriving DecidableEq
noncomputable def RelV:V→Value→Prop
  | .non,u=>u=Value.none
  | .bl b,u=>u=Value.bool b
  | .int i,u=>∃ t,u=Value.int i t
  | .str x,u=>∃ t,u=Value.str x t
  | .byt b,u=>∃ t,u=Value.bytes b t
  | .flt b,u=>∃ t,u=Value.float b t
  | .ref a,u=>u=Value.ref a
  | .ty n,u=>u=Value.type n
noncomputable abbrev Vals:List V→List Value→Prop:=Paired RelV
theorem Vals.length {xs:List V} {us:List Value} (r:Vals xs us):xs.length=us.length:=Paired.length r
theorem Vals.get:∀ {xs:List V} {us:List Value} {i:Nat} {x:V},Vals xs us→xs[i]? =some x→∃ u,us[i]? =some u∧RelV x u
  | _,_,_,_,.nil,e=>by simp at e
  | _,_,0,_,.cons r _,e=>by simp at e; subst e; exact ⟨_,rfl,r⟩
  | _,_,i + 1,x,.cons _ t,e=>by
    obtain ⟨u,h1,h2⟩:=Vals.get (i:=i) (x:=x) t (by simpa using e)
    exact ⟨u,by simpa using h1,h2⟩
theorem Vals.set {x:V} {u:Value} (r:RelV x u):∀ {xs:List V} {us:List Value} (i:Nat),Vals xs us→Vals (xs.set i x) (us.set i u)
  | _,_,_,.nil=>.nil
  | _,_,0,.cons _ t=>.cons r t
  | _,_,i + 1,.cons q t=>.cons q (Vals.set r i t)
theorem Vals.append:∀ {xs ys:List V} {us ws:List Value},Vals xs us→Vals ys ws→Vals (xs ++ ys) (us ++ ws)
  | _,_,_,_,.nil,s=>s
  | _,_,_,_,.cons r t,s=>.cons r (Vals.append t s)
theorem Vals.take:∀ {xs:List V} {us:List Value} (n:Nat),Vals xs us→Vals (xs.take n) (us.take n)
  | _,_,0,_=>.nil
  | _,_,_ + 1,.nil=>.nil
  | _,_,n + 1,.cons r t=>.cons r (Vals.take n t)
theorem Vals.drop:∀ {xs:List V} {us:List Value} (n:Nat),Vals xs us→Vals (xs.drop n) (us.drop n)
  | _,_,0,r=>r
  | _,_,_ + 1,.nil=>.nil
  | _,_,n + 1,.cons _ t=>Vals.drop n t
noncomputable def RelO:Option V→Option Value→Prop
  | some v,some u=>RelV v u
  | none,none=>True
  | _,_=>False
noncomputable def KV {κ:Type}:List (κ×V)→List (κ×Value)→Prop:=Paired fun (p:κ×V) (q:κ×Value)=>p.1=q.1∧RelV p.2 q.2
noncomputable def kV:Key→V
  | .inl i=>.int i
  | .inr x=>.str x
inductive HO where
  | lst (xs:List V)
  | tup (xs:List V)
  | dK (kvs:List (Key×V)) | dT (kvs:List (List Key×V))
  | set (S:Int→Bool) (n:Nat)
  | ins (C dx:Addr) (fs:List (Str×V))
  | own (x:Addr)
  | xd (fs:List (Str×V))
  | met (f x:Addr)
  | rng (lo hi:Int)
  | frz (o:Obj) (u:HO)
  | tbl (ps:Array Value)
  | ext (φ:Heap→Prop)
noncomputable abbrev Hp:=Addr→Option HO
noncomputable def upd (H:Hp) (a:Addr) (o:HO):Hp:=fun b=>if b=a then some o else H b
theorem upd_same {H:Hp} {a:Addr} {o:HO}:upd H a o a=some o:=by unfold upd; rw [if_pos rfl]
theorem upd_ne {H:Hp} {a b:Addr} {o:HO} (h:b≠a):upd H a o b=H b:=by unfold upd; rw [if_neg h]
theorem ne_of_none {H:Hp} {a b:Addr} {o:HO} (h:H a=some o) (h':H b=none):a≠b:=by
  intro e; subst e; rw [h] at h'; cases h'
noncomputable def IsTupN (h:Heap) (a:Addr) (items:Array Value):Prop:=IsTup h a items∧∀ o,h.get? a=some o→o.dict=none
theorem IsTupN.new (h:Heap) (items:Array Value):IsTupN (h.push { cls:=.type "tuple",data:=.seq items }) h.objs.size items:=⟨IsTup.new h items,fun o e=>by rw [Heap.get?_push_size _ rfl] at e; cases e; rfl⟩
section
variable (P:Program) (w:World)
noncomputable def ObjOk (H:Hp) (h:Heap) (a:Addr):HO→Prop
  | .lst xs=>xs.length≤sizeLine∧∃ (its:List Value) (n:Nat),Vals xs its∧h.get? a=some { cls:=.type "list",data:=.seq its.toArray n }
  | .tup xs=>xs.length≤sizeLine∧∃ its:List Value,Vals xs its∧IsTupN h a its.toArray
  | .dK kvs=>kvs.length≤sizeLine∧(a == sysModules)=false∧∃ vs,KV kvs vs∧h.DictOf (mixKind P w) a vs
  | .dT kvs=>kvs.length≤sizeLine∧(a == sysModules)=false∧∃ xs:List (List Key×Addr×Value),
      Paired (fun (p:List Key×V) (q:List Key×Addr×Value)=>p.1=q.1∧H q.2.1=some (.tup (p.1.map kV))∧RelV p.2 q.2.2) kvs xs∧
      ∃ o es ep,h.get? a=some o∧o.ExactDict∧o.data= .dict es ep∧es.toList=xs.map (entryOfKey (tupleKind (mixKind P w)))∧(xs.map (·.1)).Nodup
  | .set S n=>h.SetOf (intKind P w) a S n
  | .ins C dx fs=>H dx=some (.own a)∧fs.length≤1000∧dx≠a∧h.get? a=some (PySem.W.instObj C dx)∧
      ∃ mA,h.Ns1 dx mA∧(∀ f,RelO (fs.lookup f) (mA f))∧PySem.Within mA (fs.map (·.1))
  | .own _=>∃ o,h.get? a=some o
  | .xd fs=>∃ mA,h.Ns1 a mA∧∀ f,RelO (fs.lookup f) (mA f)
  | .rng lo hi=>∃ t u v,h.get? a=some { cls:=.type "range",data:=.fields #[.int lo t,.int hi u,.int 1 v] }
  | .frz o u=>h.get? a=some o∧ObjOk H h a u
  | .tbl ps=>h.get? a=some { cls:=.none,data:=.fields ps }
  | .met f x=>h.get? a=some (PySem.W.methodObj (.ref f) (.ref x))
  | .ext φ=>φ h∧(∃ o,h.get? a=some o)∧∀ h1 h2:Heap,φ h1→(∀ o,h1.get? a=some o→h2.get? a=some o)→φ h2
noncomputable def HOk (H:Hp) (h:Heap):Prop:= ∀ a o,H a=some o→ObjOk P w H h a o
end
section
variable {P:Program} {w:World} {H H':Hp} {h h':Heap} {a:Addr} {o:HO}
theorem ObjOk.lt (x:ObjOk P w H h a o):a < h.objs.size:=by
  cases o with
  | lst xs=>obtain ⟨_,_,_,_,e⟩:=x; exact Heap.lt_size e
  | tup xs=>obtain ⟨_,_,_,p⟩:=x; exact p.1.lt
  | dK kvs=>obtain ⟨_,_,_,_,o,_,_,e,_⟩:=x; exact Heap.lt_size e
  | dT kvs=>obtain ⟨_,_,_,_,o,_,_,e,_⟩:=x; exact Heap.lt_size e
  | set S n=>obtain ⟨o,_,_,_,e,_⟩:=x; exact Heap.lt_size e
  | ins C dx fs=>obtain ⟨_,_,_,e,_⟩:=x; exact Heap.lt_size e
  | own y=>obtain ⟨_,e⟩:=x; exact Heap.lt_size e
  | xd fs=>obtain ⟨_,⟨_,_,_,e,_⟩,_⟩:=x; exact Heap.lt_size e
  | rng lo hi=>obtain ⟨_,_,_,e⟩:=x; exact Heap.lt_size e
  | frz ob u=>obtain ⟨e,_⟩:=x; exact Heap.lt_size e
  | tbl ps=>exact Heap.lt_size (show h.get? a=some _ from x)
  | met f y=>exact Heap.lt_size (show h.get? a=some _ from x)
  | ext φ=>obtain ⟨_,⟨_,e⟩,_⟩:=x; exact Heap.lt_size e
theorem Paired.mapP {α β:Type} {F G:α→β→Prop}:∀ {l₁:List α} {l₂:List β},Paired F l₁ l₂→(∀ a b,F a b→G a b)→Paired G l₁ l₂
  | _,_,.nil,_=>.nil
  | _,_,.cons r t,f=>.cons (f _ _ r) (Paired.mapP t f)
theorem ObjOk.stay (x:ObjOk P w H h a o) (k:∀ b u,(b=a∨H b=some (.own a))→h.get? b=some u→h'.get? b=some u)
    (ho:∀ b,H b=some (.own a)→H' b=some (.own a)) (ht:∀ b xs,H b=some (.tup xs)→H' b=some (.tup xs)):ObjOk P w H' h' a o:=by
  induction o with
  | lst xs=>obtain ⟨z,its,n,r,e⟩:=x; exact ⟨z,its,n,r,k _ _ (.inl rfl) e⟩
  | tup xs=>obtain ⟨z,its,r,⟨ob,e,c⟩,dn⟩:=x; exact ⟨z,its,r,⟨ob,k _ _ (.inl rfl) e,c⟩,fun o q=>by rw [k _ _ (.inl rfl) e] at q; cases q; exact dn _ e⟩
  | dK kvs=>obtain ⟨z,y,vs,r,ob,es,ep,e,c⟩:=x; exact ⟨z,y,vs,r,ob,es,ep,k _ _ (.inl rfl) e,c⟩
  | dT kvs =>
    obtain ⟨z,y,xs,r,ob,es,ep,e,c⟩:=x
    exact ⟨z,y,xs,Paired.mapP r fun p q z=>⟨z.1,ht _ _ z.2.1,z.2.2⟩,ob,es,ep,k _ _ (.inl rfl) e,c⟩
  | set S n=>obtain ⟨ob,es,ep,t,e,c⟩:=x; exact ⟨ob,es,ep,t,k _ _ (.inl rfl) e,c⟩
  | ins C dx fs =>
    obtain ⟨d,z,ne,e,mA,⟨od,es,ep,e2,c⟩,r⟩:=x
    exact ⟨ho _ d,z,ne,k _ _ (.inl rfl) e,mA,⟨od,es,ep,k _ _ (.inr d) e2,c⟩,r⟩
  | own y=>obtain ⟨ob,e⟩:=x; exact ⟨ob,k _ _ (.inl rfl) e⟩
  | xd fs=>obtain ⟨mA,⟨od,es,ep,e,c⟩,r⟩:=x; exact ⟨mA,⟨od,es,ep,k _ _ (.inl rfl) e,c⟩,r⟩
  | rng lo hi=>obtain ⟨t,u,v,e⟩:=x; exact ⟨t,u,v,k _ _ (.inl rfl) e⟩
  | frz ob u ih=>obtain ⟨e,q⟩:=x; exact ⟨k _ _ (.inl rfl) e,ih q⟩
  | tbl ps =>
    have e:h.get? a=some { cls:=.none,data:=.fields ps }:=x
    show h'.get? a=some { cls:=.none,data:=.fields ps }
    exact k a _ (.inl rfl) e
  | met f y =>
    have e:h.get? a=some (PySem.W.methodObj (.ref f) (.ref y)):=x
    show h'.get? a=some (PySem.W.methodObj (.ref f) (.ref y))
    exact k a _ (.inl rfl) e
  | ext φ=>obtain ⟨p,⟨o,e⟩,st⟩:=x; exact ⟨st _ _ p fun o q=>k _ _ (.inl rfl) q,⟨o,k _ _ (.inl rfl) e⟩,st⟩
theorem HOk.lt (x:HOk P w H h) (e:H a=some o):a < h.objs.size:=(x a o e).lt
theorem HOk.fresh (x:HOk P w H h) (e:h.objs.size≤a):H a=none:=by
  cases q:H a with
  | none=>rfl
  | some u=>exact absurd (Nat.lt_of_lt_of_le (x.lt q) e) (Nat.lt_irrefl _)
theorem HOk.kept (x:HOk P w H h) (k:∀ b u,h.get? b=some u→h'.get? b=some u):HOk P w H h':=fun a o e =>
  (x a o e).stay (fun b u _ q=>k b u q) (fun _ q=>q) fun _ _ q=>q
theorem HOk.laid (x:HOk P w H h) (k:∀ b u,h.get? b=some u→h'.get? b=some u) (hp:h.objs.size≤a) (new:ObjOk P w (upd H a o) h' a o):HOk P w (upd H a o) h':=fun b u e=>by
  have hn:=x.fresh hp
  by_cases hb:b=a
  · subst hb; rw [upd_same] at e; cases e; exact new
  · rw [upd_ne hb] at e
    exact (x b u e).stay (fun c v _ q=>k c v q) (fun c q=>by rw [upd_ne (ne_of_none q hn)]; exact q) fun c xs q=>by rw [upd_ne (ne_of_none q hn)]; exact q
end
noncomputable def Rd (H:Hp) (a:Addr) (u:HO):Prop:=H a=some u∨∃ o,H a=some (.frz o u)
theorem Rd.of {H:Hp} {a:Addr} {u:HO} (h:H a=some u):Rd H a u:=.inl h
theorem Rd.ok {P:Program} {w:World} {H:Hp} {h:Heap} {a:Addr} {u:HO} (r:Rd H a u) (x:HOk P w H h):ObjOk P w H h a u:=by
  rcases r with r | ⟨o,r⟩
  · exact x a u r
  · obtain ⟨_,q⟩:=x a _ r
    exact q
noncomputable def Mut:Option HO→Prop
  | some (.lst _)=>True
  | some (.dK _)=>True
  | some (.dT _)=>True
  | some (.set _ _)=>True
  | some (.ins _ _ _)=>True
  | some (.ext _)=>True
  | _=>False
section
variable {P:Program} {w:World} {H:Hp} {h h':Heap} {x e:Addr} {o':HO}
theorem HOk.write (ok:HOk P w H h) (mu:Mut (H x)) (he:e=x∨H e=some (.own x)) (k:∀ b u,b≠e→h.get? b=some u→h'.get? b=some u) (heo:∃ u,h'.get? e=some u)
    (new:ObjOk P w (upd H x o') h' x o'):HOk P w (upd H x o') h':=fun b u q=>by
  have nown:∀ c y,H c=some (.own y)→c≠x:=fun c y r z=>by subst z; rw [r] at mu; exact mu
  have ntup:∀ c xs,H c=some (.tup xs)→c≠x:=fun c xs r z=>by subst z; rw [r] at mu; exact mu
  by_cases hb:b=x
  · subst hb; rw [upd_same] at q; cases q; exact new
  · rw [upd_ne hb] at q
    by_cases hbe:b=e
    · have q':H b=some (.own x):=by
        rcases he with z | z
        · exact absurd (hbe.trans z) hb
        · rw [hbe]; exact z
      rw [q] at q'; cases q'
      obtain ⟨v,hv⟩:=heo
      exact ⟨v,by rw [hbe]; exact hv⟩
    · refine (ok b u q).stay (fun c v hc r=>k c v ?_ r) (fun c r=>by rw [upd_ne (nown c b r)]; exact r) fun c xs r=>by rw [upd_ne (ntup c xs r)]; exact r
      rcases hc with rfl | hc
      · exact hbe
      · rintro rfl
        rcases he with z | z
        · exact nown c b hc z
        · rw [hc] at z; cases z; exact hb rfl
end
structure Un (fs ex:List Addr) (H H':Hp) (h h':Heap):Prop where
  keep:∀ b o,h.get? b=some o→H b=none→b∉ fs→b∉ ex→h'.get? b=some o
  slot:∀ b o,h.get? b=some o→H b=none→b∈fs→b∉ ex→∃ sl,h'.get? b=some { o with slots:=sl }
  free:∀ b o,h.get? b=some o→H b=none→b∉ ex→H' b=none
  there:∀ b o,h.get? b=some o→b∉ ex→∃ o',h'.get? b=some o'
  tups:∀ b xs,H b=some (.tup xs)→H' b=some (.tup xs)
  frzs:∀ b o u,H b=some (.frz o u)→H' b=some (.frz o u)
  tbls:∀ b ps,H b=some (.tbl ps)→∃ more,H' b=some (.tbl (ps ++ more))
section
variable {fs fs' ex ex':List Addr} {H H1 H2:Hp} {h h1 h2 h':Heap} {a x e:Addr} {o:HO}
theorem Un.any (u:Un fs ex H H1 h h1) {b:Addr} {ob:Obj} (q:h.get? b=some ob) (n:H b=none) (hx:b∉ ex):∃ sl,h1.get? b=some { ob with slots:=sl }:=by
  by_cases hb:b∈fs
  · exact u.slot b ob q n hb hx
  · exact ⟨ob.slots,u.keep b ob q n hb hx⟩
theorem Un.trans (a:Un fs ex H H1 h h1) (b:Un fs ex H1 H2 h1 h2):Un fs ex H H2 h h2 where
  keep:=fun c ob q n hc hx=>b.keep c ob (a.keep c ob q n hc hx) (a.free c ob q n hx) hc hx
  slot:=fun c ob q n hc hx=>by
    obtain ⟨sl,e1⟩:=a.slot c ob q n hc hx
    obtain ⟨sl',e2⟩:=b.slot c _ e1 (a.free c ob q n hx) hc hx
    exact ⟨sl',e2⟩
  free:=fun c ob q n hx=>by
    obtain ⟨o',e1⟩:=a.there c ob q hx
    exact b.free c o' e1 (a.free c ob q n hx) hx
  there:=fun c ob q hx=>by
    obtain ⟨o',e1⟩:=a.there c ob q hx
    exact b.there c o' e1 hx
  tups:=fun c xs q=>b.tups c xs (a.tups c xs q)
  frzs:=fun c ob xs q=>b.frzs c ob xs (a.frzs c ob xs q)
  tbls:=fun c ps q=>by
    obtain ⟨m1,e1⟩:=a.tbls c ps q
    obtain ⟨m2,e2⟩:=b.tbls c _ e1
    exact ⟨m1 ++ m2,by rw [e2,Array.append_assoc]⟩
theorem Un.kept (k:∀ b u,h.get? b=some u→h'.get? b=some u):Un fs ex H H h h' :=
  ⟨fun b ob q _ _ _=>k b ob q,fun b ob q _ _ _=>⟨ob.slots,k b ob q⟩,fun _ _ _ n _=>n,fun b ob q _=>⟨ob,k b ob q⟩,fun _ _ q=>q,fun _ _ _ q=>q,fun _ ps q=>⟨#[],by rw [q]; simp⟩⟩
theorem Un.refl:Un fs ex H H h h:=Un.kept fun _ _ q=>q
theorem Un.laid (k:∀ b u,h.get? b=some u→h'.get? b=some u) (hp:h.objs.size≤a) (hn:H a=none):Un fs ex H (upd H a o) h h' where
  keep:=fun b u q _ _ _=>k b u q
  slot:=fun b u q _ _ _=>⟨u.slots,k b u q⟩
  free:=fun b u q n _=>by rw [upd_ne (Nat.ne_of_lt (Nat.lt_of_lt_of_le (Heap.lt_size q) hp))]; exact n
  there:=fun b u q _=>⟨u,k b u q⟩
  tups:=fun b xs q=>by rw [upd_ne (ne_of_none q hn)]; exact q
  frzs:=fun b u xs q=>by rw [upd_ne (ne_of_none q hn)]; exact q
  tbls:=fun b ps q=>⟨#[],by rw [upd_ne (ne_of_none q hn),q]; simp⟩
theorem Un.write (mu:Mut (H x)) (he:e=x∨H e=some (.own x)) (k:∀ b u,b≠e→h.get? b=some u→h'.get? b=some u) (heo:∃ u,h'.get? e=some u):Un fs ex H (upd H x o) h h':=by
  have hx:∀ b,H b=none→b≠x:=fun b n z=>by subst z; rw [n] at mu; exact mu
  have hb:∀ b,H b=none→b≠e:=fun b n z=>by
    subst z
    rcases he with r | r
    · exact hx b n r
    · rw [n] at r; cases r
  have hm:∀ b u,H b=some u→¬Mut (some u)→b≠x:=fun b u q nm z=>by subst z; rw [q] at mu; exact nm mu
  refine ⟨fun b u q n _ _=>k b u (hb b n) q,fun b u q n _ _=>⟨u.slots,k b u (hb b n) q⟩,fun b u q n _=>by rw [upd_ne (hx b n)]; exact n,fun b u q _=>?_,
    fun b xs q=>by rw [upd_ne (hm b _ q fun z=>z)]; exact q,fun b u xs q=>by rw [upd_ne (hm b _ q fun z=>z)]; exact q,fun b ps q=>⟨#[],by rw [upd_ne (hm b _ q fun z=>z),q]; simp⟩⟩
  by_cases hbe:b=e
  · subst hbe; exact heo
  · exact ⟨u,k b u hbe q⟩
theorem Un.mono (u:Un fs ex H H1 h h1) (hs:∀ b∈fs,b∈fs') (hx:∀ b∈ex,b∈ex'):Un fs' ex' H H1 h h1 :=
  ⟨fun b ob q n hb he=>u.keep b ob q n (fun z=>hb (hs b z)) fun z=>he (hx b z),fun _ _ q n _ he=>u.any q n fun z=>he (hx _ z),fun b ob q n he=>u.free b ob q n fun z=>he (hx b z),fun b ob q he=>u.there b ob q fun z=>he (hx b z),u.tups,u.frzs,u.tbls⟩
end
noncomputable def trk (h:Heap) (H:Hp):List Addr:=(List.range h.objs.size).filter fun a=>(H a).isSome
noncomputable def hidT (h:Heap) (H:Hp):Heap:=PySem.W.hideAll h (trk h H)
theorem hidT_size (h:Heap) (H:Hp):(hidT h H).objs.size=h.objs.size:=PySem.W.hideAll_size _ _
theorem hidT_get {h:Heap} {H:Hp} {b:Addr} {o:Obj} (e:h.get? b=some o) (n:H b=none):(hidT h H).get? b=some o :=
  PySem.W.hideAll_get _ e fun hm=>by
    have q:(H b).isSome=true:=(List.mem_filter.mp hm).2
    rw [n] at q; simp at q
theorem of_hidT {h:Heap} {H:Hp} {b:Addr} {o:Obj} (e:(hidT h H).get? b=some o):h.get? b=some o∧H b=none:=by
  have e':h.get? b=some o:=PySem.W.of_hideAll (trk h H) e
  refine ⟨e', ?_⟩
  cases q:H b with
  | none=>rfl
  | some x =>
    have hm:b∈trk h H:=List.mem_filter.mpr ⟨List.mem_range.mpr (Heap.lt_size e'),by simp [q]⟩
    have z:(hidT h H).get? b=none:=PySem.W.hideAll_none (trk h H) hm
    rw [z] at e; cases e
noncomputable def allNews (g h:Heap) (L:Addr):List (Addr×Obj):=(List.range h.objs.size).filterMap fun a=>if a=L∨(g.get? a).isSome=true then none else (h.get? a).map fun o=>(a,o)
noncomputable def rest (g h:Heap) (L d:Addr):List (Addr×Obj):=(allNews g h L).filter fun p=>decide (p.1≠d)
end L2
namespace L2
open PySem PySem.Spec PyProof.Rows
structure Mod (K:PySem.W.Frag) (mg:Str→Option Value) (base:Heap):Prop where
  kin:K.In base
  glob:base.Ns mainGlobals mg
  blt:∃ mb,base.Ns builtinsNs mb∧∀ x:Str,x≠"__name__"→mb x=bootBuiltins x
  nolimit:base.NoLimit
structure Cx where
  prog:Program
  w:World
  K:PySem.W.Frag
  mg:Str→Option Value
  base:Heap
  A:Around
  N:List Str
  s₀:Shared
  H₀:Hp
  env:Env
  outer:List Env
  stack:List Env
  ex:List Addr
  fn:Str→Bool
  calm:Bool
  pn:List (Addr×Obj)
  xe:Value→Shared→Prop
noncomputable def frs (l:List Env):List Addr:=l.filterMap (·.frame)
noncomputable abbrev Cx.fs (X:Cx):List Addr:=frs X.outer
noncomputable def Vis (sc:Scope) (x:Str):Prop:=sc.names.lookup x=some .local∨sc.names.lookup x=some .cell∨sc.names.lookup x=some .free
noncomputable def Loc (sc:Scope) (x:Str):Prop:=sc.names.lookup x=some .local∨sc.names.lookup x=some .cell
noncomputable def Look (env:Env) (h:Heap) (m:Str→Option Value) (x:Str) (u:Value):Prop :=
  (env.kindOf x=some .local∧m x=some u)∨((env.kindOf x=some .cell∨env.kindOf x=some .free)∧∃ c,env.cells.lookup x=some c∧h.IsCell c (some u))
structure Cx.Ok (X:Cx):Prop where
  mod:Mod X.K X.mg X.base
  kind:X.env.scope.kind= .function
  glob:X.env.globals=mainGlobals
  blt:X.env.builtins=builtinsNs
  above:X.s₀.heap.objs.size≤X.env.locals
  inj:∀ x y c,X.env.cells.lookup x=some c→X.env.cells.lookup y=some c→x=y
  has:∀ x,(X.env.kindOf x=some .cell∨X.env.kindOf x=some .free)→∃ c,X.env.cells.lookup x=some c
  cab:∀ x c,X.fn x=true→X.env.cells.lookup x=some c→X.s₀.heap.objs.size≤c
  hd:X.calm=true→X.A.handled=none
  frames:X.A.frames=some X.stack
  stk:X.stack=X.outer∨(X.stack=X.env :: X.outer∧X.env.frame=some X.env.locals)
  exf:∀ b∈X.ex,b≠X.env.locals∧∀ x c,X.env.cells.lookup x=some c→c≠b
  bs:∀ b o,X.base.get? b=some o→X.s₀.heap.get? b=some o∧X.H₀ b=none
  bsz:X.base.objs.size≤X.s₀.heap.objs.size
  noex:∀ b o,X.base.get? b=some o→b∉ X.ex
  exfs:∀ b∈X.ex,b∉ X.fs
  funs:X.s₀.heap.FunFrames X.base X.outer
  frf:∀ b∈X.fs,X.H₀ b=none
structure Inv (X:Cx) (pins:List (Addr×Obj)) (σ:List (Option V)) (H:Hp) (s:Shared):Prop where
  ok:X.Ok
  os:s.os=X.s₀.os
  bare:AllBare s.gens
  base:Un X.fs X.ex X.H₀ H X.s₀.heap s.heap
  loc:∃ m,s.heap.Ns X.env.locals m∧∀ (i:Nat) (x:Str) (v:V),X.N[i]? =some x→σ[i]? =some (some v)→Vis X.env.scope x→∃ u,RelV v u∧Look X.env s.heap m x u
  cell:∀ x c,X.env.cells.lookup x=some c→∃ v,s.heap.IsCell c v
  free:H X.env.locals=none
  freeC:∀ x c,X.env.cells.lookup x=some c→H c=none
  pin:∀ p∈X.pn ++ pins,s.heap.get? p.1=some p.2∧H p.1=none∧p.1≠X.env.locals∧p.1∉ X.fs∧∀ v,p.2.data≠.cell v
  hok:HOk X.prog X.w H s.heap
  len:σ.length=X.N.length
section
variable {X:Cx} {pins:List (Addr×Obj)} {σ:List (Option V)} {H H':Hp} {s:Shared} {h':Heap}
theorem Cx.Ok.nofr (ok:X.Ok) {b:Addr} {o:Obj} (e:X.base.get? b=some o):b∉ X.fs:=fun hb=>by
  have:=(ok.funs.mem hb).1
  rw [e] at this; cases this
theorem Inv.bs (I:Inv X pins σ H s):∀ b o,X.base.get? b=some o→s.heap.get? b=some o∧H b=none:=fun b o e =>
  ⟨I.base.keep b o (I.ok.bs b o e).1 (I.ok.bs b o e).2 (I.ok.nofr e) (I.ok.noex b o e),I.base.free b o (I.ok.bs b o e).1 (I.ok.bs b o e).2 (I.ok.noex b o e)⟩
theorem Inv.bk (I:Inv X pins σ H s):∀ b o,X.base.get? b=some o→s.heap.get? b=some o:=fun b o e=>(I.bs b o e).1
theorem Inv.mod (I:Inv X pins σ H s):Mod X.K X.mg X.base:=I.ok.mod
theorem Inv.kIn (I:Inv X pins σ H s):X.K.In s.heap:=I.ok.mod.kin.keeps I.bk
theorem Inv.nolimit (I:Inv X pins σ H s):s.heap.NoLimit:=I.ok.mod.nolimit.keeps I.bk
theorem Inv.fr (I:Inv X pins σ H s):∃ m,Fr X.base X.env.locals s.heap m :=
  let ⟨m,hn,_⟩:=I.loc
  ⟨m,hn,I.bk,Nat.le_trans I.ok.bsz I.ok.above⟩
theorem Inv.lt (I:Inv X pins σ H s):X.env.locals < s.heap.objs.size:=let ⟨_,hn,_⟩:=I.loc; hn.lt
theorem Inv.sz (I:Inv X pins σ H s):X.s₀.heap.objs.size≤s.heap.objs.size:=Nat.le_trans I.ok.above (Nat.le_of_lt I.lt)
theorem Inv.nofs (I:Inv X pins σ H s) {a:Addr} (h:s.heap.objs.size≤a):a∉ X.fs:=fun hb=>by
  obtain ⟨_,o,ho,_⟩:=I.ok.funs.mem hb
  exact absurd (Nat.lt_of_lt_of_le (Heap.lt_size ho) (Nat.le_trans I.sz h)) (Nat.lt_irrefl _)
theorem Inv.cne (I:Inv X pins σ H s):∀ x c,X.env.cells.lookup x=some c→c≠X.env.locals:=fun x c e z=>by
  obtain ⟨v,o,ho,hd⟩:=I.cell x c e
  obtain ⟨m,⟨o',es,ep,ho',hd',_⟩,_⟩:=I.loc
  rw [z,ho'] at ho; cases ho; rw [hd'] at hd; cases hd
theorem Inv.funs (I:Inv X pins σ H s):s.heap.FunFrames X.base X.outer:=by
  have all:∀ (l:List Env),(∀ b∈frs l,b∈X.fs)→X.s₀.heap.FunFrames X.base l→s.heap.FunFrames X.base l:=by
    intro l
    induction l with
    | nil=>intro _ _; trivial
    | cons env r ih =>
      intro hs hl
      obtain ⟨hk,⟨L,o,hf,hn,ho,hd⟩,hr⟩:=hl
      have hL:L∈X.fs:=hs L (by unfold frs; rw [List.filterMap_cons,hf]; exact List.mem_cons_self)
      obtain ⟨sl,e⟩:=I.base.slot L o ho (I.ok.frf L hL) hL fun z=>I.ok.exfs L z hL
      exact ⟨hk,⟨L,_,hf,hn,e,hd⟩,ih (fun b hb=>hs b (by unfold frs; rw [List.filterMap_cons,hf]; exact List.mem_cons_of_mem _ hb)) hr⟩
  exact all X.outer (fun _ hb=>hb) I.ok.funs
theorem Inv.stack (I:Inv X pins σ H s):s.heap.FunFrames X.base X.stack:=by
  rcases I.ok.stk with e | ⟨e,hf⟩
  · rw [e]; exact I.funs
  · rw [e]
    obtain ⟨m,hn,_⟩:=I.loc
    refine .cons (by rw [I.ok.kind]; decide) hf hn ?_ I.funs
    exact Heap.get?_none_of_le (Nat.le_trans I.ok.bsz I.ok.above)
theorem Inv.stkSub (I:Inv X pins σ H s):∀ b∈frs X.stack,b∈X.env.locals :: X.fs:=fun b hb=>by
  rcases I.ok.stk with e | ⟨e,hf⟩
  · rw [e] at hb; exact List.mem_cons_of_mem _ hb
  · rw [e] at hb
    unfold frs at hb
    rw [List.filterMap_cons,hf] at hb
    exact hb
theorem Inv.stkFree (I:Inv X pins σ H s):∀ b∈frs X.stack,H b=none:=fun b hb=>by
  rcases List.mem_cons.mp (I.stkSub b hb) with e | hb
  · rw [e]; exact I.free
  · obtain ⟨_,o,ho,_⟩:=I.ok.funs.mem hb
    exact I.base.free b o ho (I.ok.frf b hb) fun z=>I.ok.exfs b z hb
theorem Inv.step {g':Array GenState} {t':Nat} {d':Drawn} {ch:List Addr} (I:Inv X pins σ H s)
    (hch:∀ b∈ch,(b∈X.ex∨X.s₀.heap.objs.size≤b)∧b≠X.env.locals∧(∀ x c,X.env.cells.lookup x=some c→c≠b)∧∀ p∈X.pn ++ pins,p.1≠b)
    (keep:∀ b o,b≠X.env.locals→b∉ X.fs→b∉ ch→s.heap.get? b=some o→H b=none→h'.get? b=some o)
    (slot:∀ b o,b≠X.env.locals→b∈X.fs→b∉ ch→s.heap.get? b=some o→H b=none→∃ sl,h'.get? b=some { o with slots:=sl }) (free:∀ b o,b∉ ch→s.heap.get? b=some o→H b=none→H' b=none)
    (there:∀ b o,b∉ ch→s.heap.get? b=some o→∃ o',h'.get? b=some o')
    (tups:∀ b xs,H b=some (.tup xs)→H' b=some (.tup xs)) (frzs:∀ b o u,H b=some (.frz o u)→H' b=some (.frz o u)) (tbls:∀ b ps,H b=some (.tbl ps)→∃ more,H' b=some (.tbl (ps ++ more)))
    (ns:∀ m,s.heap.Ns X.env.locals m→h'.Ns X.env.locals m) (hok:HOk X.prog X.w H' h') (hg:AllBare g') :
    Inv X pins σ H' { s with heap:=h',gens:=g',drawn:=d',toks:=t' }:=by
  have neL:∀ b o,X.s₀.heap.get? b=some o→b≠X.env.locals:=fun b o e=>Nat.ne_of_lt (Nat.lt_of_lt_of_le (Heap.lt_size e) I.ok.above)
  have neC:∀ b o,X.s₀.heap.get? b=some o→b∉ X.ex→b∉ ch:=fun b o e hx hb=>by
    rcases (hch b hb).1 with z | z
    · exact hx z
    · exact absurd (Nat.lt_of_lt_of_le (Heap.lt_size e) z) (Nat.lt_irrefl _)
  have cellK:∀ x c,X.env.cells.lookup x=some c→∀ v,s.heap.IsCell c v→h'.IsCell c v:=fun x c e v ⟨o,ho,hd⟩=>by
    have nch:c∉ ch:=fun z=>(hch c z).2.2.1 x c e rfl
    by_cases hc:c∈X.fs
    · obtain ⟨sl,q⟩:=slot c o (I.cne x c e) hc nch ho (I.freeC x c e)
      exact ⟨_,q,hd⟩
    · exact ⟨o,keep c o (I.cne x c e) hc nch ho (I.freeC x c e),hd⟩
  refine ⟨I.ok,I.os,hg,⟨fun b o e n hb hx=>?_,fun b o e n hb hx=>?_,fun b o e n hx=>?_,fun b o e hx=>?_,fun b xs e=>tups b xs (I.base.tups b xs e),fun b o xs e=>frzs b o xs (I.base.frzs b o xs e),fun b ps e=>?_⟩, ?_,fun x c e=>?_, ?_,fun x c e=>?_,fun p hp=>?_,hok,I.len⟩
  · exact keep b o (neL b o e) hb (neC b o e hx) (I.base.keep b o e n hb hx) (I.base.free b o e n hx)
  · obtain ⟨sl,e1⟩:=I.base.slot b o e n hb hx
    obtain ⟨sl',e2⟩:=slot b _ (neL b o e) hb (neC b o e hx) e1 (I.base.free b o e n hx)
    exact ⟨sl',e2⟩
  · obtain ⟨o',e1⟩:=I.base.there b o e hx
    exact free b o' (neC b o e hx) e1 (I.base.free b o e n hx)
  · obtain ⟨o',e1⟩:=I.base.there b o e hx
    exact there b o' (neC b o e hx) e1
  · obtain ⟨m1,e1⟩:=I.base.tbls b ps e
    obtain ⟨m2,e2⟩:=tbls b _ e1
    exact ⟨m1 ++ m2,by rw [e2,Array.append_assoc]⟩
  · obtain ⟨m,hn,hl⟩:=I.loc
    refine ⟨m,ns m hn,fun i x v e1 e2 e3=>?_⟩
    obtain ⟨u,r,l⟩:=hl i x v e1 e2 e3
    refine ⟨u,r, ?_⟩
    rcases l with l | ⟨k,c,e,z⟩
    · exact .inl l
    · exact .inr ⟨k,c,e,cellK x c e _ z⟩
  · obtain ⟨v,z⟩:=I.cell x c e
    exact ⟨v,cellK x c e v z⟩
  · obtain ⟨m,⟨o,_,_,ho,_⟩,_⟩:=I.loc
    exact free _ o (fun z=>(hch _ z).2.1 rfl) ho I.free
  · obtain ⟨v,o,ho,hd⟩:=I.cell x c e
    exact free c o (fun z=>(hch c z).2.2.1 x c e rfl) ho (I.freeC x c e)
  · obtain ⟨e,n,ne,nf,d⟩:=I.pin p hp
    have nch:p.1∉ ch:=fun z=>(hch p.1 z).2.2.2 p hp rfl
    exact ⟨keep p.1 p.2 ne nf nch e n,free p.1 p.2 nch e n,ne,nf,d⟩
theorem Inv.un {t':Nat} (I:Inv X pins σ H s) (u:Un X.fs [] H H' s.heap h') (hok:HOk X.prog X.w H' h'):Inv X pins σ H' { s with heap:=h',toks:=t' }:=by
  obtain ⟨m,⟨o,es,ep,ho,r⟩,_⟩:=id I.loc
  obtain ⟨sl,hL⟩:=u.any ho I.free (by simp)
  exact I.step (g':=s.gens) (d':=s.drawn) (ch:=[]) (fun _ z=>nomatch z) (fun b o _ hb _ e n=>u.keep b o e n hb (by simp)) (fun b o _ hb _ e n=>u.slot b o e n hb (by simp)) (fun b o _ e n=>u.free b o e n (by simp)) (fun b o _ e=>u.there b o e (by simp)) u.tups u.frzs u.tbls (fun m' hm=>by
    obtain ⟨o',es',ep',ho',r'⟩:=hm
    rw [ho] at ho'; cases ho'
    exact ⟨_,es',ep',hL,r'⟩) hok I.bare
theorem Inv.call {g':Array GenState} {t':Nat} {d':Drawn} {ch:List Addr} (I:Inv X pins σ H s) (u:Un (frs X.stack) ch H H' s.heap h') (hok:HOk X.prog X.w H' h') (hg:AllBare g')
    (hch:∀ b∈ch,(b∈X.ex∨X.s₀.heap.objs.size≤b)∧b≠X.env.locals∧(∀ x c,X.env.cells.lookup x=some c→c≠b)∧∀ p∈X.pn ++ pins,p.1≠b) :
    Inv X pins σ H' { s with heap:=h',gens:=g',drawn:=d',toks:=t' }:=by
  obtain ⟨m,⟨o,es,ep,ho,r⟩,_⟩:=id I.loc
  obtain ⟨sl,hL⟩:=u.any ho I.free fun z=>(hch _ z).2.1 rfl
  exact I.step (ch:=ch) hch (fun b o hL hb hc e n=>u.keep b o e n (fun z=>(List.mem_cons.mp (I.stkSub b z)).elim hL hb) hc) (fun b o _ _ hc e n=>u.any e n hc) (fun b o hc e n=>u.free b o e n hc) (fun b o hc e=>u.there b o e hc) u.tups u.frzs u.tbls (fun m' hm=>by
    obtain ⟨o',es',ep',ho',r'⟩:=hm
    rw [ho] at ho'; cases ho'
    exact ⟨_,es',ep',hL,r'⟩) hok hg
theorem Inv.turned {t':Nat} {it:Addr} (I:Inv X pins σ H s) (k:∀ b o,b≠it→s.heap.get? b=some o→h'.get? b=some o) (hn:H it=none) (hL:it≠X.env.locals)
    (h1:it∈X.ex∨X.s₀.heap.objs.size≤it) (h2:∀ x c,X.env.cells.lookup x=some c→c≠it) (h3:∀ p∈X.pn ++ pins,p.1≠it):Inv X pins σ H { s with heap:=h',toks:=t' }:=by
  have nit:∀ b u,H b=some u→b≠it:=fun b u e z=>by rw [z,hn] at e; cases e
  refine I.step (g':=s.gens) (d':=s.drawn) (ch:=[it]) (fun b hb=>?_) (fun b o _ _ hc e _=>k b o (fun z=>hc (by simp [z])) e) (fun b o _ _ hc e _=>⟨o.slots,k b o (fun z=>hc (by simp [z])) e⟩) (fun _ _ _ _ n=>n)
    (fun b o hc e=>⟨o,k b o (fun z=>hc (by simp [z])) e⟩) (fun _ _ e=>e) (fun _ _ _ e=>e) (fun b ps e=>⟨#[],by rw [e]; simp⟩) (fun m hm=>?_) (fun b u e=>?_) I.bare
  · have e:b=it:=by simpa using hb
    subst e
    exact ⟨h1,hL,h2,h3⟩
  · obtain ⟨o,es,ep,ho,r⟩:=hm
    exact ⟨o,es,ep,k _ o (Ne.symm hL) ho,r⟩
  · refine (I.hok b u e).stay (fun c v hc q=>k c v ?_ q) (fun _ q=>q) fun _ _ q=>q
    rcases hc with z | z
    · rw [z]; exact nit b u e
    · exact nit c _ z
theorem Inv.tok (I:Inv X pins σ H s) (t:Nat):Inv X pins σ H { s with toks:=t }:=I.un (h':=s.heap) (t':=t) Un.refl I.hok
theorem Inv.kept {t':Nat} (I:Inv X pins σ H s) (k:∀ b u,s.heap.get? b=some u→h'.get? b=some u):Inv X pins σ H { s with heap:=h',toks:=t' }:=I.un (Un.kept k) (I.hok.kept k)
theorem Inv.laid {a:Addr} {o:HO} {t':Nat} (I:Inv X pins σ H s) (k:∀ b u,s.heap.get? b=some u→h'.get? b=some u) (hp:s.heap.objs.size≤a) (new:ObjOk X.prog X.w (upd H a o) h' a o) :
    Inv X pins σ (upd H a o) { s with heap:=h',toks:=t' }:=I.un (Un.laid k hp (I.hok.fresh hp)) (I.hok.laid k hp new)
theorem Inv.write {x e:Addr} {o:HO} {t':Nat} (I:Inv X pins σ H s) (mu:Mut (H x)) (he:e=x∨H e=some (.own x)) (k:∀ b u,b≠e→s.heap.get? b=some u→h'.get? b=some u) (heo:∃ u,h'.get? e=some u)
    (new:ObjOk X.prog X.w (upd H x o) h' x o):Inv X pins σ (upd H x o) { s with heap:=h',toks:=t' }:=I.un (Un.write mu he k heo) (I.hok.write mu he k heo new)
theorem Inv.weak {σ':List (Option V)} (I:Inv X pins σ H s) (hl:σ'.length=σ.length) (w:∀ (i:Nat) v,σ'[i]? =some (some v)→σ[i]? =some (some v)):Inv X pins σ' H s :=
  ⟨I.ok,I.os,I.bare,I.base,let ⟨m,hn,hl'⟩:=I.loc; ⟨m,hn,fun i x v e1 e2 e3=>hl' i x v e1 (w i v e2) e3⟩,I.cell,I.free,I.freeC,I.pin,I.hok,hl.trans I.len⟩
theorem Inv.pins_of {pins':List (Addr×Obj)} (I:Inv X pins σ H s) (h:∀ p∈pins',s.heap.get? p.1=some p.2∧H p.1=none∧p.1≠X.env.locals∧p.1∉ X.fs∧∀ v,p.2.data≠.cell v):Inv X pins' σ H s :=
  ⟨I.ok,I.os,I.bare,I.base,I.loc,I.cell,I.free,I.freeC,fun p hp=>(List.mem_append.mp hp).elim (fun z=>I.pin p (List.mem_append_left _ z)) (h p),I.hok,I.len⟩
theorem nodup_ix {N:List Str} (hN:N.Nodup) {i j:Nat} {x:Str} (a:N[i]? =some x) (b:N[j]? =some x):i=j:=by
  obtain ⟨h1,e1⟩:=List.getElem?_eq_some_iff.mp a
  obtain ⟨h2,e2⟩:=List.getElem?_eq_some_iff.mp b
  exact (List.getElem_inj hN).mp (e1.trans e2.symm)
theorem store_ok2 {M:Model} {A:Around} {E:Value→Shared→Prop} {i:Nat} {x:Str} {v:V} {u:Value} {Q:Unit→Shared→Prop} (I:Inv X pins σ H s) (hN:X.N.Nodup) (hi:X.N[i]? =some x) (hx:Loc X.env.scope x) (r:RelV v u)
    (h:∀ s',Inv X pins (σ.set i (some v)) H s'→(∃ a,Heap.SameBut a s.heap s'.heap∧(a=X.env.locals∨X.env.cells.lookup x=some a))→Q () s') (hf:X.fn x=true∨X.env.scope.names.lookup x=some .local:=by first | exact .inl rfl | exact .inr rfl | assumption):wpAny M A (storeName X.env x u) Q E s:=by
  obtain ⟨m,hn,hl⟩:=id I.loc
  have hcls:(X.env.scope.kind == .class || (X.env.scope.kind == .module && X.env.locals != X.env.globals))=false:=by rw [I.ok.kind]; rfl
  have hiσ:i < σ.length:=by rw [I.len]; exact (List.getElem?_eq_some_iff.mp hi).1
  have cne:=I.cne
  have tracked:∀ {a:Addr} {h':Heap},(∃ o,s.heap.get? a=some o∧H a=none)→Heap.SameBut a s.heap h'→HOk X.prog X.w H h':=fun {a h'} ha hs b ob e=>by
    obtain ⟨_,_,hfree⟩:=ha
    refine (I.hok b ob e).stay (fun c w' hc q=>(hs.2 c ?_).trans q) (fun _ q=>q) fun _ _ q=>q
    rintro rfl
    rcases hc with rfl | hc
    · rw [hfree] at e; cases e
    · rw [hfree] at hc; cases hc
  rcases hx with hk | hk
  · refine wpAny_storeName_local hk hn (fun h' hn' hs=>?_) hcls
    obtain ⟨oL,_,_,hoL,_⟩:=id hn
    refine h _ ⟨I.ok,I.os,I.bare,⟨fun b o e n hb hx=>?_,fun b o e n hb hx=>?_,I.base.free,fun b o e hx=>?_,I.base.tups,I.base.frzs,I.base.tbls⟩,⟨_,hn',fun j y v' e1 e2 e3=>?_⟩,fun y c e=>?_,I.free,I.freeC,fun p hp=>?_,tracked ⟨oL,hoL,I.free⟩ hs,by simpa using I.len⟩ ⟨_,hs,.inl rfl⟩
    · exact (hs.2 b (Nat.ne_of_lt (Nat.lt_of_lt_of_le (Heap.lt_size e) I.ok.above))).trans (I.base.keep b o e n hb hx)
    · obtain ⟨sl,e1⟩:=I.base.slot b o e n hb hx
      exact ⟨sl,(hs.2 b (Nat.ne_of_lt (Nat.lt_of_lt_of_le (Heap.lt_size e) I.ok.above))).trans e1⟩
    · obtain ⟨o',e1⟩:=I.base.there b o e hx
      exact ⟨o',(hs.2 b (Nat.ne_of_lt (Nat.lt_of_lt_of_le (Heap.lt_size e) I.ok.above))).trans e1⟩
    · by_cases hj:j=i
      · subst hj
        rw [hi] at e1; cases e1
        rw [List.getElem?_set_self hiσ] at e2
        cases e2
        exact ⟨u,r,.inl ⟨hk,by simp⟩⟩
      · rw [List.getElem?_set_ne (Ne.symm hj)] at e2
        obtain ⟨u',r',q⟩:=hl j y v' e1 e2 e3
        refine ⟨u',r', ?_⟩
        rcases q with ⟨k,e⟩ | ⟨k,c,e,z⟩
        · refine .inl ⟨k, ?_⟩
          have:y≠x:=fun e=>hj (nodup_ix hN e1 (e▸hi))
          simp [this,e]
        · exact .inr ⟨k,c,e,z.sameBut hs (cne y c e)⟩
    · obtain ⟨w',z⟩:=I.cell y c e
      exact ⟨w',z.sameBut hs (cne y c e)⟩
    · obtain ⟨e,n,ne,nf,d⟩:=I.pin p hp
      exact ⟨(hs.2 p.1 ne).trans e,n,ne,nf,d⟩
  · have hfn:X.fn x=true:=by
      rcases hf with z | z
      · exact z
      · rw [z] at hk; cases hk
    obtain ⟨c,hc⟩:=I.ok.has x (.inl hk)
    obtain ⟨w',z⟩:=I.cell x c hc
    refine wpAny_storeName_cell I.ok.kind hk hc z (fun h' hc' hs=>?_)
    obtain ⟨oc,hoc,hocd⟩:=id z
    refine h { s with heap:=h' } ⟨I.ok,I.os,I.bare,⟨fun b o e n hb hx=>?_,fun b o e n hb hx=>?_,I.base.free,fun b o e hx=>?_,I.base.tups,I.base.frzs,I.base.tbls⟩,⟨m,hn.sameBut hs (Ne.symm (cne x c hc)),fun j y v' e1 e2 e3=>?_⟩,fun y c' e=>?_,I.free,I.freeC,fun p hp=>?_,tracked ⟨oc,hoc,I.freeC x c hc⟩ hs,by simpa using I.len⟩ ⟨c,hs,.inr hc⟩
    · exact (hs.2 b (Nat.ne_of_lt (Nat.lt_of_lt_of_le (Heap.lt_size e) (I.ok.cab x c hfn hc)))).trans (I.base.keep b o e n hb hx)
    · obtain ⟨sl,e1⟩:=I.base.slot b o e n hb hx
      exact ⟨sl,(hs.2 b (Nat.ne_of_lt (Nat.lt_of_lt_of_le (Heap.lt_size e) (I.ok.cab x c hfn hc)))).trans e1⟩
    · obtain ⟨o',e1⟩:=I.base.there b o e hx
      exact ⟨o',(hs.2 b (Nat.ne_of_lt (Nat.lt_of_lt_of_le (Heap.lt_size e) (I.ok.cab x c hfn hc)))).trans e1⟩
    · by_cases hj:j=i
      · subst hj
        rw [hi] at e1; cases e1
        rw [List.getElem?_set_self hiσ] at e2
        cases e2
        exact ⟨u,r,.inr ⟨.inl hk,c,hc,hc'⟩⟩
      · rw [List.getElem?_set_ne (Ne.symm hj)] at e2
        obtain ⟨u',r',q⟩:=hl j y v' e1 e2 e3
        refine ⟨u',r', ?_⟩
        rcases q with q | ⟨k,c',e,z'⟩
        · exact .inl q
        · refine .inr ⟨k,c',e,z'.sameBut hs ?_⟩
          rintro rfl
          exact hj (nodup_ix hN e1 (I.ok.inj _ _ _ e hc▸hi))
    · by_cases hcc:c'=c
      · subst hcc; exact ⟨_,hc'⟩
      · obtain ⟨w2,z2⟩:=I.cell y c' e
        exact ⟨w2,z2.sameBut hs hcc⟩
    · obtain ⟨e,n,ne,nf,d⟩:=I.pin p hp
      refine ⟨(hs.2 p.1 ?_).trans e,n,ne,nf,d⟩
      intro q
      rw [q,hoc] at e
      have q':oc=p.2:=Option.some.inj e
      exact d w' (by rw [←q']; exact hocd)
theorem store_ok {M:Model} {A:Around} {E:Value→Shared→Prop} {i:Nat} {x:Str} {v:V} {u:Value} {Q:Unit→Shared→Prop} (I:Inv X pins σ H s) (hN:X.N.Nodup) (hi:X.N[i]? =some x) (hx:Loc X.env.scope x) (r:RelV v u)
    (h:∀ s',Inv X pins (σ.set i (some v)) H s'→Q () s') (hf:X.fn x=true∨X.env.scope.names.lookup x=some .local:=by first | exact .inl rfl | exact .inr rfl | assumption):wpAny M A (storeName X.env x u) Q E s :=
  store_ok2 I hN hi hx r (fun s' I' _=>h s' I') hf
theorem Inv.call' {s':Shared} {ch:List Addr} (I:Inv X pins σ H s) (ho:s'.os=s.os) (u:Un (frs X.stack) ch H H' s.heap s'.heap) (hok:HOk X.prog X.w H' s'.heap) (hg:AllBare s'.gens)
    (hch:∀ b∈ch,(b∈X.ex∨X.s₀.heap.objs.size≤b)∧b≠X.env.locals∧(∀ x c,X.env.cells.lookup x=some c→c≠b)∧∀ p∈X.pn ++ pins,p.1≠b):Inv X pins σ H' s':=by
  obtain ⟨h',g',d',t',o'⟩:=s'
  have e:o'=s.os:=ho
  subst e
  exact I.call (g':=g') (t':=t') (d':=d') u hok hg hch
end
noncomputable abbrev XK:=Value→Option Addr→Hp→Prop
noncomputable abbrev St:=List (Option V)
noncomputable abbrev VK:=V→Hp→Prop
noncomputable abbrev TE:=St→Hp→VK→Prop
noncomputable abbrev TT:=St→Hp→(Bool→Hp→Prop)→Prop
noncomputable abbrev TA:=St→Hp→(List V→Hp→Prop)→Prop
structure Ends where
  nx:St→Hp→Prop
  rt:VK
  bk:St→Hp→Prop:=fun _ _=>False
  ct:St→Hp→Prop:=fun _ _=>False
noncomputable abbrev TS:=Ends→St→Hp→Prop
noncomputable def EP (X:Cx) (pins:List (Addr×Obj)) (σ:St) (Q:VK) (u:Value) (s':Shared):Prop:= ∃ v H',Inv X pins σ H' s'∧RelV v u∧Q v H'
noncomputable def TP (X:Cx) (pins:List (Addr×Obj)) (σ:St) (Q:Bool→Hp→Prop) (b:Bool) (s':Shared):Prop:= ∃ H',Inv X pins σ H' s'∧Q b H'
noncomputable def AP (X:Cx) (pins:List (Addr×Obj)) (σ:St) (Q:List V→Hp→Prop) (us:List Value) (s':Shared):Prop:= ∃ vs H',Inv X pins σ H' s'∧Vals vs us∧Q vs H'
noncomputable def SP (X:Cx) (pins:List (Addr×Obj)) (D:Ends) (f:Flow) (s':Shared):Prop :=
  match f with
  | .next=>∃ σ' H',Inv X pins σ' H' s'∧D.nx σ' H'
  | .brk=>∃ σ' H',Inv X pins σ' H' s'∧D.bk σ' H'
  | .cont=>∃ σ' H',Inv X pins σ' H' s'∧D.ct σ' H'
  | .ret u=>∃ v σ' H',Inv X pins σ' H' s'∧RelV v u∧D.rt v H'
noncomputable def PE (X:Cx) (e:Expr) (t:TE):Prop :=
  ∀ (pins:List (Addr×Obj)) (s:Shared) (σ:St) (H:Hp) (Q:VK),Inv X pins σ H s→t σ H Q→wpAny (model X.prog X.w) X.A (eval e X.env) (EP X pins σ Q) X.xe s
noncomputable def PT (X:Cx) (e:Expr) (t:TT):Prop :=
  ∀ (pins:List (Addr×Obj)) (s:Shared) (σ:St) (H:Hp) (Q:Bool→Hp→Prop),Inv X pins σ H s→t σ H Q→wpAny (model X.prog X.w) X.A (isTrue e X.env (eval e X.env)) (TP X pins σ Q) X.xe s
noncomputable def PW (X:Cx) (e:Expr) (t:TT):Prop :=
  ∀ (whole:Sem Value) (pins:List (Addr×Obj)) (s:Shared) (σ:St) (H:Hp) (Q:Bool→Hp→Prop),Inv X pins σ H s→t σ H Q→wpAny (model X.prog X.w) X.A (isTrue e X.env whole) (TP X pins σ Q) X.xe s
theorem PW.pt {X:Cx} {e:Expr} {t:TT} (h:PW X e t):PT X e t:=h _
noncomputable def PA (X:Cx) (es:List Expr) (t:TA):Prop :=
  ∀ (pos:Pos) (pins:List (Addr×Obj)) (s:Shared) (σ:St) (H:Hp) (Q:List V→Hp→Prop),Inv X pins σ H s→t σ H Q→wpAny (model X.prog X.w) X.A (spliced (backTo pos (starEach es X.env))) (AP X pins σ Q) X.xe s
noncomputable def PS (X:Cx) (st:Stmt) (t:TS):Prop :=
  ∀ (pins:List (Addr×Obj)) (s:Shared) (σ:St) (H:Hp) (D:Ends),Inv X pins σ H s→t D σ H→wpAny (model X.prog X.w) X.A (exec st X.env) (SP X pins D) X.xe s
noncomputable def PSs (X:Cx) (st:List Stmt) (t:TS):Prop :=
  ∀ (pins:List (Addr×Obj)) (s:Shared) (σ:St) (H:Hp) (D:Ends),Inv X pins σ H s→t D σ H→wpAny (model X.prog X.w) X.A (execs st X.env) (SP X pins D) X.xe s
theorem thn {α:Type} {t:Sem α} {Q Q':α→Shared→Prop} {M:Model} {A:Around} {E:Value→Shared→Prop} {s:Shared} (h:wpAny M A t Q E s) (hQ:∀ a s,Q a s→Q' a s):wpAny M A t Q' E s:=wpAny_mono h hQ fun _ _ x=>x
end L2
namespace L2
open PySem PySem.Spec PyProof.Rows
section
variable {X:Cx}
theorem bin {a b:Expr} {ta tb:TE} (ha:PE X a ta) (hb:PE X b tb) {pins:List (Addr×Obj)} {s:Shared} {σ:St} {H:Hp} {R:V→V→Hp→Prop} (I:Inv X pins σ H s) (h:ta σ H fun x H1=>tb σ H1 fun y H2=>R x y H2)
    {α:Type} {Q:α→Shared→Prop} {f:Value→Value→Sem α}
    (hf:∀ v u s2 x y H2,Inv X pins σ H2 s2→RelV x v→RelV y u→R x y H2→wpAny (model X.prog X.w) X.A (f v u) Q X.xe s2) :
    wpAny (model X.prog X.w) X.A (eval a X.env) (fun v s₁=>wpAny (model X.prog X.w) X.A (eval b X.env) (fun u s₂=>wpAny (model X.prog X.w) X.A (f v u) Q X.xe s₂) X.xe s₁) X.xe s:=by
  refine thn (ha pins s σ H _ I h) fun v s1 ⟨x,H1,I1,r1,q1⟩=>?_
  refine thn (hb pins s1 σ H1 _ I1 q1) fun u s2 ⟨y,H2,I2,r2,q2⟩=>?_
  exact hf v u s2 x y H2 I2 r1 r2 q2
noncomputable def tVar (i:Nat):TE:=fun σ H Q=>∃ v,σ[i]? =some (some v)∧Q v H
noncomputable def tC (v:V):TE:=fun _ H Q=>Q v H
theorem pe_var {i:Nat} {x:Str} {pos:Pos} (hN:X.N[i]? =some x) (hv:Vis X.env.scope x) (hd:(x == ("__debug__":Str))=false:=by decide) (hcd:(x == ("__classdict__":Str))=false:=by decide):PE X (.Name x pos) (tVar i):=by
  intro pins s σ H Q I h
  obtain ⟨v,e,h⟩:=h
  obtain ⟨m,hn,hl⟩:=I.loc
  obtain ⟨u,r,l⟩:=hl i x v hN e hv
  have fin:EP X pins σ Q u s:=⟨v,H,I,r,h⟩
  rcases l with ⟨hk,hm⟩ | ⟨hk,c,hc,hcell⟩
  · exact wpAny_Name (wpAny_loadName_local I.ok.kind hk hn hm fin) hd
  · rcases hk with hk | hk
    · exact wpAny_Name (wpAny_loadName_cell I.ok.kind hk hc hcell fin) hd
    · exact wpAny_Name (wpAny_loadName_free I.ok.kind hk hc hcell fin hcd) hd
theorem pe_int {i j pos}:PE X (.Constant (.int i) j pos) (tC (.int i)):=fun _ _ _ H _ I h=>wpAny_Constant_int ⟨.int i,H,I.tok _,⟨_,rfl⟩,h⟩
theorem pe_bl {b j pos}:PE X (.Constant (.bool b) j pos) (tC (.bl b)):=fun _ _ _ H _ I h=>Constant_bool ⟨.bl b,H,I,rfl,h⟩
theorem pe_non {j pos}:PE X (.Constant .none j pos) (tC .non):=fun _ _ _ H _ I h=>Constant_none ⟨.non,H,I,rfl,h⟩
theorem pe_str {x j pos}:PE X (.Constant (.str x) j pos) (tC (.str x)):=fun _ _ _ H _ I h=>Calls.Constant_str ⟨.str x,H,I.tok _,⟨_,rfl⟩,h⟩
noncomputable def Gl (X:Cx) (x:Str):Prop:=X.env.kindOf x=some .globalImplicit
theorem ld_glob {E:Value→Shared→Prop} {pins:List (Addr×Obj)} {s:Shared} {σ:St} {H:Hp} {x:Str} {u:Value} {pos:Pos} {Q:Value→Shared→Prop} (I:Inv X pins σ H s) (hg:Gl X x) (hm:X.mg x=some u) (h:Q u s)
    (hd:(x == ("__debug__":Str))=false:=by decide):wpAny (model X.prog X.w) X.A (eval (.Name x pos) X.env) Q E s :=
  Calls.Name_function_global I.ok.kind hg (Calls.loadGlobal_global (by rw [I.ok.glob]; exact I.mod.glob.keeps I.bk) hm h) hd
theorem ld_blt {E:Value→Shared→Prop} {pins:List (Addr×Obj)} {s:Shared} {σ:St} {H:Hp} {x:Str} {u:Value} {pos:Pos} {Q:Value→Shared→Prop} (I:Inv X pins σ H s) (hg:Gl X x) (hm:X.mg x=none) (hv:bootBuiltins x=some u) (h:Q u s)
    (hn:x≠"__name__":=by decide) (hd:(x == ("__debug__":Str))=false:=by decide):wpAny (model X.prog X.w) X.A (eval (.Name x pos) X.env) Q E s:=by
  obtain ⟨mb,h1,h2⟩:=I.mod.blt
  exact Calls.Name_function_global I.ok.kind hg (Calls.loadGlobal_builtin (by rw [I.ok.glob]; exact I.mod.glob.keeps I.bk) hm (by rw [I.ok.blt]; exact h1.keeps I.bk) ((h2 x hn).trans hv) h) hd
theorem pe_glob {x:Str} {v:V} {u:Value} {pos:Pos} (hg:Gl X x) (hm:X.mg x=some u) (r:RelV v u) (hd:(x == ("__debug__":Str))=false:=by decide):PE X (.Name x pos) (tC v) :=
  fun _ _ _ H _ I h=>ld_glob I hg hm ⟨v,H,I,r,h⟩ hd
theorem pe_bltn {x:Str} {v:V} {u:Value} {pos:Pos} (hg:Gl X x) (hm:X.mg x=none) (hv:bootBuiltins x=some u) (r:RelV v u) (hn:x≠"__name__":=by decide) (hd:(x == ("__debug__":Str))=false:=by decide):PE X (.Name x pos) (tC v) :=
  fun _ _ _ H _ I h=>ld_blt I hg hm hv ⟨v,H,I,r,h⟩ hn hd
variable {a b:Expr} {ta tb:TE} {pos:Pos}
variable {tA tB':TT} {rest:List Expr}
noncomputable def tAnd (t u:TT):TT:=fun σ H Q=>t σ H fun c H1=>if c=true then u σ H1 Q else Q false H1
noncomputable def tOr (t u:TT):TT:=fun σ H Q=>t σ H fun c H1=>if c=true then Q true H1 else u σ H1 Q
noncomputable def tNot (t:TT):TT:=fun σ H Q=>t σ H fun c H1=>Q (!c) H1
theorem pw_and1 (ha:PT X a tA):PW X (.BoolOp .And [a] pos) tA:=by
  intro wh pins s σ H Q I h
  refine isTrue_and (thn (ha pins s σ H Q I h) fun c s1 e=>?_)
  cases c with
  | true=>exact isTrue_and_nil e
  | false=>exact e
theorem pw_or1 (ha:PT X a tA):PW X (.BoolOp .Or [a] pos) tA:=by
  intro wh pins s σ H Q I h
  refine isTrue_or (thn (ha pins s σ H Q I h) fun c s1 e=>?_)
  cases c with
  | false=>exact isTrue_or_nil e
  | true=>exact e
theorem pw_and (ha:PT X a tA) (hb:PW X (.BoolOp .And (b :: rest) pos) tB'):PW X (.BoolOp .And (a :: b :: rest) pos) (tAnd tA tB'):=by
  intro wh pins s σ H Q I h
  refine isTrue_and (thn (ha pins s σ H _ I h) fun c s1 ⟨H1,I1,q1⟩=>?_)
  cases c with
  | true=>exact hb wh pins s1 σ H1 Q I1 q1
  | false=>exact ⟨H1,I1,q1⟩
theorem pw_or (ha:PT X a tA) (hb:PW X (.BoolOp .Or (b :: rest) pos) tB'):PW X (.BoolOp .Or (a :: b :: rest) pos) (tOr tA tB'):=by
  intro wh pins s σ H Q I h
  refine isTrue_or (thn (ha pins s σ H _ I h) fun c s1 ⟨H1,I1,q1⟩=>?_)
  cases c with
  | true=>exact ⟨H1,I1,q1⟩
  | false=>exact hb wh pins s1 σ H1 Q I1 q1
theorem pt_not (ha:PT X a tA):PT X (.UnaryOp .Not a pos) (tNot tA):=by
  intro pins s σ H Q I h
  exact isTrue_not (ha pins s σ H (fun c H1=>Q (!c) H1) I h)
theorem pe_one {op} {t:TE} (h:PE X a t):PE X (.BoolOp op [a] pos) t:=fun pins s σ H Q I hw=>BoolOp_one (h pins s σ H Q I hw)
end
end L2
namespace L2
open PySem PySem.Spec PyProof.Rows
noncomputable def SqL (K:PySem.W.Frag) (H:Hp) (a:Addr) (xs:List V):Prop :=
  Rd H a (.lst xs)∨
    ∃ (o:Obj) (its:Array Value) (n:Nat),K.lookup a=some o∧o.cls= .type "list"∧o.dict=none∧o.data= .seq its n∧its.size≤sizeLine∧Vals xs its.toList
noncomputable def SqT (K:PySem.W.Frag) (H:Hp) (a:Addr) (xs:List V):Prop :=
  Rd H a (.tup xs)∨
    ∃ (o:Obj) (its:Array Value) (n:Nat),K.lookup a=some o∧o.cls= .type "tuple"∧o.data= .seq its n∧its.size≤sizeLine∧Vals xs its.toList∧o.dict=none
noncomputable def absV:Value→Option V
  | .none=>some .non
  | .bool b=>some (.bl b)
  | .int i _=>some (.int i)
  | .str x _=>some (.str x)
  | .bytes b _=>some (.byt b)
  | .float b _=>some (.flt b)
  | .ref a=>some (.ref a)
  | .type n=>some (.ty n)
  | _=>none
theorem RelV.abs {x:V} {u:Value} (r:RelV x u):absV u=some x:=by
  cases x with
  | non=>cases r; rfl
  | bl _=>cases r; rfl
  | int _=>obtain ⟨t,rfl⟩:=r; rfl
  | str _=>obtain ⟨t,rfl⟩:=r; rfl
  | byt _=>obtain ⟨t,rfl⟩:=r; rfl
  | flt _=>obtain ⟨t,rfl⟩:=r; rfl
  | ref _=>cases r; rfl
  | ty _=>cases r; rfl
theorem RelV.inj {x y:V} {u:Value} (r:RelV x u) (q:RelV y u):x=y:=Option.some.inj (r.abs.symm.trans q.abs)
theorem Vals.inj:∀ {xs ys:List V} {us:List Value},Vals xs us→Vals ys us→xs=ys
  | _,_,_,.nil,.nil=>rfl
  | _,_,_,.cons r t,.cons r' t'=>by rw [r.inj r',Vals.inj t t']
section
variable {X:Cx} {pins:List (Addr×Obj)} {σ:St} {H:Hp} {s:Shared} {a:Addr} {xs ys:List V}
theorem SqL.of {K:PySem.W.Frag} (h:H a=some (.lst xs)):SqL K H a xs:=.inl (.inl h)
theorem SqT.of {K:PySem.W.Frag} (h:H a=some (.tup xs)):SqT K H a xs:=.inl (.inl h)
theorem Inv.list (I:Inv X pins σ H s) (h:SqL X.K H a xs):∃ its:List Value,Vals xs its∧PlainL s.heap a its.toArray∧xs.length≤sizeLine:=by
  rcases h with h | ⟨o,its,n,hk,hc,hd,hs,hz,r⟩
  · obtain ⟨z,its,n,r,e⟩:=h.ok I.hok
    exact ⟨its,r,⟨_,n,e,rfl,rfl,rfl⟩,z⟩
  · refine ⟨its.toList,r,⟨o,n,I.kIn a o hk,hc,hd,by simpa using hs⟩, ?_⟩
    have e:=r.length
    simp only [Array.length_toList] at e
    omega
theorem Inv.tuple (I:Inv X pins σ H s) (h:SqT X.K H a xs):∃ its:List Value,Vals xs its∧IsTup s.heap a its.toArray∧xs.length≤sizeLine:=by
  rcases h with h | ⟨o,its,n,hk,hc,hs,hz,r,_⟩
  · obtain ⟨z,its,r,p⟩:=h.ok I.hok
    exact ⟨its,r,p.1,z⟩
  · refine ⟨its.toList,r,⟨o,I.kIn a o hk,hc,n,by simpa using hs⟩, ?_⟩
    have e:=r.length
    simp only [Array.length_toList] at e
    omega
theorem Inv.list_inj (I:Inv X pins σ H s) (h:SqL X.K H a xs) (h':SqL X.K H a ys):xs=ys:=by
  obtain ⟨its,r,⟨o,n,e,_,_,d⟩,_⟩:=I.list h
  obtain ⟨its',r',⟨o',n',e',_,_,d'⟩,_⟩:=I.list h'
  rw [e] at e'; cases e'
  rw [d] at d'
  injection d' with d1 _
  have:its=its':=by simpa using congrArg Array.toList d1
  subst this
  exact r.inj r'
theorem Inv.tuple_inj (I:Inv X pins σ H s) (h:SqT X.K H a xs) (h':SqT X.K H a ys):xs=ys:=by
  obtain ⟨its,r,⟨o,e,_,n,d⟩,_⟩:=I.tuple h
  obtain ⟨its',r',⟨o',e',_,n',d'⟩,_⟩:=I.tuple h'
  rw [e] at e'; cases e'
  rw [d] at d'
  injection d' with d1 _
  have:its=its':=by simpa using congrArg Array.toList d1
  subst this
  exact r.inj r'
end
noncomputable abbrev Cx.wish (X:Cx) (E:Value→Shared→Prop):Cx:={ X with xe:=E }
noncomputable abbrev Cx.nox (X:Cx):Cx:=X.wish fun _ _=>False
theorem Cx.Ok.wish {X:Cx} (ok:X.Ok) (E:Value→Shared→Prop):(X.wish E).Ok :=
  ⟨ok.mod,ok.kind,ok.glob,ok.blt,ok.above,ok.inj,ok.has,ok.cab,ok.hd,ok.frames,ok.stk,ok.exf,ok.bs,ok.bsz,ok.noex,ok.exfs,ok.funs,ok.frf⟩
theorem Cx.Ok.unwish {X:Cx} {E:Value→Shared→Prop} (ok:(X.wish E).Ok):X.Ok :=
  ⟨ok.mod,ok.kind,ok.glob,ok.blt,ok.above,ok.inj,ok.has,ok.cab,ok.hd,ok.frames,ok.stk,ok.exf,ok.bs,ok.bsz,ok.noex,ok.exfs,ok.funs,ok.frf⟩
section
variable {X:Cx} {pins:List (Addr×Obj)} {σ:St} {H:Hp} {s:Shared} {E:Value→Shared→Prop}
theorem Inv.wish (I:Inv X pins σ H s) (E:Value→Shared→Prop):Inv (X.wish E) pins σ H s:=⟨I.ok.wish E,I.os,I.bare,I.base,I.loc,I.cell,I.free,I.freeC,I.pin,I.hok,I.len⟩
theorem Inv.unwish (I:Inv (X.wish E) pins σ H s):Inv X pins σ H s:=⟨I.ok.unwish,I.os,I.bare,I.base,I.loc,I.cell,I.free,I.freeC,I.pin,I.hok,I.len⟩
theorem SP.unwish {D:Ends} {f:Flow} {s':Shared} (h:SP (X.wish E) pins D f s'):SP X pins D f s':=by
  cases f with
  | next=>obtain ⟨σ',H',I,q⟩:=h; exact ⟨σ',H',I.unwish,q⟩
  | brk=>obtain ⟨σ',H',I,q⟩:=h; exact ⟨σ',H',I.unwish,q⟩
  | cont=>obtain ⟨σ',H',I,q⟩:=h; exact ⟨σ',H',I.unwish,q⟩
  | ret u=>obtain ⟨v,σ',H',I,r,q⟩:=h; exact ⟨v,σ',H',I.unwish,r,q⟩
theorem PE.nox {e:Expr} {t:TE} (h:PE X.nox e t):PE X e t:=fun pins s σ H Q I hw =>
  wpAny_mono (h pins s σ H Q (I.wish _) hw) (fun _ _ ⟨v,H',I',r,q⟩=>⟨v,H',I'.unwish,r,q⟩) fun _ _ z=>False.elim z
theorem PT.nox {e:Expr} {t:TT} (h:PT X.nox e t):PT X e t:=fun pins s σ H Q I hw =>
  wpAny_mono (h pins s σ H Q (I.wish _) hw) (fun _ _ ⟨H',I',q⟩=>⟨H',I'.unwish,q⟩) fun _ _ z=>False.elim z
theorem PSs.nox {st:List Stmt} {t:TS} (h:PSs X.nox st t):PSs X st t:=fun pins s σ H D I hw =>
  wpAny_mono (h pins s σ H D (I.wish _) hw) (fun _ _ q=>q.unwish) fun _ _ z=>False.elim z
end
section
variable {X:Cx} {st:Stmt} {rest:List Stmt} {t u:TS} {e:Expr} {te:TE} {pos:Pos}
noncomputable def tNext:TS:=fun D σ H=>D.nx σ H
noncomputable def tSeq (t u:TS):TS:=fun D σ H=>t { D with nx:=u D } σ H
theorem pss_nil:PSs X [] tNext:=fun _ _ σ H _ I h=>wpAny_execs_nil ⟨σ,H,I,h⟩
theorem pss_cons (h1:PS X st t) (h2:PSs X rest u):PSs X (st :: rest) (tSeq t u):=by
  intro pins s σ H D I h
  refine wpAny_execs_cons (thn (h1 pins s σ H { D with nx:=u D } I h) fun f s1 q=>?_)
  cases f with
  | next =>
    obtain ⟨σ',H',I',q⟩:=q
    exact h2 pins s1 σ' H' D I' q
  | ret v=>exact q
  | brk=>exact q
  | cont=>exact q
theorem pss_one (h1:PS X st t):PSs X [st] t:=by
  intro pins s σ H D I h
  refine wpAny_execs_cons (thn (h1 pins s σ H D I h) fun f s1 q=>?_)
  cases f with
  | next=>exact wpAny_execs_nil q
  | ret v=>exact q
  | brk=>exact q
  | cont=>exact q
theorem ps_pass:PS X (.Pass pos) tNext:=fun _ _ σ H _ I h=>wpAny_Pass ⟨σ,H,I,h⟩
theorem Inv.quiet {pins:List (Addr×Obj)} {σ:St} {H:Hp} {s:Shared} (I:Inv X pins σ H s):interactive X.env=false:=by simp [interactive,I.ok.kind]
theorem ps_doc {x j pos pos'}:PS X (.Expr (.Constant (.str x) j pos) pos') tNext:=fun _ s σ H _ I h=>wpAny_Expr (Calls.Constant_str (show SP X _ _ .next { s with toks:=s.toks + 1 } from ⟨σ,H,I.tok _,h⟩)) I.quiet
noncomputable def tDrop (te:TE):TS:=fun D σ H=>te σ H fun _ H1=>D.nx σ H1
theorem ps_expr (he:PE X e te) (hs:swapsWith e none pos.line X.env=pure false:=by rfl):PS X (.Expr e pos) (tDrop te):=by
  intro pins s σ H D I h
  exact wpAny_Expr_any (thn (he pins s σ H _ I h) fun v s1 ⟨x,H1,I1,r1,q1⟩=>⟨σ,H1,I1,q1⟩) I.quiet hs
noncomputable def tRet (te:TE):TS:=fun D σ H=>te σ H D.rt
theorem ps_ret (he:PE X e te):PS X (.Return (some e) pos) (tRet te):=by
  intro pins s σ H D I h
  exact wpAny_Return_some (thn (he pins s σ H _ I h) fun v s1 ⟨x,H1,I1,r1,q1⟩=>⟨x,σ,H1,I1,r1,q1⟩)
noncomputable def tRetN:TS:=fun D _ H=>D.rt .non H
theorem ps_retN:PS X (.Return none pos) tRetN:=fun _ _ σ H _ I h=>wpAny_Return_none ⟨.non,σ,H,I,rfl,h⟩
noncomputable def tIfS (c:TT) (t u:TS):TS:=fun D σ H=>c σ H fun b H1=>if b=true then t D σ H1 else u D σ H1
theorem ps_if {c:Expr} {a b:List Stmt} {tc:TT} (hc:PT X c tc) (ha:PSs X a t) (hb:PSs X b u):PS X (.If c a b pos) (tIfS tc t u):=by
  intro pins s σ H D I h
  refine wpAny_If (thn (hc pins s σ H _ I h) fun d s1 ⟨H1,I1,q1⟩=>?_)
  cases d with
  | true=>exact ha pins s1 σ H1 D I1 q1
  | false=>exact hb pins s1 σ H1 D I1 q1
noncomputable def tNever:TS:=fun _ _ _=>False
theorem ps_never:PS X st tNever:=fun _ _ _ _ _ _ h=>h.elim
theorem pss_never {sts:List Stmt}:PSs X sts tNever:=fun _ _ _ _ _ _ h=>h.elim
end
noncomputable abbrev TG:=V→St→Hp→(St→Hp→Prop)→Prop
noncomputable abbrev TGs:=List V→St→Hp→(St→Hp→Prop)→Prop
noncomputable def PG (X:Cx) (target:Expr) (t:TG):Prop :=
  ∀ (pins:List (Addr×Obj)) (s:Shared) (σ:St) (H:Hp) (v:V) (u:Value) (Q:St→Hp→Prop),Inv X pins σ H s→RelV v u→t v σ H Q→
    wpAny (model X.prog X.w) X.A (assign target X.env u) (fun _ s'=>∃ σ' H',Inv X pins σ' H' s'∧Q σ' H') X.xe s
noncomputable def PGs (X:Cx) (ts:List Expr) (t:TGs):Prop :=
  ∀ (pins:List (Addr×Obj)) (s:Shared) (σ:St) (H:Hp) (vs:List V) (us:List Value) (Q:St→Hp→Prop),Inv X pins σ H s→Vals vs us→t vs σ H Q→
    wpAny (model X.prog X.w) X.A (assignInOrder ((assignEach ts X.env).map (·.2)) us) (fun _ s'=>∃ σ' H',Inv X pins σ' H' s'∧Q σ' H') X.xe s
noncomputable abbrev TSet:=V→V→V→Hp→(Hp→Prop)→Prop
noncomputable def PSet (X:Cx) (t:TSet):Prop :=
  ∀ (pins:List (Addr×Obj)) (s:Shared) (σ:St) (H:Hp) (o i v:V) (ov iv u:Value) (Q:Hp→Prop),Inv X pins σ H s→RelV o ov→RelV i iv→RelV v u→t o i v H Q→
    wpAny (model X.prog X.w) X.A (setItem ov iv u) (fun _ s'=>∃ H',Inv X pins σ H' s'∧Q H') X.xe s
section
variable {X:Cx} {pos:Pos}
noncomputable def gName (i:Nat):TG:=fun v σ H Q=>Q (σ.set i (some v)) H
theorem pg_name {i:Nat} {x:Str} (hN:X.N.Nodup) (hi:X.N[i]? =some x) (hx:Loc X.env.scope x) (hf:X.fn x=true∨X.env.scope.names.lookup x=some .local:=by first | exact .inl rfl | exact .inr rfl | assumption):PG X (.Name x pos) (gName i):=by
  intro pins s σ H v u Q I r h
  exact wpAny_assign_Name (store_ok I hN hi hx r (fun s' I'=>⟨_,H,I',h⟩) hf)
noncomputable def gNil:TGs:=fun vs σ H Q=>vs=[]∧Q σ H
noncomputable def gCons (t:TG) (u:TGs):TGs:=fun vs σ H Q=>∃ v r,vs=v :: r∧t v σ H fun σ' H'=>u r σ' H' Q
theorem pgs_nil:PGs X [] gNil:=by
  intro pins s σ H vs us Q I r h
  obtain ⟨e,h⟩:=h
  subst e
  cases r
  exact assignInOrder_nil ⟨σ,H,I,h⟩
theorem pgs_cons {e:Expr} {es:List Expr} {t:TG} {u:TGs} (h1:PG X e t) (h2:PGs X es u)
    (hs:(assignEach (e :: es) X.env).map (·.2)=assign e X.env :: (assignEach es X.env).map (·.2):=by rfl):PGs X (e :: es) (gCons t u):=by
  intro pins s σ H vs us Q I r h
  obtain ⟨v,vr,e1,h⟩:=h
  subst e1
  cases r with
  | cons r rr =>
    rw [hs]
    refine assignInOrder_cons (thn (h1 pins s σ H _ _ _ I r h) fun _ s1 ⟨σ1,H1,I1,q1⟩=>?_)
    exact h2 pins s1 σ1 H1 _ _ Q I1 rr q1
noncomputable def gTup (K:PySem.W.Frag) (n:Nat) (t:TGs):TG:=fun v σ H Q=>∃ a xs,v= .ref a∧SqT K H a xs∧xs.length=n∧t xs σ H Q
theorem pg_tup {es:List Expr} {k:Nat} {t:TGs} {n:Nat} (hc:X.calm=true) (h:PGs X es t)
    (hn:(assignEach es X.env).length=n:=by rfl) (hst:(assignEach es X.env).findIdx? (·.1)=none:=by rfl):PG X (.Tuple es k pos) (gTup X.K n t):=by
  intro pins s σ H v u Q I r hw
  obtain ⟨a,xs,e1,hq,hl,hw⟩:=hw
  subst e1
  cases r
  obtain ⟨its,rv,ht,hz⟩:=I.tuple hq
  refine assign_Tuple_tuple (I.ok.hd hc) ht (by simp [hn,←hl,rv.length]) hst fun h' hx=>?_
  have I1:Inv X pins σ H { s with heap:=h' }:=I.kept (t':=s.toks) fun b o e=>hx b o (Nat.ne_of_lt (Heap.lt_size e)) e
  exact h pins _ σ H xs _ Q I1 (by simpa using rv) hw
noncomputable def gSub (to ti:TE) (t:TSet):TG:=fun v σ H Q=>to σ H fun o H1=>ti σ H1 fun i H2=>t o i v H2 fun H3=>Q σ H3
theorem pg_sub {o i:Expr} {to ti:TE} {t:TSet} (ho:PE X o to) (hi:PE X i ti) (hs:PSet X t)
    (ha:∀ v,assign (.Subscript o i pos) X.env v=(do
      let ov ←holding [v] (eval o X.env)
      let iv ←holding [v,ov] (eval i X.env)
      standAt pos
      holding [v,ov,iv] (setItem ov iv v)
      release [v,ov,iv] []):=by intro _; rfl):PG X (.Subscript o i pos) (gSub to ti t):=by
  intro pins s σ H v u Q I r h
  rw [ha]
  refine wpAny_bind (wpAny_holding (thn (ho pins s σ H _ I h) fun ov s1 ⟨x,H1,I1,r1,q1⟩=>?_))
  refine wpAny_bind (wpAny_holding (thn (hi pins s1 σ H1 _ I1 q1) fun iv s2 ⟨y,H2,I2,r2,q2⟩=>?_))
  refine wpAny_bind (wpAny_standAt (wpAny_bind (wpAny_holding (thn (hs pins s2 σ H2 x y v ov iv u _ I2 r1 r2 r q2) fun _ s3 ⟨H3,I3,q3⟩=>?_))))
  exact wpAny_release ⟨σ,H3,I3,q3⟩
noncomputable def tAsg (te:TE) (g:TG):TS:=fun D σ H=>te σ H fun x H1=>g x σ H1 D.nx
theorem ps_asg {tg e:Expr} {te:TE} {g:TG} (he:PE X e te) (hg:PG X tg g) (hs:swapsWithSole [tg] e pos.line X.env=pure false:=by rfl) (hw:swappedStores [tg] e X.env=pure none:=by rfl)
    (h1:(assignEach [tg] X.env).map (·.2)=[assign tg X.env]:=by rfl):PS X (.Assign [tg] e pos) (tAsg te g):=by
  intro pins s σ H D I h
  refine wpAny_Assign_stores (thn (he pins s σ H _ I h) fun v s1 ⟨x,H1,I1,r1,q1⟩=>?_) hs hw
  rw [h1]
  exact thn (hg pins s1 σ H1 x v _ I1 r1 q1) fun _ s2 q=>q
noncomputable def tPar (i j:Nat) (ta:TA):TS:=fun D σ H=>ta σ H fun vs H1=>∃ v w,vs=[v,w]∧D.nx ((σ.set i (some v)).set j (some w)) H1
theorem ps_par {i j:Nat} {x y:Str} {a b:Expr} {ta:TA} {px py pt:Pos} {kt k2 pt2} (hc:X.calm=true) (hN:X.N.Nodup) (hi:X.N[i]? =some x) (hj:X.N[j]? =some y) (hij:i≠j)
    (hx:X.env.scope.names.lookup x=some .local) (hy:X.env.scope.names.lookup y=some .local) (ha:PA X [a,b] ta)
    (hw:swappedStores [.Tuple [.Name x px,.Name y py] kt pt] (.Tuple [a,b] k2 pt2) X.env=pure (some [x,y]))
    (hs:swapsWithSole [.Tuple [.Name x px,.Name y py] kt pt] (.Tuple [a,b] k2 pt2) pos.line X.env=pure false:=by rfl) :
    PS X (.Assign [.Tuple [.Name x px,.Name y py] kt pt] (.Tuple [a,b] k2 pt2) pos) (tPar i j ta):=by
  intro pins s σ H D I h
  rw [exec_Assign_arm]
  refine wpAny_bind (wpAny_standAt ?_)
  rw [hs]
  refine wpAny_bind (wpAny_pure ?_)
  rw [if_neg (by decide)]
  refine wpAny_bind (Tuple_ (thn (ha _ pins s σ H _ I h) fun us s1 ⟨vs,H1,I1,r1,q1⟩=>?_))
  obtain ⟨v,w,e1,q1⟩:=q1
  subst e1
  obtain ⟨u1,u2,rfl,rv,rw'⟩:∃ u1 u2,us=[u1,u2]∧RelV v u1∧RelV w u2:=by
    cases r1 with
    | cons p q =>
      cases q with
      | cons p' q' =>
        cases q'
        exact ⟨_,_,rfl,p,p'⟩
  refine wpAny_newObj_type ?_ (by show 2≤sizeLine; decide)
  have I2:Inv X pins σ H1 { s1 with heap:=s1.heap.push { cls:=.type "tuple",data:=.seq [u1,u2].toArray } }:=I1.kept (t':=s1.toks) fun b o e=>Heap.get?_push_of_some _ e
  rw [hw]
  refine wpAny_bind (wpAny_pure ?_)
  show wpAny (model X.prog X.w) X.A (do rule "assign.swapped-stores"; let items ←unpackItems (.ref s1.heap.objs.size) 2 none; assignInOrder [fun v=>bindName X.env y v,fun v=>bindName X.env x v] items.reverse; pure Flow.next) _ _ _
  refine wpAny_bind (wpAny_rule (wpAny_bind (unpackItems_tuple (items:= #[u1,u2]) (I.ok.hd hc) (IsTup.new s1.heap _) fun h' hx'=>?_)))
  have I3:=I2.kept (h':=h') (t':=s1.toks) fun b o e=>hx' b o (Nat.ne_of_lt (Heap.lt_size e)) e
  show wpAny _ _ (assignInOrder [fun v=>bindName X.env y v,fun v=>bindName X.env x v] [u2,u1] >>= fun _=>pure Flow.next) _ _ _
  refine wpAny_bind (assignInOrder_cons (wpAny_bindName (store_ok I3 hN hj (.inl hy) rw' (fun s2 I4=>?_) (.inr hy))))
  refine assignInOrder_cons (wpAny_bindName (store_ok I4 hN hi (.inl hx) rv (fun s3 I5=>assignInOrder_nil (wpAny_pure ?_)) (.inr hx)))
  rw [List.set_comm _ _ (Ne.symm hij)] at I5
  exact ⟨_,H1,I5,q1⟩
end
section
variable {X:Cx} {pos:Pos}
noncomputable def tWhile (c:TT) (tb:TS):TS:=fun D σ H=>∃ W:Nat→St→Hp→Prop,(∃ m,W m σ H)∧∀ m σ H,W m σ H→
  c σ H fun b H1=>if b=true then ∃ N:St→Hp→Prop,(∀ σ' H',N σ' H'→∃ m',m' < m∧W m' σ' H')∧tb { D with nx:=N,ct:=N,bk:=D.nx } σ H1 else D.nx σ H1
theorem ps_while {c:Expr} {body:List Stmt} {tc:TT} {tb:TS} (hp:PassesOwn (model X.prog X.w) X.A X.env X.xe) (hc:PT X c tc) (hb:PSs X body tb):PS X (.While c body [] pos) (tWhile tc tb):=by
  intro pins s σ H D I h
  obtain ⟨W,⟨m0,w0⟩,turn⟩:=h
  refine wpAny_While (codeAny_whileLoop (fun n s'=>∃ σ' H',Inv X pins σ' H' s'∧W n σ' H') ?_ m0 ⟨σ,H,I,w0⟩)
  rintro n s1 ⟨σ1,H1,I1,w1⟩
  refine wpAny_passesOwn hp (thn (hc pins s1 σ1 H1 _ I1 (turn n σ1 H1 w1)) fun b s2 ⟨H2,I2,q2⟩=>?_)
  cases b with
  | true =>
    obtain ⟨N,hN,q2⟩:=q2
    rw [if_pos rfl]
    refine wpAny_passesOwn hp (thn (hb pins s2 σ1 H2 _ I2 q2) fun f s3 q3=>?_)
    cases f with
    | next =>
      obtain ⟨σ3,H3,I3,n3⟩:=q3
      obtain ⟨m',hm,w3⟩:=hN σ3 H3 n3
      exact ⟨m',hm,σ3,H3,I3,w3⟩
    | cont =>
      obtain ⟨σ3,H3,I3,n3⟩:=q3
      obtain ⟨m',hm,w3⟩:=hN σ3 H3 n3
      exact ⟨m',hm,σ3,H3,I3,w3⟩
    | brk=>exact q3
    | ret v=>exact q3
  | false =>
    rw [if_neg Bool.false_ne_true]
    exact wpAny_execs_nil ⟨σ1,H2,I2,q2⟩
end
structure It where
  go:Nat→Hp→Prop
  yld:Nat→Hp→V→Hp→Prop
  stop:Nat→Hp→Prop
noncomputable def FpOk (X:Cx) (pins:List (Addr×Obj)) (H:Hp) (b:Addr):Prop :=
  H b=none∧b≠X.env.locals∧b∉ X.fs∧(b∈X.ex∨X.s₀.heap.objs.size≤b)∧(∀ x c,X.env.cells.lookup x=some c→c≠b)∧∀ p∈X.pn ++ pins,p.1≠b
theorem Inv.fpOk {X:Cx} {pins:List (Addr×Obj)} {σ:St} {H H':Hp} {s:Shared} {b:Addr} (I:Inv X pins σ H s) (hb:s.heap.objs.size≤b) (hn:H' b=none):FpOk X pins H' b:=by
  refine ⟨hn,Nat.ne_of_gt (Nat.lt_of_lt_of_le I.lt hb),I.nofs hb,.inr (Nat.le_trans I.sz hb),fun x c e z=>?_,fun p hp z=>?_⟩
  · obtain ⟨v,q⟩:=I.cell x c e
    exact absurd (Nat.lt_of_lt_of_le q.lt (by rw [z]; exact hb)) (Nat.lt_irrefl _)
  · exact absurd (Nat.lt_of_lt_of_le (Heap.lt_size (I.pin p hp).1) (by rw [z]; exact hb)) (Nat.lt_irrefl _)
structure Turn (P:Program) (w:World) (K:PySem.W.Frag) (tg:Expr) (J:It) (fp:List Addr) (it:Addr) (tn:Nat→Heap→Prop):Prop where
  mem:it∈fp
  obj:∀ i h,tn i h→∀ b∈fp,∃ o,h.get? b=some o∧∀ v,o.data≠.cell v
  keep:∀ i h h',tn i h→(∀ b∈fp,∀ o,h.get? b=some o→h'.get? b=some o)→tn i h'
  item :∀ (X:Cx),X.prog=P→X.w=w→X.K=K→X.calm=true→∀ (i:Nat) (pins:List (Addr×Obj)) (s:Shared) (σ:St) (H:Hp) (E:Value→Shared→Prop),Inv X pins σ H s→(∀ b∈fp,FpOk X pins H b)→tn i s.heap→J.go i H→
    wpAny (model P w) X.A (pyNext (.ref it)) (fun r s1=>∃ u,r=some u∧
      wpAny (model P w) X.A (letOwnedTupleGo tg (.ref it) u) (fun _ s2=>∃ x H',Inv X pins σ H' s2∧RelV x u∧J.yld i H x H'∧tn (i + 1) s2.heap∧∀ b∈fp,H' b=none) E s1) E s
  done:∀ (X:Cx),X.prog=P→X.w=w→X.K=K→X.calm=true→∀ (i:Nat) (pins:List (Addr×Obj)) (s:Shared) (σ:St) (H:Hp) (E:Value→Shared→Prop),Inv X pins σ H s→(∀ b∈fp,FpOk X pins H b)→tn i s.heap→J.stop i H→
    wpAny (model P w) X.A (pyNext (.ref it)) (fun r s1=>r=none∧Inv X pins σ H s1) E s
  self:∀ (A:Around) (i:Nat) (s:Shared) (Q:Value→Shared→Prop) (E:Value→Shared→Prop),tn i s.heap→Q (.ref it) s→wpAny (model P w) A (pyIter (.ref it)) Q E s
noncomputable abbrev TI:=St→Hp→(It→Hp→Prop)→Prop
noncomputable def PIE (X:Cx) (pins:List (Addr×Obj)) (σ:St) (tg:Expr) (R:It→Hp→Prop) (itv:Value) (s2:Shared):Prop :=
  ∃ (it:Addr) (fp:List Addr) (tn:Nat→Heap→Prop) (J:It) (H':Hp),itv= .ref it∧Inv X pins σ H' s2∧Turn X.prog X.w X.K tg J fp it tn∧tn 0 s2.heap∧(∀ b∈fp,FpOk X pins H' b)∧R J H'
noncomputable def PI (X:Cx) (tg iter:Expr) (wi:TI):Prop :=
  ∀ (pins:List (Addr×Obj)) (s:Shared) (σ:St) (H:Hp) (R:It→Hp→Prop),Inv X pins σ H s→wi σ H R→
    wpAny (model X.prog X.w) X.A (eval iter X.env) (fun v s1=>wpAny (model X.prog X.w) X.A (pyIter v) (PIE X pins σ tg R) X.xe s1) X.xe s
theorem go_of {M:Model} {A:Around} {E:Value→Shared→Prop} {s:Shared} {tg:Expr} {it:Addr} {u:Value} {o:Obj} {n:String} {vs:Array Value} {Q:Unit→Shared→Prop} (ho:s.heap.get? it=some o) (hc:o.cls= .type n) (hd:o.data= .fields vs)
    (hn: ["enumerate","zip","dict_itemiterator","dict_reverseitemiterator","odict_iterator","itertools.zip_longest","itertools.pairwise"].contains n=false) (hQ:Q () s):wpAny M A (letOwnedTupleGo tg (.ref it) u) Q E s:=by
  unfold letOwnedTupleGo
  cases tg <;> first
    | exact wpAny_pure hQ
    | (cases u <;> first
        | exact wpAny_pure hQ
        | (refine wpAny_bind (wpAny_load ho ?_)
           rw [hc,hd]
           show wpAny M A (if (["enumerate","zip","dict_itemiterator","dict_reverseitemiterator","odict_iterator","itertools.zip_longest","itertools.pairwise"].contains n && vs[0]? == some (rawInt _))=true then _ else _) Q E s
           rw [if_neg (by intro h; rw [hn,Bool.false_and] at h; cases h)]
           exact wpAny_pure hQ))
noncomputable def Itl (K:PySem.W.Frag) (a:Addr):It :=
  ⟨fun i H=>∃ xs x,SqL K H a xs∧xs[i]? =some x,fun i H x H'=>H'=H∧∀ xs,SqL K H a xs→xs[i]? =some x,fun i H=>∃ xs,SqL K H a xs∧xs.length≤i⟩
noncomputable def Itt (K:PySem.W.Frag) (a:Addr):It :=
  ⟨fun i H=>∃ xs x,SqT K H a xs∧xs[i]? =some x,fun i H x H'=>H'=H∧∀ xs,SqT K H a xs→xs[i]? =some x,fun i H=>∃ xs,SqT K H a xs∧xs.length≤i⟩
noncomputable def Itr (lo:Int) (n:Nat):It:=⟨fun i _=>i < n,fun i H x H'=>H'=H∧x= .int (lo + i),fun i _=>n≤i⟩
theorem turn_list {P:Program} {w:World} {K:PySem.W.Frag} {tg:Expr} (a it:Addr):Turn P w K tg (Itl K a) [it] it (fun i h=>h.IsListIter it a i) where
  mem:=by simp
  obj:=fun i h st b hb=>by
    have e:b=it:=by simpa using hb
    subst e
    obtain ⟨o,e,c,d⟩:=st
    exact ⟨o,e,fun v z=>by rw [d] at z; cases z⟩
  keep:=fun i h h' st k=>st.at fun o e=>k it (by simp) o e
  item:=by
    intro X hP hw hK hc i pins s σ H E I hf st hg
    subst hP hw hK
    obtain ⟨xs,x,hq,hx⟩:=hg
    obtain ⟨its,rv,p,hz⟩:=I.list hq
    obtain ⟨u,hu,ru⟩:=rv.get hx
    obtain ⟨f0,f1,f2,f3,f4,f5⟩:=hf it (by simp)
    refine wpAny_pyNext_list_item st p.isList (x:=u) (by simpa using hu) fun h' st' sb=>?_
    have I1:Inv X pins σ H { s with heap:=h' }:=I.turned (t':=s.toks) (fun b o hb e=>(sb.2 b hb).trans e) f0 f1 f3 f4 f5
    obtain ⟨o,e,c,d⟩:=id st'
    exact ⟨u,rfl,go_of (s:={ s with heap:=h' }) e c d (by decide) ⟨x,H,I1,ru,⟨rfl,fun ys hy=>by rw [I.list_inj hy hq]; exact hx⟩,st',fun b hb=>(hf b hb).1⟩⟩
  done:=by
    intro X hP hw hK hc i pins s σ H E I hf st hg
    subst hP hw hK
    obtain ⟨xs,hq,hx⟩:=hg
    obtain ⟨its,rv,p,hz⟩:=I.list hq
    obtain ⟨f0,f1,f2,f3,f4,f5⟩:=hf it (by simp)
    have hl:=rv.length
    exact wpAny_pyNext_list_end (I.ok.hd hc) st p.isList (by simp; omega) fun h' eb=>⟨rfl,I.turned (t':=s.toks) (fun b o hb e=>eb b o hb e) f0 f1 f3 f4 f5⟩
  self:=fun _ _ _ _ _ st h=>wpAny_pyIter_listiter st h
theorem turn_tuple {P:Program} {w:World} {K:PySem.W.Frag} {tg:Expr} (a it:Addr):Turn P w K tg (Itt K a) [it] it (fun i h=>h.IsTupleIter it a i) where
  mem:=by simp
  obj:=fun i h st b hb=>by
    have e:b=it:=by simpa using hb
    subst e
    obtain ⟨o,e,c,d⟩:=st
    exact ⟨o,e,fun v z=>by rw [d] at z; cases z⟩
  keep:=fun i h h' st k=>st.at fun o e=>k it (by simp) o e
  item:=by
    intro X hP hw hK hc i pins s σ H E I hf st hg
    subst hP hw hK
    obtain ⟨xs,x,hq,hx⟩:=hg
    obtain ⟨its,rv,p,hz⟩:=I.tuple hq
    obtain ⟨u,hu,ru⟩:=rv.get hx
    obtain ⟨f0,f1,f2,f3,f4,f5⟩:=hf it (by simp)
    refine wpAny_pyNext_tuple_item st (show s.heap.IsTuple a its.toArray from p) (x:=u) (by simpa using hu) fun h' st' sb=>?_
    have I1:Inv X pins σ H { s with heap:=h' }:=I.turned (t':=s.toks) (fun b o hb e=>(sb.2 b hb).trans e) f0 f1 f3 f4 f5
    obtain ⟨o,e,c,d⟩:=id st'
    exact ⟨u,rfl,go_of (s:={ s with heap:=h' }) e c d (by decide) ⟨x,H,I1,ru,⟨rfl,fun ys hy=>by rw [I.tuple_inj hy hq]; exact hx⟩,st',fun b hb=>(hf b hb).1⟩⟩
  done:=by
    intro X hP hw hK hc i pins s σ H E I hf st hg
    subst hP hw hK
    obtain ⟨xs,hq,hx⟩:=hg
    obtain ⟨its,rv,p,hz⟩:=I.tuple hq
    obtain ⟨f0,f1,f2,f3,f4,f5⟩:=hf it (by simp)
    have hl:=rv.length
    exact wpAny_pyNext_tuple_end (I.ok.hd hc) st (show s.heap.IsTuple a its.toArray from p) (by simp; omega) fun h' eb=>⟨rfl,I.turned (t':=s.toks) (fun b o hb e=>eb b o hb e) f0 f1 f3 f4 f5⟩
  self:=fun _ _ _ _ _ st h=>wpAny_pyIter_tupleiter st h
theorem turn_range {P:Program} {w:World} {K:PySem.W.Frag} {tg:Expr} (it:Addr) (lo:Int) (n:Nat):Turn P w K tg (Itr lo n) [it] it (fun i h=>IsRangeIter h it (lo + (i:Nat) * 1) ((n:Int) - (i:Nat)) 1) where
  mem:=by simp
  obj :=fun i h st b hb=>by
    have e:b=it:=by simpa using hb
    subst e
    exact ⟨_,st,fun v z=>by
      have z':Data.fields _=Data.cell v:=z
      cases z'⟩
  keep:=fun i h h' st k=>k it (by simp) _ st
  item:=by
    intro X hP hw hK hc i pins s σ H E I hf st hg
    subst hP hw hK
    obtain ⟨f0,f1,f2,f3,f4,f5⟩:=hf it (by simp)
    have W:=Walks.range (prog:=X.prog) (w:=X.w) (I.ok.hd hc) it lo 1 n
    refine W.item i s _ _ hg st fun v h' tk hv st' kk=>?_
    obtain ⟨t,rfl⟩:=hv
    have I1:Inv X pins σ H { s with heap:=h',toks:=tk }:=I.turned (fun b o hb e=>kk b o (by simpa using hb) e) f0 f1 f3 f4 f5
    refine ⟨_,rfl,go_of (s:={ s with heap:=h',toks:=tk }) (n:="range_iterator") st' rfl rfl (by decide) ⟨.int (lo + i),H,I1,⟨t, ?_⟩,⟨rfl,rfl⟩,st',fun b hb=>(hf b hb).1⟩⟩
    rw [Int.mul_one]
  done:=by
    intro X hP hw hK hc i pins s σ H E I hf st hg
    subst hP hw hK
    obtain ⟨f0,f1,f2,f3,f4,f5⟩:=hf it (by simp)
    exact wpAny_pyNext_range_end (I.ok.hd hc) st (by have:n≤i:=hg; omega) fun h' eb=>⟨rfl,I.turned (t':=s.toks) (fun b o hb e=>eb b o hb e) f0 f1 f3 f4 f5⟩
  self:=fun _ _ _ _ _ st h=>wpAny_pyIter_rangeiter st h
end L2
namespace L2
open PySem PySem.Spec PyProof.Rows
section
variable {X:Cx} {tg:Expr}
theorem range_it {pins:List (Addr×Obj)} {σ:St} {H:Hp} {s:Shared} {R:It→Hp→Prop} {E:Value→Shared→Prop} {lo hi:Int} {t u v:Tok} {tk:Nat} (I:Inv X pins σ H s) (h1: -(2 ^ 62)≤lo) (h2:lo < 2 ^ 62) (h3: -(2 ^ 62)≤hi) (h4:hi < 2 ^ 62)
    (q:R (Itr lo (hi - lo).toNat) H):wpAny (model X.prog X.w) X.A (pyIter (.ref s.heap.objs.size)) (PIE X pins σ tg R) E { s with heap:=s.heap.push { cls:=.type "range",data:=.fields #[.int lo t,.int hi u,.int 1 v] },toks:=tk }:=by
  refine wpAny_pyIter_range (IsRange.new ..) (small_one h1 h2 h3 h4) ?_
  have I1:Inv X pins σ H { s with heap:=s.heap.push { cls:=.type "range",data:=.fields #[.int lo t,.int hi u,.int 1 v] },toks:=tk }:=I.kept fun b o e=>Heap.get?_push_of_some _ e
  refine ⟨(s.heap.push { cls:=.type "range",data:=.fields #[.int lo t,.int hi u,.int 1 v] }).objs.size,[(s.heap.push { cls:=.type "range",data:=.fields #[.int lo t,.int hi u,.int 1 v] }).objs.size],_,_,H,rfl,
    I1.kept (t':=tk) fun b o e=>Heap.get?_push_of_some _ e,turn_range _ lo (hi - lo).toNat, ?_,fun b hb=>?_,q⟩
  · have e1:lo + ((0:Nat):Int) * 1=lo:=by simp
    have e2:(((hi - lo).toNat:Nat):Int) - ((0:Nat):Int)=Builtin.Range.rangeSize lo hi 1:=by rw [rangeSize_one]; split <;> omega
    show IsRangeIter _ _ (lo + ((0:Nat):Int) * 1) ((((hi - lo).toNat:Nat):Int) - ((0:Nat):Int)) 1
    rw [e1,e2]
    exact Heap.get?_push_size _ rfl
  · have e:b=(s.heap.push { cls:=.type "range",data:=.fields #[.int lo t,.int hi u,.int 1 v] }).objs.size:=by simpa using hb
    subst e
    exact I1.fpOk (Nat.le_refl _) (I1.hok.fresh (Nat.le_refl _))
noncomputable def iRng1 (ta:TA):TI:=fun σ H R=>ta σ H fun vs H1=>∃ j:Int,vs=[.int j]∧ -(2 ^ 62)≤j∧j < 2 ^ 62∧R (Itr 0 j.toNat) H1
noncomputable def iRng2 (ta:TA):TI:=fun σ H R=>ta σ H fun vs H1=>∃ i j:Int,vs=[.int i,.int j]∧(-(2 ^ 62)≤i∧i < 2 ^ 62∧ -(2 ^ 62)≤j∧j < 2 ^ 62)∧R (Itr i (j - i).toNat) H1
theorem pi_range1 {a:Expr} {ta:TA} {p pos:Pos} (hg:Gl X "range") (hm:X.mg "range"=none) (ha:PA X [a] ta) (hs:starEach [a] X.env=[(false,eval a X.env)]:=by rfl):PI X tg (.Call (.Name "range" p) [a] [] pos) (iRng1 ta):=by
  intro pins s σ H R I h
  refine Call_ (ld_blt I hg hm boot_range (PyProof.Rows.callWith_type1 (thn (ha pos pins s σ H _ I h) fun us s1 ⟨vs,H1,I1,r1,q1⟩=>?_) hs rfl))
  obtain ⟨j,e,q1,q2,q⟩:=q1
  subst e
  cases r1 with
  | cons r rr =>
    cases rr
    obtain ⟨t,rfl⟩:=r
    exact call_range_1 (range_it I1 (by omega) (by omega) q1 q2 (by simpa using q))
theorem pi_range2 {a b:Expr} {ta:TA} {p pos:Pos} (hg:Gl X "range") (hm:X.mg "range"=none) (ha:PA X [a,b] ta) (hs:starEach [a,b] X.env=[(false,eval a X.env),(false,eval b X.env)]:=by rfl) (hs2:starEach [b] X.env=[(false,eval b X.env)]:=by rfl) :
    PI X tg (.Call (.Name "range" p) [a,b] [] pos) (iRng2 ta):=by
  intro pins s σ H R I h
  refine Call_ (ld_blt I hg hm boot_range (PyProof.Rows.callWith_type1 (thn (ha pos pins s σ H _ I h) fun us s1 ⟨vs,H1,I1,r1,q1⟩=>?_) (by rw [hs,hs2]) (by rw [hs2]; rfl)))
  obtain ⟨i,j,e,⟨q1,q2,q3,q4⟩,q⟩:=q1
  subst e
  cases r1 with
  | cons r rr =>
    cases rr with
    | cons r' rr =>
      cases rr
      obtain ⟨t,rfl⟩:=r
      obtain ⟨t',rfl⟩:=r'
      exact call_range_2 (range_it I1 q1 q2 q3 q4 q)
noncomputable def tFor (wi:TI) (g:TG) (tb:TS):TS:=fun D σ H=>wi σ H fun J H1=>∃ W:Nat→Nat→St→Hp→Prop,(∃ m,W 0 m σ H1)∧∀ i m σ H,W i m σ H→
  (J.stop i H∧D.nx σ H)∨(J.go i H∧∃ N:St→Hp→Prop,(∀ σ' H',N σ' H'→∃ m',m' < m∧W (i + 1) m' σ' H')∧∀ x H',J.yld i H x H'→g x σ H' fun σ2 H2=>tb { D with nx:=N,ct:=N,bk:=D.nx } σ2 H2)
noncomputable def pinsAt (fp:List Addr) (h:Heap):List (Addr×Obj):=fp.filterMap fun b=>(h.get? b).map fun o=>(b,o)
theorem mem_pinsAt {fp:List Addr} {h:Heap} {b:Addr} {o:Obj} (hb:b∈fp) (e:h.get? b=some o):(b,o)∈pinsAt fp h:=List.mem_filterMap.mpr ⟨b,hb,by rw [e]; rfl⟩
theorem of_pinsAt {fp:List Addr} {h:Heap} {p:Addr×Obj} (hp:p∈pinsAt fp h):p.1∈fp∧h.get? p.1=some p.2:=by
  obtain ⟨b,hb,e⟩:=List.mem_filterMap.mp hp
  cases q:h.get? b with
  | none=>rw [q] at e; cases e
  | some o =>
    rw [q] at e
    have e':(b,o)=p:=Option.some.inj e
    subst e'
    exact ⟨hb,q⟩
theorem Inv.pinned {pins:List (Addr×Obj)} {σ:St} {H:Hp} {s:Shared} {fp:List Addr} (I:Inv X pins σ H s) (hf:∀ b∈fp,FpOk X pins H b) (ho:∀ b∈fp,∃ o,s.heap.get? b=some o∧∀ v,o.data≠.cell v):Inv X (pins ++ pinsAt fp s.heap) σ H s :=
  I.pins_of fun p hp=>(List.mem_append.mp hp).elim (fun z=>I.pin p (List.mem_append_right _ z)) fun z=>by
    obtain ⟨hb,e⟩:=of_pinsAt z
    obtain ⟨f0,f1,f2,_⟩:=hf p.1 hb
    obtain ⟨o,e',d⟩:=ho p.1 hb
    rw [e] at e'; cases e'
    exact ⟨e,f0,f1,f2,d⟩
theorem Inv.unpinned {pins pl:List (Addr×Obj)} {σ:St} {H:Hp} {s:Shared} (I:Inv X (pins ++ pl) σ H s):Inv X pins σ H s:=I.pins_of fun p hp=>I.pin p (List.mem_append_right _ (List.mem_append_left _ hp))
theorem ps_for {iter:Expr} {body:List Stmt} {wi:TI} {g:TG} {tb:TS} {pos:Pos} (hp:PassesOwn (model X.prog X.w) X.A X.env X.xe) (hc:X.calm=true) (hi:PI X tg iter wi) (hg:PG X tg g) (hb:PSs X body tb)
    (hs:∀ x,foldedSetIterable iter X.env x=pure x:=by intro _; rfl):PS X (.For tg iter body [] pos) (tFor wi g tb):=by
  intro pins s σ H D I h
  refine wpAny_For (thn (hi pins s σ H _ I h) fun v s1 h1=>thn h1 fun itv s2 h2=>?_) hs
  obtain ⟨it,fp,tn,J,H2,e,I2,T,st2,f2,W,⟨m0,w0⟩,turn⟩:=h2
  subst e
  have stat:∀ {H':Hp},(∀ b∈fp,H' b=none)→∀ b∈fp,FpOk X pins H' b:=fun hn b hb=>⟨hn b hb,(f2 b hb).2⟩
  refine codeAny_forLoop_any (fun n s'=>∃ i σ' H',Inv X pins σ' H' s'∧tn i s'.heap∧(∀ b∈fp,H' b=none)∧W i n σ' H') ?_ m0 ⟨0,σ,H2,I2,st2,fun b hb=>(f2 b hb).1,w0⟩
  rintro n s3 ⟨i,σ3,H3,I3,st3,fr3,w3⟩
  rcases turn i n σ3 H3 w3 with ⟨stop,qn⟩ | ⟨go,N,hN,step⟩
  · refine wpAny_passesOwn hp (thn (T.done X rfl rfl rfl hc i pins s3 σ3 H3 X.xe I3 (stat fr3) st3 stop) fun r s4 ⟨hr,I4⟩=>?_)
    subst hr
    exact wpAny_execs_nil ⟨σ3,H3,I4,qn⟩
  · refine wpAny_passesOwn hp (thn (T.item X rfl rfl rfl hc i pins s3 σ3 H3 X.xe I3 (stat fr3) st3 go) fun r s4 ⟨u,hr,h4⟩=>?_)
    subst hr
    refine wpAny_passesOwn hp (thn h4 fun _ s5 ⟨x,H5,I5,r5,y5,st5,fr5⟩=>?_)
    have I5':=I5.pinned (stat fr5) (T.obj _ _ st5)
    refine wpAny_passesOwn hp (thn (hg _ s5 σ3 H5 x u _ I5' r5 (step x H5 y5)) fun _ s6 ⟨σ6,H6,I6,q6⟩=>?_)
    refine wpAny_passesOwn hp (thn (hb _ s6 σ6 H6 _ I6 q6) fun f s7 q7=>?_)
    have again:∀ {σ7:St} {H7:Hp},Inv X (pins ++ pinsAt fp s5.heap) σ7 H7 s7→N σ7 H7→∃ m,m < n∧∃ i σ' H',Inv X pins σ' H' s7∧tn i s7.heap∧(∀ b∈fp,H' b=none)∧W i m σ' H':=fun {σ7 H7} I7 n7=>by
      obtain ⟨m',hm,w7⟩:=hN σ7 H7 n7
      refine ⟨m',hm,i + 1,σ7,H7,I7.unpinned,T.keep _ _ _ st5 fun b hb o e=>(I7.pin (b,o) (List.mem_append_right _ (List.mem_append_right _ (mem_pinsAt hb e)))).1,fun b hb=>?_,w7⟩
      obtain ⟨o,e,d⟩:=T.obj _ _ st5 b hb
      exact (I7.pin (b,o) (List.mem_append_right _ (List.mem_append_right _ (mem_pinsAt hb e)))).2.1
    cases f with
    | next=>obtain ⟨σ7,H7,I7,n7⟩:=q7; exact again I7 n7
    | cont=>obtain ⟨σ7,H7,I7,n7⟩:=q7; exact again I7 n7
    | brk=>obtain ⟨σ7,H7,I7,q7⟩:=q7; exact ⟨σ7,H7,I7.unpinned,q7⟩
    | ret v=>obtain ⟨x7,σ7,H7,I7,r7,q7⟩:=q7; exact ⟨x7,σ7,H7,I7.unpinned,r7,q7⟩
end
end L2
namespace L2
open PySem PySem.Spec PyProof.Rows
noncomputable abbrev R2:=V→V→Hp→VK→Prop
noncomputable def OpR (X:Cx) (f:Value→Value→Sem Value) (r:R2):Prop :=
  ∀ (pins:List (Addr×Obj)) (s:Shared) (σ:St) (H:Hp) (x y:V) (v u:Value) (Q:VK),Inv X pins σ H s→RelV x v→RelV y u→r x y H Q→
    wpAny (model X.prog X.w) X.A (f v u) (EP X pins σ Q) X.xe s
noncomputable def UnR (X:Cx) (f:Value→Sem Value) (r:V→Hp→VK→Prop):Prop :=
  ∀ (pins:List (Addr×Obj)) (s:Shared) (σ:St) (H:Hp) (x:V) (v:Value) (Q:VK),Inv X pins σ H s→RelV x v→r x H Q→
    wpAny (model X.prog X.w) X.A (f v) (EP X pins σ Q) X.xe s
noncomputable def CallR (X:Cx) (f:Value) (r:List V→Hp→VK→Prop):Prop :=
  ∀ (pins:List (Addr×Obj)) (s:Shared) (σ:St) (H:Hp) (xs:List V) (us:List Value) (Q:VK),Inv X pins σ H s→Vals xs us→r xs H Q→
    wpAny (model X.prog X.w) X.A (call f us) (EP X pins σ Q) X.xe s
noncomputable def TruR (X:Cx) (r:V→Hp→(Bool→Hp→Prop)→Prop):Prop :=
  ∀ (pins:List (Addr×Obj)) (s:Shared) (σ:St) (H:Hp) (x:V) (v:Value) (Q:Bool→Hp→Prop),Inv X pins σ H s→RelV x v→r x H Q→
    wpAny (model X.prog X.w) X.A (truthy v) (TP X pins σ Q) X.xe s
noncomputable def tOp (r:R2) (ta tb:TE):TE:=fun σ H Q=>ta σ H fun x H1=>tb σ H1 fun y H2=>r x y H2 Q
noncomputable def tUn (r:V→Hp→VK→Prop) (ta:TE):TE:=fun σ H Q=>ta σ H fun x H1=>r x H1 Q
noncomputable def rI (C:Int→Int→Prop) (g:Int→Int→V):R2:=fun x y H Q=>∃ i j,x= .int i∧y= .int j∧C i j∧Q (g i j) H
noncomputable def rI0 (g:Int→Int→V):R2:=fun x y H Q=>∃ i j,x= .int i∧y= .int j∧Q (g i j) H
noncomputable def rU (g:Int→V):V→Hp→VK→Prop:=fun x H Q=>∃ i,x= .int i∧Q (g i) H
section
variable {X:Cx} {a b c:Expr} {ta tb tc:TE} {pos:Pos}
theorem binT (ha:PE X a ta) (hb:PE X b tb) {pins:List (Addr×Obj)} {s:Shared} {σ:St} {H:Hp} {R:V→V→Hp→Prop} (I:Inv X pins σ H s)
    (h:ta σ H fun x H1=>tb σ H1 fun y H2=>R x y H2) {Q:Value→Shared→Prop} {f:Value→Value→Sem Value}
    (hf:∀ v u s2 x y H2,Inv X pins σ H2 s2→RelV x v→RelV y u→R x y H2→wpAny (model X.prog X.w) X.A (f v u) Q X.xe s2) :
    wpAny (model X.prog X.w) X.A (eval a X.env) (fun v s₁=>wpAny (model X.prog X.w) X.A (eval b X.env) (fun u s₂=>wpAny (model X.prog X.w) X.A (f v u) Q X.xe s₂) X.xe s₁) X.xe s:=by
  refine thn (ha pins s σ H _ I h) fun v s1 ⟨x,H1,I1,r1,q1⟩=>?_
  refine thn (hb pins s1 σ H1 _ I1 q1) fun u s2 ⟨y,H2,I2,r2,q2⟩=>?_
  exact hf v u s2 x y H2 I2 r1 r2 q2
theorem pe_op {op:Operator} {r:R2} (ho:OpR X (binaryOp op) r) (ha:PE X a ta) (hb:PE X b tb):PE X (.BinOp a op b pos) (tOp r ta tb):=by
  intro pins s σ H Q I h
  exact wpAny_BinOp (binT ha hb I h fun v u s2 x y H2 I2 rx ry q=>ho pins s2 σ H2 x y v u Q I2 rx ry q)
theorem pe_un {op:UnaryOp} {r:V→Hp→VK→Prop} (ho:UnR X (unaryOp op) r) (ha:PE X a ta):PE X (.UnaryOp op a pos) (tUn r ta):=by
  intro pins s σ H Q I h
  exact UnaryOp_ (thn (ha pins s σ H _ I h) fun v s1 ⟨x,H1,I1,r1,q1⟩=>ho pins s1 σ H1 x v Q I1 r1 q1)
theorem opI {f:Value→Value→Sem Value} {C:Int→Int→Prop} {g:Int→Int→Int}
    (rule:∀ (i j:Int) (t u:Tok) (s:Shared) (Q:Value→Shared→Prop) (E:Value→Shared→Prop),C i j→Q (.int (g i j) s.toks) { s with toks:=s.toks + 1 }→wpAny (model X.prog X.w) X.A (f (.int i t) (.int j u)) Q E s) :
    OpR X f (rI C fun i j=>.int (g i j)):=by
  intro pins s σ H x y v u Q I rx ry h
  obtain ⟨i,j,rfl,rfl,hc,q⟩:=h
  obtain ⟨t,rfl⟩:=rx
  obtain ⟨t',rfl⟩:=ry
  exact rule i j t t' s _ _ hc ⟨.int (g i j),H,I.tok _,⟨_,rfl⟩,q⟩
theorem opI0 {f:Value→Value→Sem Value} {g:Int→Int→Int}
    (rule:∀ (i j:Int) (t u:Tok) (s:Shared) (Q:Value→Shared→Prop) (E:Value→Shared→Prop),Q (.int (g i j) s.toks) { s with toks:=s.toks + 1 }→wpAny (model X.prog X.w) X.A (f (.int i t) (.int j u)) Q E s) :
    OpR X f (rI0 fun i j=>.int (g i j)):=by
  intro pins s σ H x y v u Q I rx ry h
  obtain ⟨i,j,rfl,rfl,q⟩:=h
  obtain ⟨t,rfl⟩:=rx
  obtain ⟨t',rfl⟩:=ry
  exact rule i j t t' s _ _ ⟨.int (g i j),H,I.tok _,⟨_,rfl⟩,q⟩
theorem opB0 {f:Value→Value→Sem Value} {g:Int→Int→Bool}
    (rule:∀ (i j:Int) (t u:Tok) (s:Shared) (Q:Value→Shared→Prop) (E:Value→Shared→Prop),Q (.bool (g i j)) s→wpAny (model X.prog X.w) X.A (f (.int i t) (.int j u)) Q E s) :
    OpR X f (rI0 fun i j=>.bl (g i j)):=by
  intro pins s σ H x y v u Q I rx ry h
  obtain ⟨i,j,rfl,rfl,q⟩:=h
  obtain ⟨t,rfl⟩:=rx
  obtain ⟨t',rfl⟩:=ry
  exact rule i j t t' s _ _ ⟨.bl (g i j),H,I,rfl,q⟩
noncomputable def CPow (i j:Int):Prop:=0≤j∧j≤1000000∧i.natAbs < 2 ^ 64
noncomputable def CMul (i j:Int):Prop:=(-(2 ^ 64) < i∧i < 2 ^ 64)∨(-(2 ^ 64) < j∧j < 2 ^ 64)
theorem CMul.ok {i j:Int} (h:CMul i j):IntMulOk i j:=by
  rcases h with ⟨h1,h2⟩ | ⟨h1,h2⟩
  · exact .of_left (intBits_le_64 h1 h2)
  · exact .of_right (intBits_le_64 h1 h2)
theorem op_add:OpR X (binaryOp .Add) (rI0 fun i j=>.int (i + j)):=opI0 fun _ _ _ _ _ _ _ q=>add_int q
theorem op_sub:OpR X (binaryOp .Sub) (rI0 fun i j=>.int (i - j)):=opI0 fun _ _ _ _ _ _ _ q=>sub_int q
theorem op_mod:OpR X (binaryOp .Mod) (rI (fun _ j=>0 < j) fun i j=>.int (i % j)):=opI fun i j _ _ _ _ _ hc q=>by
  have h1:(0:Int) < j:=hc
  exact mod_int' (by omega) (by rw [Int.fmod_eq_emod_of_nonneg i (by omega)]; exact q)
theorem op_pow:OpR X (binaryOp .Pow) (rI CPow fun i j=>.int (i ^ j.toNat)):=opI fun _ _ _ _ _ _ _ hc q=>pow_int_small hc.1 hc.2.1 hc.2.2 q
theorem op_shl:OpR X (binaryOp .LShift) (rI CPow fun i j=>.int (i * 2 ^ j.toNat)):=opI fun _ _ _ _ _ _ _ hc q=>lshift_int_small hc.1 hc.2.1 hc.2.2 q
theorem unI {f:Value→Sem Value} {g:Int→Int}
    (rule:∀ (i:Int) (t:Tok) (s:Shared) (Q:Value→Shared→Prop) (E:Value→Shared→Prop),Q (.int (g i) s.toks) { s with toks:=s.toks + 1 }→wpAny (model X.prog X.w) X.A (f (.int i t)) Q E s) :
    UnR X f (rU fun i=>.int (g i)):=by
  intro pins s σ H x v Q I rx h
  obtain ⟨i,rfl,q⟩:=h
  obtain ⟨t,rfl⟩:=rx
  exact rule i t s _ _ ⟨.int (g i),H,I.tok _,⟨_,rfl⟩,q⟩
theorem un_neg:UnR X (unaryOp .USub) (rU fun i=>.int (-i)):=unI fun _ _ _ _ _ q=>neg_int q
end
section
variable {X:Cx} {a b c:Expr} {ta tb tc:TE} {pos:Pos}
theorem fin_bl {pins:List (Addr×Obj)} {σ:St} {H:Hp} {s:Shared} {Q:VK} {k k':Bool} (I:Inv X pins σ H s) (q:Q (.bl k) H) (e:k=k'):EP X pins σ Q (.bool k') s:=by
  subst e
  exact ⟨.bl k,H,I,rfl,q⟩
theorem op_lt:OpR X (compareOp .Lt) (rI0 fun i j=>.bl (decide (i < j))):=opB0 fun _ _ _ _ _ _ _ q=>lt_int q
theorem op_le:OpR X (compareOp .LtE) (rI0 fun i j=>.bl (decide (i≤j))):=opB0 fun _ _ _ _ _ _ _ q=>le_int q
theorem op_gt:OpR X (compareOp .Gt) (rI0 fun i j=>.bl (decide (j < i))):=opB0 fun _ _ _ _ _ _ _ q=>gt_int q
theorem op_ge:OpR X (compareOp .GtE) (rI0 fun i j=>.bl (decide (j≤i))):=opB0 fun _ _ _ _ _ _ _ q=>ge_int q
theorem op_isN:OpR X (compareOp .Is) (fun x y H Q=>y= .non∧Q (.bl (decide (x= .non))) H):=by
  intro pins s σ H x y v u Q I rx ry h
  obtain ⟨rfl,q⟩:=h
  cases ry
  refine is_none_gen (fin_bl I q ?_)
  cases x <;> first
    | (cases rx; rfl)
    | (obtain ⟨t,rfl⟩:=rx; rfl)
theorem op_notN:OpR X (compareOp .IsNot) (fun x y H Q=>y= .non∧Q (.bl (!decide (x= .non))) H):=by
  intro pins s σ H x y v u Q I rx ry h
  obtain ⟨rfl,q⟩:=h
  cases ry
  refine isnot_none_gen (fin_bl I q ?_)
  cases x <;> first
    | (cases rx; rfl)
    | (obtain ⟨t,rfl⟩:=rx; rfl)
theorem OpR.or {f:Value→Value→Sem Value} {r r':R2} (h:OpR X f r) (h':OpR X f r'):OpR X f (fun x y H Q=>r x y H Q∨r' x y H Q):=by
  intro pins s σ H x y v u Q I rx ry q
  rcases q with q | q
  · exact h pins s σ H x y v u Q I rx ry q
  · exact h' pins s σ H x y v u Q I rx ry q
theorem pe_cmpR {op:CmpOp} {r:R2} (ho:OpR X (compareOp op) r) (ha:PE X a ta) (hb:PE X b tb) (hm:behindInMarks op b=false):PE X (.Compare a [op] [b] pos) (tOp r ta tb):=by
  intro pins s σ H Q I h
  exact wpAny_Compare1 (binT ha hb I h fun v u s2 x y H2 I2 rx ry q=>ho pins s2 σ H2 x y v u Q I2 rx ry q) hm
noncomputable def tTest (t:TE):TT:=fun σ H Q=>t σ H fun x H'=>∃ k,x= .bl k∧Q k H'
theorem pt_cmpR {op:CmpOp} {r:R2} (ho:OpR X (compareOp op) r) (ha:PE X a ta) (hb:PE X b tb) (hm:behindInMarks op b=false):PT X (.Compare a [op] [b] pos) (tTest (tOp r ta tb)):=by
  intro pins s σ H Q I h
  refine wpAny_isTrue_Compare1 (thn (ha pins s σ H _ I h) fun v s1 ⟨x,H1,I1,r1,q1⟩=>thn (hb pins s1 σ H1 _ I1 q1) fun u s2 ⟨y,H2,I2,r2,q2⟩ =>
    thn (ho pins s2 σ H2 x y v u _ I2 r1 r2 q2) fun c s3 ⟨z,H3,I3,r3,k,e,q3⟩=>?_) hm
  subst e
  cases r3
  exact wpAny_truthy_bool ⟨H3,I3,q3⟩
noncomputable def tChain (r r':R2) (ta tb tc:TE):TE:=fun σ H Q=>ta σ H fun x H1=>tb σ H1 fun y H2=>r x y H2 fun z H3=>∃ k,z= .bl k∧
  (if k=true then tc σ H3 fun w' H4=>r' y w' H4 Q else Q (.bl false) H3)
theorem pe_chain {op op':CmpOp} {r r':R2} (ho:OpR X (compareOp op) r) (ho':OpR X (compareOp op') r') (ha:PE X a ta) (hb:PE X b tb) (hc:PE X c tc)
    (hm:lastMarks [op,op'] [b,c]=false:=by with_unfolding_all rfl):PE X (.Compare a [op,op'] [b,c] pos) (tChain r r' ta tb tc):=by
  intro pins s σ H Q I h
  refine Compare_chain (thn (ha pins s σ H _ I h) fun v s1 ⟨x,H1,I1,r1,q1⟩=>chain_link (thn (hb pins s1 σ H1 _ I1 q1) fun u s2 ⟨y,H2,I2,r2,q2⟩ =>
    thn (ho pins s2 σ H2 x y v u _ I2 r1 r2 q2) fun d s3 ⟨z,H3,I3,r3,k,e,q3⟩=>?_)) hm
  subst e
  cases r3
  refine wpAny_truthy_bool ?_
  cases k with
  | false=>exact ite_ff ⟨.bl false,H3,I3,rfl,q3⟩
  | true=>exact ite_tt (chain_last (thn (hc pins s3 σ H3 _ I3 q3) fun w' s4 ⟨z',H4,I4,r4,q4⟩=>ho' pins s4 σ H4 y z' u w' Q I4 r2 r4 q4))
theorem pt_chain {op op':CmpOp} {r r':R2} (ho:OpR X (compareOp op) r) (ho':OpR X (compareOp op') r') (ha:PE X a ta) (hb:PE X b tb) (hc:PE X c tc)
    (hm:lastMarks [op,op'] [b,c]=false:=by with_unfolding_all rfl):PT X (.Compare a [op,op'] [b,c] pos) (tTest (tChain r r' ta tb tc)):=by
  intro pins s σ H Q I h
  refine isTrue_chain (thn (ha pins s σ H _ I h) fun v s1 ⟨x,H1,I1,r1,q1⟩=>test_link (thn (hb pins s1 σ H1 _ I1 q1) fun u s2 ⟨y,H2,I2,r2,q2⟩ =>
    thn (ho pins s2 σ H2 x y v u _ I2 r1 r2 q2) fun d s3 ⟨z,H3,I3,r3,k,e,q3⟩=>?_)) hm
  subst e
  cases r3
  refine wpAny_truthy_bool ?_
  cases k with
  | false =>
    obtain ⟨k',e',q'⟩:=q3
    cases e'
    exact ite_ff ⟨H3,I3,q'⟩
  | true =>
    refine ite_tt (test_last (thn (hc pins s3 σ H3 _ I3 q3) fun w' s4 ⟨z',H4,I4,r4,q4⟩=>thn (ho' pins s4 σ H4 y z' u w' _ I4 r2 r4 q4) fun d' s5 ⟨z2,H5,I5,r5,k2,e2,q5⟩=>?_))
    subst e2
    cases r5
    exact wpAny_truthy_bool ⟨H5,I5,q5⟩
noncomputable def TruV (K:PySem.W.Frag) (x:V) (H:Hp) (k:Bool):Prop :=
  match x with
  | .non=>k=false
  | .bl b=>k=b
  | .int i=>k=(i != 0)
  | .str y=>y.length≤sizeLine∧k=((y.length:Int) != 0)
  | .byt y=>y.size≤sizeLine∧k=((y.size:Int) != 0)
  | .ref p=>(∃ xs,SqL K H p xs∧k= !xs.isEmpty)∨(∃ xs,SqT K H p xs∧k= !xs.isEmpty)∨∃ kvs,H p=some (.dK kvs)∧k= !kvs.isEmpty
  | _=>False
theorem isEmpty_kv {κ:Type} {kvs:List (κ×V)} {vs:List (κ×Value)} (r:KV kvs vs):(!vs.isEmpty)= !kvs.isEmpty:=by
  cases r <;> rfl
theorem isEmpty_of {xs:List V} {its:List Value} (r:Vals xs its):(!its.toArray.isEmpty)= !xs.isEmpty:=by
  cases r <;> simp
theorem line63:(sizeLine:Nat) < 2 ^ 63:=by rw [sizeLine_eq]; decide
theorem tru_ok:TruR X (fun x H Q=>∃ k,TruV X.K x H k∧Q k H):=by
  intro pins s σ H x v Q I rx h
  obtain ⟨k,e,q⟩:=h
  have hl:=line63
  have hs:sizeLine=16777216:=sizeLine_eq
  cases x with
  | non =>
    cases rx
    have e':k=false:=e
    subst e'
    exact truthy_none ⟨H,I,q⟩
  | bl b =>
    cases rx
    have e':k=b:=e
    subst e'
    exact wpAny_truthy_bool ⟨H,I,q⟩
  | int i =>
    obtain ⟨t,rfl⟩:=rx
    have e':k=(i != 0):=e
    subst e'
    exact PySem.P.truthy_int ⟨H,I,q⟩
  | str y =>
    obtain ⟨t,rfl⟩:=rx
    obtain ⟨hy,e'⟩:y.length≤sizeLine∧k=((y.length:Int) != 0):=e
    subst e'
    exact PySem.P.truthy_str (by omega) ⟨H,I.tok _,q⟩
  | byt y =>
    obtain ⟨t,rfl⟩:=rx
    obtain ⟨hy,e'⟩:y.size≤sizeLine∧k=((y.size:Int) != 0):=e
    subst e'
    exact PySem.W.truthy_bytes (by omega) ⟨H,I.tok _,q⟩
  | ref p =>
    cases rx
    have e':(∃ xs,SqL X.K H p xs∧k= !xs.isEmpty)∨(∃ xs,SqT X.K H p xs∧k= !xs.isEmpty)∨∃ kvs,H p=some (.dK kvs)∧k= !kvs.isEmpty:=e
    rcases e' with ⟨xs,hx,e'⟩ | ⟨xs,hx,e'⟩ | ⟨kvs,hx,e'⟩
    · subst e'
      obtain ⟨its,r,pl,hz⟩:=I.list hx
      have hlen:=r.length
      exact wpAny_truthy_list pl.isList (by simp only [List.size_toArray]; omega) ⟨H,I.tok _,by rw [isEmpty_of r]; exact q⟩
    · subst e'
      obtain ⟨its,r,pl,hz⟩:=I.tuple hx
      have hlen:=r.length
      exact truthy_tuple pl (by simp only [List.size_toArray]; omega) ⟨H,I.tok _,by rw [isEmpty_of r]; exact q⟩
    · subst e'
      obtain ⟨hz,hS,vs,r,m⟩:kvs.length≤sizeLine∧(p == sysModules)=false∧∃ vs,KV kvs vs∧s.heap.DictOf (mixKind X.prog X.w) p vs:=I.hok p _ hx
      have hlen:kvs.length=vs.length:=Paired.length r
      exact wpAny_truthy_dict hS m (by omega) ⟨H,I.tok _,by rw [isEmpty_kv r]; exact q⟩
  | _=>exact (show False from e).elim
theorem pt_truth (ha:PE X a ta) (he:∀ whole,isTrue a X.env whole=(do let v ←whole; standAt a.pos; holding [v] (truthy v))) :
    PT X a (fun σ H Q=>ta σ H fun x H'=>∃ k,TruV X.K x H' k∧Q k H'):=by
  intro pins s σ H Q I h
  exact isTrue_plain (thn (ha pins s σ H _ I h) fun v s1 ⟨x,H1,I1,r1,q1⟩=>tru_ok pins s1 σ H1 x v Q I1 r1 q1) (he _)
theorem op_add_str:OpR X (binaryOp .Add) (fun x y H Q=>∃ i j,x= .str i∧y= .str j∧i.length + j.length≤sizeLine∧Q (.str (i ++ j)) H):=by
  intro pins s σ H x y v u Q I rx ry h
  obtain ⟨i,j,rfl,rfl,hz,q⟩:=h
  obtain ⟨t,rfl⟩:=rx
  obtain ⟨t',rfl⟩:=ry
  exact add_str (fun t' tk=>⟨.str (i ++ j),H,I.tok _,⟨_,rfl⟩,q⟩) hz
theorem vals1 {x:V} {us:List Value} (r:Vals [x] us):∃ u,us=[u]∧RelV x u:=by
  cases r with
  | cons r1 r2=>cases r2; exact ⟨_,rfl,r1⟩
theorem vals2 {x y:V} {us:List Value} (r:Vals [x,y] us):∃ u w',us=[u,w']∧RelV x u∧RelV y w':=by
  cases r with
  | cons r1 r2 =>
    cases r2 with
    | cons r3 r4=>cases r4; exact ⟨_,_,rfl,r1,r3⟩
theorem call_abs:CallR X (.builtin "abs") (fun xs H Q=>∃ i,xs=[.int i]∧Q (.int (if i < 0 then -i else i)) H):=by
  intro pins s σ H xs us Q I r h
  obtain ⟨i,rfl,q⟩:=h
  obtain ⟨u,rfl,t,rfl⟩:=vals1 r
  exact call_abs_int fun u tk=>⟨.int (if i < 0 then -i else i),H,I.tok _,⟨_,rfl⟩,q⟩
theorem call_max2 (hc:X.calm=true):CallR X (.builtin "max") (fun xs H Q=>∃ i j,xs=[.int i,.int j]∧Q (.int (if j > i then j else i)) H):=by
  intro pins s σ H xs us Q I r h
  obtain ⟨i,j,rfl,q⟩:=h
  obtain ⟨u,w',rfl,⟨t,rfl⟩,⟨t',rfl⟩⟩:=vals2 r
  refine max_two_ints (I.ok.hd hc) fun h' tk k=>⟨_,H,I.kept k, ?_,q⟩
  by_cases hj:j > i
  · rw [if_pos hj,if_pos hj]; exact ⟨_,rfl⟩
  · rw [if_neg hj,if_neg hj]; exact ⟨_,rfl⟩
theorem call_min2 (hc:X.calm=true):CallR X (.builtin "min") (fun xs H Q=>∃ i j,xs=[.int i,.int j]∧Q (.int (if j < i then j else i)) H):=by
  intro pins s σ H xs us Q I r h
  obtain ⟨i,j,rfl,q⟩:=h
  obtain ⟨u,w',rfl,⟨t,rfl⟩,⟨t',rfl⟩⟩:=vals2 r
  refine min_two_ints (I.ok.hd hc) fun h' tk k=>⟨_,H,I.kept k, ?_,q⟩
  by_cases hj:j < i
  · rw [if_pos hj,if_pos hj]; exact ⟨_,rfl⟩
  · rw [if_neg hj,if_neg hj]; exact ⟨_,rfl⟩
theorem call_int1:CallR X (.type "int") (fun xs H Q=>(∃ i,xs=[.int i]∧Q (.int i) H)∨∃ k,xs=[.bl k]∧Q (.int (if k then 1 else 0)) H):=by
  intro pins s σ H xs us Q I r h
  rcases h with ⟨i,rfl,q⟩ | ⟨k,rfl,q⟩
  · obtain ⟨u,rfl,t,rfl⟩:=vals1 r
    exact call_int_int ⟨.int i,H,I,⟨_,rfl⟩,q⟩
  · obtain ⟨u,rfl,r1⟩:=vals1 r
    cases r1
    exact call_int_bool ⟨.int (if k then 1 else 0),H,I.tok _,⟨_,rfl⟩,q⟩
theorem call_str_int:CallR X (.type "str") (fun xs H Q=>∃ i,xs=[.int i]∧i.natAbs.log2 < 1920∧Q (.str (toString i)) H):=by
  intro pins s σ H xs us Q I r h
  obtain ⟨i,rfl,hz,q⟩:=h
  obtain ⟨u,rfl,t,rfl⟩:=vals1 r
  exact PySem.P.str_of_int hz ⟨.str _,H,I.tok _,⟨_,rfl⟩,q⟩
end
end L2
namespace L2
open PySem PySem.Spec PyProof.Rows
structure ObjM (h:Heap) (x dx C:Addr) (mA:Str→Option Value):Prop where
  obj:h.get? x=some (PySem.W.instObj C dx)
  ns:h.Ns1 dx mA
  ne:dx≠x
theorem lookIn_ns {h:Heap} {dx:Addr} {mA:Str→Option Value} (n:h.Ns1 dx mA):∃ od,h.get? dx=some od∧∀ name,PySem.W.lookIn name od=some (mA name):=by
  obtain ⟨o,es,ep,ho,hd,hk,_,hm⟩:=n
  refine ⟨o,ho,fun name=>?_⟩
  have e:=hm name
  unfold nsFind findBy at e
  rw [←Array.find?_toList] at e
  unfold PySem.W.lookIn
  rw [hd]
  dsimp only
  split
  · rename_i y q
    rw [q] at e
    exact congrArg some e
  · rename_i q
    rw [q] at e
    have a:es.toList.any (·.refKey)=false:=by
      rw [List.any_eq_false]
      intro y hy
      obtain ⟨z,t,hkey⟩:=hk y (Array.mem_toList_iff.mp hy)
      simp [DictEntry.refKey,hkey]
    have a':¬es.toList.any (·.refKey)=true:=by rw [a]; exact Bool.false_ne_true
    rw [if_neg a']
    exact congrArg some e
theorem ObjM.look {h:Heap} {x dx C:Addr} {mA:Str→Option Value} (I:ObjM h x dx C mA):∃ od,PySem.W.InstAt h x (PySem.W.instObj C dx) C (some od)∧∀ name,PySem.W.lookIn name od=some (mA name) :=
  let ⟨od,ho,hl⟩:=lookIn_ns I.ns
  ⟨od,⟨I.obj,rfl,rfl,ho⟩,hl⟩
section
variable {prog:Program} {w:World} {A:Around} {E:Value→Shared→Prop} {s:Shared} {K:PySem.W.Frag} {x dx C f:Addr} {mA:Str→Option Value} {name:Str} {v:Value}
theorem get_map {expr:Bool} {Q:Value→Shared→Prop} (X:K.In s.heap) (I:ObjM s.heap x dx C mA) (hg:PySem.W.plainGet K C name=true) (hh:PySem.W.hasDictIn K C=true)
    (ha:PySem.W.findIn K (.ref C) name=some none) (hv:mA name=some v) (hv':PySem.W.handedIn v=true) (h:Q v { s with toks:=s.toks + 1 }) :
    wpAny (model prog w) A (getAttr (.ref x) name expr) Q E s:=by
  obtain ⟨od,J,hl⟩:=I.look
  exact PySem.W.get_value X J (PySem.W.plainGet_of hg).1 (PySem.W.findObj_own hh ha rfl (by rw [hl,hv])) hv' h
theorem set_map {ns:List Str} {Q:Unit→Shared→Prop} (X:K.In s.heap) (I:ObjM s.heap x dx C mA)
    (hs:PySem.W.findIn K (.ref C) "__setattr__"=some (some (.builtin "object.__setattr__"))) (hp:PySem.W.plainOver K C=true) (ht:PySem.W.takerIn K C name=some none) (hh:PySem.W.hasDictIn K C=true)
    (hw:PySem.Within mA ns) (hsz:ns.length≤sizeLine)
    (h:∀ h',ObjM h' x dx C (fun y=>if y=name then some v else mA y)→Heap.SameBut dx s.heap h'→Q () { s with heap:=h',toks:=s.toks + 2 }) :
    wpAny (model prog w) A (setAttr (.ref x) name v) Q E s:=by
  obtain ⟨od,J,hl⟩:=I.look
  refine PySem.W.set_plain X J hs (PySem.W.osa_open (s:={ s with toks:=s.toks + 1 }) (r:=none) X J hp ht fun b=>?_)
  obtain ⟨cd,hc,hd'⟩:=PySem.W.any_some hh
  have hx:s.heap.get? x=some ⟨.ref C,some dx,.plain, #[]⟩:=I.obj
  refine wpAny_bind (wpAny_pure (wpAny_bind (wpAny_bind (wpAny_loadPart hx (wpAny_bind (PySem.W.Looks.here (s:={ s with toks:=s.toks + 1 }) (PySem.W.looks_clsIn X hc) ?_))))))
  rw [hd']
  refine wpAny_pure (a:=some dx) (wpAny_bind (wpAny_pure (wpAny_bind ?_)))
  refine wpAny_nsSet1 (s:={ s with toks:=s.toks + 1 }) I.ns fun h' hn2 hs2=>?_
  obtain ⟨oD,esD,epD,hoD,hdD,hcD⟩:=hn2.count (PySem.Within.cons name v hw)
  refine wpAny_bind (wpAny_lookBehind hoD (by rw [hdD]; exact pastItsLine_dict (Nat.le_trans hcD (by rw [List.length_cons]; omega))) ?_)
  exact wpAny_pure (h _ ⟨(hs2.2 _ (Ne.symm I.ne)).trans I.obj,hn2,I.ne⟩ hs2)
theorem make_map {R:Result→Shared→Prop} {vs:List Value} {kw:List (Str×Value)} (X:K.In s.heap) (hm:PySem.W.makesIn K C=true)
    (hi:PySem.W.findIn K (.ref C) "__init__"=some (some (.ref f))) (hf:PySem.W.typeIn K (.ref f)=some (.type "function"))
    (h :codeAny (model prog w) (A.under (.builtin "type.__call__" ⟨.ref C :: vs,kw⟩)) (.call (.ref f) ⟨.ref (s.heap.objs.size + 1) :: vs,kw⟩) (PySem.W.InitBack (s.heap.objs.size + 1) R)
      { s with heap:=(s.heap.push PySem.W.emptyDict).push (PySem.W.instObj C s.heap.objs.size) }) :
    codeAny (model prog w) A (.call (.ref C) ⟨vs,kw⟩) R s:=by
  obtain ⟨hh,g,d,t,os⟩:=s
  exact PySem.W.make_core (PySem.W.makes_of X hm) (PySem.W.looks_findIn X hi) (fun self=>PySem.W.bind_fn X self hf) (.inl rfl) h
end
noncomputable def putF (f:Str) (v:V):List (Str×V)→List (Str×V)
  | []=>[(f,v)]
  | (g,x) :: r=>if g=f then (g,v) :: r else (g,x) :: putF f v r
theorem lookup_putF (f g:Str) (v:V):∀ fs:List (Str×V),(putF f v fs).lookup g=if g=f then some v else fs.lookup g
  | [] =>by
    show List.lookup g [(f,v)]=_
    by_cases h:g=f
    · have hb:(g == f)=true:=beq_iff_eq.mpr h
      simp only [List.lookup,hb,if_pos h]
    · have hb:(g == f)=false:=beq_eq_false_iff_ne.mpr h
      simp only [List.lookup,hb,if_neg h]
  | (k, x) :: r=>by
    have ih:=lookup_putF f g v r
    rw [show putF f v ((k,x) :: r)=(if k=f then (k,v) :: r else (k,x) :: putF f v r) from rfl]
    by_cases hk:k=f
    · rw [if_pos hk]
      by_cases h:g=k
      · have hb:(g == k)=true:=beq_iff_eq.mpr h
        simp only [List.lookup,hb,if_pos (h.trans hk)]
      · have hb:(g == k)=false:=beq_eq_false_iff_ne.mpr h
        simp only [List.lookup,hb,if_neg (fun e:g=f=>h (e.trans hk.symm))]
    · rw [if_neg hk]
      by_cases h:g=k
      · have hb:(g == k)=true:=beq_iff_eq.mpr h
        simp only [List.lookup,hb,if_neg (fun e:g=f=>hk (h.symm.trans e))]
      · have hb:(g == k)=false:=beq_eq_false_iff_ne.mpr h
        simp only [List.lookup,hb]
        exact ih
theorem keys_putF (f:Str) (v:V):∀ fs:List (Str×V),f∈(putF f v fs).map (·.1)∧∀ g,g∈fs.map (·.1)→g∈(putF f v fs).map (·.1)
  | []=>⟨by simp [putF],fun g h=>by simp at h⟩
  | (k, x) :: r=>by
    obtain ⟨i1,i2⟩:=keys_putF f v r
    rw [show putF f v ((k,x) :: r)=(if k=f then (k,v) :: r else (k,x) :: putF f v r) from rfl]
    by_cases hk:k=f
    · rw [if_pos hk]
      subst hk
      exact ⟨by simp,fun g h=>by simpa using h⟩
    · rw [if_neg hk]
      refine ⟨?_,fun g h=>?_⟩
      · rw [List.map_cons]
        exact List.mem_cons_of_mem _ i1
      · rw [List.map_cons] at h ⊢
        rcases List.mem_cons.mp h with e | e
        · exact List.mem_cons.mpr (.inl e)
        · exact List.mem_cons_of_mem _ (i2 g e)
theorem length_putF (f:Str) (v:V):∀ fs:List (Str×V),(putF f v fs).length≤fs.length + 1
  | []=>by simp [putF]
  | (k,x) :: r=>by
    have ih:=length_putF f v r
    rw [show putF f v ((k,x) :: r)=(if k=f then (k,v) :: r else (k,x) :: putF f v r) from rfl]
    by_cases hk:k=f
    · rw [if_pos hk,List.length_cons,List.length_cons]; omega
    · rw [if_neg hk,List.length_cons,List.length_cons]; omega
theorem RelO.some_of {v:V} {o:Option Value} (r:RelO (some v) o):∃ u,o=some u∧RelV v u:=by
  cases o with
  | none=>exact (show False from r).elim
  | some u=>exact ⟨u,rfl,r⟩
theorem handed_of {v:V} {u:Value} (r:RelV v u):PySem.W.handedIn u=true:=by
  cases v with
  | non=>cases (show u=Value.none from r); rfl
  | bl b=>cases (show u=Value.bool b from r); rfl
  | int i=>obtain ⟨t,e⟩:=(show ∃ t,u=Value.int i t from r); cases e; rfl
  | str x=>obtain ⟨t,e⟩:=(show ∃ t,u=Value.str x t from r); cases e; rfl
  | byt b=>obtain ⟨t,e⟩:=(show ∃ t,u=Value.bytes b t from r); cases e; rfl
  | flt b=>obtain ⟨t,e⟩:=(show ∃ t,u=Value.float b t from r); cases e; rfl
  | ref a=>cases (show u=Value.ref a from r); rfl
  | ty n=>cases (show u=Value.type n from r); rfl
section
variable {P:Program} {w:World} {H H':Hp} {h h':Heap} {a C dx:Addr} {fs fs':List (Str×V)}
theorem ins_get (hok:HOk P w H h) (e:H a=some (.ins C dx fs)):∃ mA,ObjM h a dx C mA∧(∀ f,RelO (fs.lookup f) (mA f))∧PySem.Within mA (fs.map (·.1))∧fs.length≤1000∧H dx=some (.own a):=by
  obtain ⟨d,z,ne,ob,mA,n,r,q⟩:=(show ObjOk P w H h a (.ins C dx fs) from hok a _ e)
  exact ⟨mA,⟨ob,n,ne⟩,r,q,z,d⟩
end
structure Cls (K:PySem.W.Frag) (C:Addr):Prop where
  pg:PySem.W.plainGet K C Str.empty=true
  hd:PySem.W.hasDictIn K C=true
  po:PySem.W.plainOver K C=true
  sa:PySem.W.findIn K (.ref C) "__setattr__"=some (some (.builtin "object.__setattr__"))
theorem Cls.get {K:PySem.W.Frag} {C:Addr} (c:Cls K C) (f:Str):PySem.W.plainGet K C f=true:=c.pg
noncomputable def NoAttr (K:PySem.W.Frag) (C:Addr) (f:Str):Prop:=PySem.W.findIn K (.ref C) f=some none
theorem NoAttr.taker {K:PySem.W.Frag} {C:Addr} {f:Str} (n:NoAttr K C f):PySem.W.takerIn K C f=some none:=by
  unfold PySem.W.takerIn
  rw [show PySem.W.findIn K (.ref C) f=some none from n]
  rfl
structure Con (K:PySem.W.Frag) (C:Addr) (f:Str) (v:V) (u:Value):Prop where
  at_:PySem.W.findIn K (.ref C) f=some (some u)
  rel:RelV v u
  get:PySem.W.specialIn K u "__get__"=some none
  cp:PySem.W.copiedNames.contains f=false
structure Meth (K:PySem.W.Frag) (C:Addr) (m:Str) (f:Addr):Prop where
  at_:PySem.W.findIn K (.ref C) m=some (some (.ref f))
  fn:PySem.W.isFn K (.ref f)=true
  kp:PySem.W.keepIn K (.ref f)=true
section
variable {X:Cx} {pins:List (Addr×Obj)} {σ:St} {H:Hp} {s:Shared} {a C dx:Addr} {fs:List (Str×V)} {f:Str} {v:V} {A:Around} {E:Value→Shared→Prop}
theorem getattr_ok {b:Bool} {Q:Value→Shared→Prop} (I:Inv X pins σ H s) (e:H a=some (.ins C dx fs)) (c:Cls X.K C) (n:NoAttr X.K C f) (l:fs.lookup f=some v)
    (h:∀ u s',Inv X pins σ H s'→RelV v u→Q u s'):wpAny (model X.prog X.w) A (getAttr (.ref a) f b) Q E s:=by
  obtain ⟨mA,O,r,_,_,_⟩:=ins_get I.hok e
  obtain ⟨u,hu,ru⟩:=RelO.some_of (v:=v) (o:=mA f) (by rw [←l]; exact r f)
  exact get_map I.kIn O (c.get f) c.hd n hu (handed_of ru) (h u _ (I.tok _) ru)
theorem setattr_ok {y:V} {u:Value} {Q:Unit→Shared→Prop} (I:Inv X pins σ H s) (e:H a=some (.ins C dx fs)) (c:Cls X.K C) (n:NoAttr X.K C f) (hl:fs.length < 1000) (ry:RelV y u)
    (h:∀ s',Inv X pins σ (upd H a (.ins C dx (putF f y fs))) s'→Q () s'):wpAny (model X.prog X.w) A (setAttr (.ref a) f u) Q E s:=by
  obtain ⟨mA,O,r,wi,_,ho⟩:=ins_get I.hok e
  have hz:(fs.map (·.1)).length≤sizeLine:=by rw [List.length_map,sizeLine_eq]; omega
  refine set_map I.kIn O c.sa c.po n.taker c.hd wi hz fun h' O' sb=>h _ ?_
  have hd:∃ o,h'.get? dx=some o:=let ⟨o,_,_,e',_⟩:=O'.ns; ⟨o,e'⟩
  refine I.write (x:=a) (e:=dx) (by rw [e]; exact True.intro) (.inr ho) (fun b q hb z=>(sb.2 b hb).trans z) hd ?_
  refine ⟨by rw [upd_ne O.ne]; exact ho, ?_,O.ne,O'.obj,_,O'.ns,fun g=>?_,fun g hg=>?_⟩
  · have:=length_putF f y fs; omega
  · show RelO ((putF f y fs).lookup g) (if g=f then some u else mA g)
    rw [lookup_putF]
    by_cases q:g=f
    · rw [if_pos q,if_pos q]; exact ry
    · rw [if_neg q,if_neg q]; exact r g
  · by_cases q:g=f
    · rw [q]; exact (keys_putF f y fs).1
    · refine (keys_putF f y fs).2 g (wi g fun z=>hg ?_)
      show (if g=f then some u else mA g)=none
      rw [if_neg q]; exact z
theorem Inv.made (I:Inv X pins σ H s):Inv X pins σ (upd (upd H s.heap.objs.size (.own (s.heap.objs.size + 1))) (s.heap.objs.size + 1) (.ins C s.heap.objs.size []))
    { s with heap:=(s.heap.push PySem.W.emptyDict).push (PySem.W.instObj C s.heap.objs.size) }:=by
  have e1:(s.heap.push PySem.W.emptyDict).get? s.heap.objs.size=some PySem.W.emptyDict:=Heap.get?_push_size s.heap rfl
  have e2:((s.heap.push PySem.W.emptyDict).push (PySem.W.instObj C s.heap.objs.size)).get? (s.heap.objs.size + 1)=some (PySem.W.instObj C s.heap.objs.size):=by
    have:=Heap.get?_push_size (s.heap.push PySem.W.emptyDict) (o:=PySem.W.instObj C s.heap.objs.size) rfl
    rwa [Heap.size_push] at this
  have e3:(s.heap.push PySem.W.emptyDict).Ns s.heap.objs.size (fun _=>none):=⟨PySem.W.emptyDict, #[],_,e1,rfl,(fun e he=>absurd he (by simp)),fun _=>rfl⟩
  have I1:=I.laid (a:=s.heap.objs.size) (o:=.own (s.heap.objs.size + 1)) (h':=s.heap.push PySem.W.emptyDict) (t':=s.toks) (fun b u q=>Heap.get?_push_of_some _ q) (Nat.le_refl _) ⟨_,e1⟩
  refine I1.laid (a:=s.heap.objs.size + 1) (o:=.ins C s.heap.objs.size []) (t':=s.toks) (fun b u q=>Heap.get?_push_of_some _ q) (Nat.le_of_eq (Heap.size_push _ _)) ?_
  have ne:s.heap.objs.size≠s.heap.objs.size + 1:=Nat.ne_of_lt (Nat.lt_succ_self _)
  refine ⟨by rw [upd_ne ne,upd_same],Nat.zero_le _,ne,e2,fun _=>none,(Heap.Ns1.of_empty e3).at fun o q=>Heap.get?_push_of_some _ q,fun _=>True.intro,fun y hy=>absurd rfl hy⟩
theorem attr_of {prog:Program} {w:World} {env:Env} {e:Expr} {f:Str} {pos:Pos} {s:Shared} {Q:Value→Shared→Prop} (hb:attributeBase e f env (eval e env)=eval e env)
    (h:wpAny (model prog w) A (eval e env) (fun o s₁=>wpAny (model prog w) A (getAttr o f true) Q E s₁) E s):wpAny (model prog w) A (eval (.Attribute e f pos) env) Q E s :=
  Attribute_any_ h (by rw [arm_eval_Attribute,hb])
end
noncomputable def tFld (K:PySem.W.Frag) (ta:TE) (f:Str):TE:=fun σ H Q=>ta σ H fun x H1=>∃ a C dx fs v,x= .ref a∧H1 a=some (.ins C dx fs)∧Cls K C∧NoAttr K C f∧fs.lookup f=some v∧Q v H1
noncomputable def sFld (K:PySem.W.Frag) (ta tv:TE) (f:Str):TS:=fun D σ H=>tv σ H fun y H1=>ta σ H1 fun x H2=>∃ a C dx fs,x= .ref a∧H2 a=some (.ins C dx fs)∧Cls K C∧NoAttr K C f∧fs.length < 1000∧
  D.nx σ (upd H2 a (.ins C dx (putF f y fs)))
section
variable {X:Cx} {o e value:Expr} {f:Str} {pos pos' tpos:Pos} {ta tv:TE}
theorem pe_fld (he:PE X e ta) (hb:attributeBase e f X.env (eval e X.env)=eval e X.env):PE X (.Attribute e f pos) (tFld X.K ta f):=by
  intro pins s σ H Q I h
  refine attr_of hb (thn (he pins s σ H _ I h) fun u s1 ⟨x,H1,I1,rx,a,C,dx,fs,v,ex,ea,c,n,l,q⟩=>?_)
  subst ex
  obtain rfl:u=Value.ref a:=rx
  exact getattr_ok I1 ea c n l fun u' s2 I2 ru=>⟨v,H1,I2,ru,q⟩
theorem ps_fld (ha:PE X o ta) (hv:PE X value tv) (hs:swapsWith value (some (.Attribute o f pos')) pos.line X.env=pure false):PS X (.Assign [.Attribute o f pos'] value pos) (sFld X.K ta tv f):=by
  intro pins s σ H D I h
  refine plainObj_wpAny_Assign_Attribute (thn (hv pins s σ H _ I h) fun u s1 ⟨y,H1,I1,ry,q⟩=>thn (ha pins s1 σ H1 _ I1 q) fun ov s2 ⟨x,H2,I2,rx,a,C,dx,fs,ex,ea,c,n,l,q2⟩=>?_) hs
  subst ex
  obtain rfl:ov=Value.ref a:=rx
  exact setattr_ok I2 ea c n l ry fun s3 I3=>⟨σ,_,I3,q2⟩
end
section
variable {X:Cx} {pins:List (Addr×Obj)} {σ:St} {H:Hp} {s:Shared} {A:Around} {E:Value→Shared→Prop} {Q:Value→Shared→Prop} {c:Value} {b:Bool}
inductive TyOf (K:PySem.W.Frag) (H:Hp):V→Value→Prop where
  | non:TyOf K H .non (.type "NoneType")
  | bl (x:Bool):TyOf K H (.bl x) (.type "bool")
  | int (i:Int):TyOf K H (.int i) (.type "int")
  | str (x:Str):TyOf K H (.str x) (.type "str")
  | flt (x:UInt64):TyOf K H (.flt x) (.type "float")
  | lst {a:Addr} {xs:List V} (e:H a=some (.lst xs)):TyOf K H (.ref a) (.type "list")
  | frz {a:Addr} {o:Obj} {xs:List V} (e:H a=some (.frz o (.lst xs))):TyOf K H (.ref a) (.type "list")
  | tup {a:Addr} {xs:List V} (e:H a=some (.tup xs)):TyOf K H (.ref a) (.type "tuple")
  | dK {a:Addr} {kvs:List (Key×V)} (e:H a=some (.dK kvs)):TyOf K H (.ref a) (.type "dict")
  | dT {a:Addr} {kvs:List (List Key×V)} (e:H a=some (.dT kvs)):TyOf K H (.ref a) (.type "dict")
  | ins {a C dx:Addr} {fs:List (Str×V)} (e:H a=some (.ins C dx fs)) (cl:Cls K C) (ha:PySem.W.findIn K (.ref C) "__class__"=some (some (.builtin "object.__class__")))
      (hn:PySem.W.specialIn K (.builtin "object.__class__") "__get__"=some (some (.builtin "getset_descriptor.__get__"))) (htk:PySem.W.takesIn K (.builtin "object.__class__")=some true)
      (hm:PySem.W.mroIn K C (.type "object")=some true):TyOf K H (.ref a) (.ref C)
theorem isinst_ok {x:V} {u t:Value} (I:Inv X pins σ H s) (rx:RelV x u) (ty:TyOf X.K H x t) (e:PySem.W.kitOne X.K t c=some b) (h:∀ tk,Q (.bool b) { s with toks:=tk }) :
    wpAny (model X.prog X.w) A (call (.builtin "isinstance") [u,c]) Q E s:=by
  cases ty with
  | non=>cases (show u=Value.none from rx); exact PySem.W.kia_one PySem.W.kitx_none I.kIn True.intro e (fun z=>nomatch z) h
  | bl y=>cases (show u=Value.bool y from rx); exact PySem.W.kia_one PySem.W.kitx_bool I.kIn True.intro e (fun z=>nomatch z) h
  | int i=>obtain ⟨t,q⟩:=(show ∃ t,u=Value.int i t from rx); cases q; exact PySem.W.kia_one PySem.W.kitx_int I.kIn True.intro e (fun z=>nomatch z) h
  | str y=>obtain ⟨t,q⟩:=(show ∃ t,u=Value.str y t from rx); cases q; exact PySem.W.kia_one PySem.W.kitx_str I.kIn True.intro e (fun z=>nomatch z) h
  | flt y=>obtain ⟨t,q⟩:=(show ∃ t,u=Value.float y t from rx); cases q; exact PySem.W.kia_one PySem.W.kitx_float I.kIn True.intro e (fun z=>nomatch z) h
  | @lst a xs ea =>
    cases (show u=Value.ref a from rx)
    obtain ⟨_,_,n,_,h1⟩:=(show ObjOk X.prog X.w H s.heap a (.lst xs) from I.hok a _ ea)
    exact PySem.W.kia_one PySem.W.kitx_list I.kIn ⟨_,h1,rfl⟩ e (fun z=>nomatch z) h
  | @frz a ob xs ea =>
    cases (show u=Value.ref a from rx)
    obtain ⟨_,_,_,n,_,h1⟩:=(show ObjOk X.prog X.w H s.heap a (.frz ob (.lst xs)) from I.hok a _ ea)
    exact PySem.W.kia_one PySem.W.kitx_list I.kIn ⟨_,h1,rfl⟩ e (fun z=>nomatch z) h
  | @tup a xs ea =>
    cases (show u=Value.ref a from rx)
    obtain ⟨_,_,_,p⟩:=(show ObjOk X.prog X.w H s.heap a (.tup xs) from I.hok a _ ea)
    obtain ⟨o,h1,h2,_⟩:=p.1
    exact PySem.W.kia_one PySem.W.kitx_tuple I.kIn ⟨o,h1,h2⟩ e (fun z=>nomatch z) h
  | @dK a kvs ea =>
    cases (show u=Value.ref a from rx)
    obtain ⟨_,_,vs,_,p⟩:=(show ObjOk X.prog X.w H s.heap a (.dK kvs) from I.hok a _ ea)
    obtain ⟨o,es,ep,h1,h2,_⟩:=p
    exact PySem.W.kia_one PySem.W.kitx_dict I.kIn ⟨o,h1,h2.1⟩ e (fun z=>nomatch z) h
  | @dT a kvs ea =>
    cases (show u=Value.ref a from rx)
    obtain ⟨_,_,xs,_,o,es,ep,h1,h2,_⟩:=(show ObjOk X.prog X.w H s.heap a (.dT kvs) from I.hok a _ ea)
    exact PySem.W.kia_one PySem.W.kitx_dict I.kIn ⟨o,h1,h2.1⟩ e (fun z=>nomatch z) h
  | @ins a C dx fs ea cl ha hn htk hm =>
    cases (show u=Value.ref a from rx)
    obtain ⟨mA,O,_⟩:=ins_get I.hok ea
    obtain ⟨od,J,_⟩:=O.look
    exact PySem.W.kia_one (PySem.W.kitx_own (cl.get _) cl.hd ha hn htk hm) I.kIn J e (fun z=>nomatch z) h
end
end L2
namespace L2
open PySem PySem.Spec PyProof.Rows
structure Room (k:Nat) (A:Around):Prop where
  hd:A.handled=none
  dp:A.depth + 3 * k + 5 < recursionLimit
  un:A.units + 16 * k + 200 < cLine
  gd:80≤k→A.guards=some []
theorem Room.mono {j k:Nat} {A:Around} (r:Room k A) (h:j≤k):Room j A:=⟨r.hd,by have:=r.dp; omega,by have:=r.un; omega,fun z=>r.gd (Nat.le_trans z h)⟩
theorem Room.deeper {k:Nat} {A:Around} (r:Room (k + 1) A) (env:Env):Room k (A.deeper env) :=
  ⟨r.hd,by have:=r.dp; show A.depth + 1 + 3 * k + 5 < _; omega,by have:=r.un; show A.units + 3 + 16 * k + 200 < _; omega,fun z=>r.gd (Nat.le_succ_of_le z)⟩
theorem Room.in1 {k:Nat} {A:Around} (r:Room (k + 1) A):Room k A.in1 :=
  ⟨r.hd,by have:=r.dp; show A.depth + 3 * k + 5 < _; omega,by have:=r.un; show A.units + 1 + 16 * k + 200 < _; omega,fun z=>r.gd (Nat.le_succ_of_le z)⟩
theorem make_depth {A:Around} {C:Addr} {us:List Value} {kw:List (Str×Value)}:(A.under (.builtin "type.__call__" ⟨.ref C :: us,kw⟩)).depth=A.depth + 1:=by
  first | rfl | simp [Around.under,Code.weight,Code.isCreation,Code.isGuard,Code.isCaller,Code.frames,Code.isFrame,guardIds]
theorem make_units {A:Around} {C:Addr} {us:List Value} {kw:List (Str×Value)}:(A.under (.builtin "type.__call__" ⟨.ref C :: us,kw⟩)).units=A.units + 1:=by
  first | rfl | simp [Around.under,Code.cUnits,Code.frames,Code.isFrame]
theorem Room.make {k:Nat} {A:Around} (r:Room (k + 1) A) (C:Addr) (us:List Value) (kw:List (Str×Value)):Room k (A.under (.builtin "type.__call__" ⟨.ref C :: us,kw⟩)) :=
  ⟨r.hd,by have:=r.dp; rw [make_depth]; omega,by have:=r.un; rw [make_units]; omega,fun z=>by
    have e:=r.gd (Nat.le_succ_of_le z)
    first | exact e | (simp only [Around.under,Code.isGuard,guardIds]; simpa using e)⟩
theorem Room.depth {k:Nat} {A:Around} (r:Room k A):A.depth < recursionLimit:=by have:=r.dp; omega
theorem Room.units {k:Nat} {A:Around} (r:Room k A):A.units + 64 < cLine:=by have:=r.un; omega
theorem Room.units0 {k:Nat} {A:Around} (r:Room k A):A.units < cLine:=by have:=r.un; omega
noncomputable def tNil:TA:=fun _ H Q=>Q [] H
noncomputable def tCons (ta:TE) (tr:TA):TA:=fun σ H Q=>ta σ H fun x H1=>tr σ H1 fun xs H2=>Q (x :: xs) H2
section
variable {X:Cx} {e:Expr} {es:List Expr} {te:TE} {t:TA} {pos:Pos}
theorem pa_nil:PA X [] tNil:=fun _ _ _ _ H Q I h=>Calls.spliced_nil ⟨[],H,I,.nil,h⟩
theorem pa_cons (ha:PE X e te) (hr:PA X es t) (hs:starEach (e :: es) X.env=(false,eval e X.env) :: starEach es X.env:=by rfl):PA X (e :: es) (tCons te t):=by
  intro pos pins s σ H Q I h
  rw [hs]
  show wpAny _ _ (spliced ((false,eval e X.env) :: backTo pos (starEach es X.env))) _ _ s
  refine Calls.spliced_cons (thn (ha pins s σ H _ I h) fun u s1 ⟨x,H1,I1,r1,q1⟩=>?_)
  exact thn (hr pos pins s1 σ H1 _ I1 q1) fun us s2 ⟨xs,H2,I2,r2,q2⟩=>⟨x :: xs,H2,I2,.cons r1 r2,q2⟩
noncomputable def tTup (t:TA):TE:=fun σ H Q=>t σ H fun xs H1=>xs.length≤sizeLine∧∀ p,H1 p=none→Q (.ref p) (upd H1 p (.tup xs))
noncomputable def tLst (t:TA):TE:=fun σ H Q=>t σ H fun xs H1=>xs.length≤sizeLine∧∀ p,H1 p=none→Q (.ref p) (upd H1 p (.lst xs))
theorem pe_tup {x1} (h:PA X es t):PE X (.Tuple es x1 pos) (tTup t):=by
  intro pins s σ H Q I hq
  refine wpAny_Tuple_spliced (thn (h pos pins s σ H _ I hq) fun us s1 ⟨xs,H1,I1,r,z,q⟩=>⟨by rw [←r.length]; exact z, ?_⟩)
  have hf:H1 s1.heap.objs.size=none:=I1.hok.fresh (Nat.le_refl _)
  refine ⟨.ref s1.heap.objs.size,upd H1 s1.heap.objs.size (.tup xs),I1.laid (t':=s1.toks) (fun b u e=>Heap.get?_push_of_some _ e) (Nat.le_refl _) ?_,rfl,q _ hf⟩
  exact ⟨z,us,r,IsTupN.new _ _⟩
theorem pe_lst (h:PA X es t):PE X (.List es pos) (tLst t):=by
  intro pins s σ H Q I hq
  refine wpAny_List_spliced (thn (h pos pins s σ H _ I hq) fun us s1 ⟨xs,H1,I1,r,z,q⟩=>⟨by rw [←r.length]; exact z, ?_⟩)
  have hf:H1 s1.heap.objs.size=none:=I1.hok.fresh (Nat.le_refl _)
  refine ⟨.ref s1.heap.objs.size,upd H1 s1.heap.objs.size (.lst xs),I1.laid (t':=s1.toks) (fun b u e=>Heap.get?_push_of_some _ e) (Nat.le_refl _) ?_,rfl,q _ hf⟩
  exact ⟨z,us,0,r,Heap.get?_push_size _ rfl⟩
end
noncomputable abbrev Sp:=List V→Hp→VK→XK→Prop
noncomputable abbrev CXT:=List Env→Hp→Shared→XK→Value→Shared→Prop
structure Env0 (P:Program) (w:World) (K:PySem.W.Frag) (mg:Str→Option Value) (base:Heap) (A:Around) (outer:List Env) (s:Shared) (H:Hp):Prop where
  frames:A.frames=some outer
  mod:Mod K mg base
  bs:∀ b o,base.get? b=some o→s.heap.get? b=some o∧H b=none
  bsz:base.objs.size≤s.heap.objs.size
  funs:s.heap.FunFrames base outer
  frf:∀ b∈frs outer,H b=none
  hok:HOk P w H s.heap
  bare:AllBare s.gens
noncomputable def CE (outer:List Env) (P:Program) (w:World) (H:Hp) (s:Shared) (Q:VK) (u:Value) (s':Shared):Prop :=
  ∃ v H',s'.os=s.os∧AllBare s'.gens∧Un (frs outer) [] H H' s.heap s'.heap∧HOk P w H' s'.heap∧RelV v u∧Q v H'
noncomputable def CR (CX:CXT) (outer:List Env) (P:Program) (w:World) (H:Hp) (s:Shared) (Q:VK) (E:XK) (r:Result) (s':Shared):Prop :=
  match r with
  | .ok (.ret u)=>CE outer P w H s Q u s'
  | .ok _=>False
  | .error e=>CX outer H s E e s'
structure FnOk (P:Program) (w:World) (K:PySem.W.Frag) (mg:Str→Option Value) (base:Heap) (CX:CXT) (k:Nat) (f:Addr) (fd:FuncData) (ps:List Str) (sp:Sp):Prop where
  len:∀ vs H Q E,sp vs H Q E→vs.length=ps.length
  run:∀ (A:Around) (outer:List Env) (s:Shared) (H:Hp) (args:Args) (us:List Value) (vs:List V) (Q:VK) (E:XK),Room k A→Env0 P w K mg base A outer s H→BindsTo s fd args (ps.zip us)→Vals vs us→sp vs H Q E→
    codeAny (model P w) A (.call (.ref f) args) (CR CX outer P w H s Q E) s
theorem FnOk.mono {P:Program} {w:World} {K:PySem.W.Frag} {mg:Str→Option Value} {base:Heap} {CX:CXT} {j k:Nat} {f:Addr} {fd:FuncData} {ps:List Str} {sp:Sp} (F:FnOk P w K mg base CX j f fd ps sp) (h:j≤k) :
    FnOk P w K mg base CX k f fd ps sp:=⟨F.len,fun A outer s H args us vs Q E hr=>F.run A outer s H args us vs Q E (hr.mono h)⟩
theorem FnOk.imp {P:Program} {w:World} {K:PySem.W.Frag} {mg:Str→Option Value} {base:Heap} {CX:CXT} {k:Nat} {f:Addr} {fd:FuncData} {ps:List Str} {sp sp':Sp} (F:FnOk P w K mg base CX k f fd ps sp)
    (h:∀ vs H Q E,sp' vs H Q E→sp vs H Q E):FnOk P w K mg base CX k f fd ps sp' :=
  ⟨fun vs H Q E q=>F.len vs H Q E (h _ _ _ _ q),fun A outer s H args us vs Q E hr he hb hv hs=>F.run A outer s H args us vs Q E hr he hb hv (h _ _ _ _ hs)⟩
theorem Env0.make {P:Program} {w:World} {K:PySem.W.Frag} {mg:Str→Option Value} {base:Heap} {A:Around} {outer:List Env} {s:Shared} {H:Hp} (e:Env0 P w K mg base A outer s H) (C:Addr) (us:List Value) (kw:List (Str×Value)) :
    Env0 P w K mg base (A.under (.builtin "type.__call__" ⟨.ref C :: us,kw⟩)) outer s H:=⟨by first | exact e.frames | (simpa [Around.under,Code.envs,Code.isFrame,pushEnvs] using e.frames),e.mod,e.bs,e.bsz,e.funs,e.frf,e.hok,e.bare⟩
theorem Env0.in1 {P:Program} {w:World} {K:PySem.W.Frag} {mg:Str→Option Value} {base:Heap} {A:Around} {outer:List Env} {s:Shared} {H:Hp} (e:Env0 P w K mg base A outer s H) :
    Env0 P w K mg base A.in1 outer s H:=⟨e.frames,e.mod,e.bs,e.bsz,e.funs,e.frf,e.hok,e.bare⟩
section
variable {X:Cx} {pins:List (Addr×Obj)} {σ:St} {H:Hp} {s s':Shared}
theorem Inv.env0 (I:Inv X pins σ H s):Env0 X.prog X.w X.K X.mg X.base X.A X.stack s H :=
  ⟨I.ok.frames,I.ok.mod,I.bs,Nat.le_trans I.ok.bsz I.sz,I.stack,I.stkFree,I.hok,I.bare⟩
theorem Inv.after {Q:VK} {u:Value} (I:Inv X pins σ H s) (h:CE X.stack X.prog X.w H s Q u s'):EP X pins σ Q u s':=by
  obtain ⟨v,H',os,bare,un,hok,r,q⟩:=h
  obtain ⟨hh,g,d,t,os'⟩:=s'
  obtain rfl:os'=s.os:=os
  exact ⟨v,H',I.call (h':=hh) (g':=g) (d':=d) (t':=t) (ch:=[]) un hok bare (fun b z=>absurd z (by simp)),r,q⟩
end
noncomputable def tCall (sp:Sp) (dvs:List V) (E:XK) (t:TA):TE:=fun σ H Q=>t σ H fun vs H1=>sp (vs ++ dvs) H1 Q E
noncomputable def tMake (C:Addr) (sp:Sp) (dvs:List V) (E:XK) (t:TA):TE:=fun σ H Q=>t σ H fun vs H1=>∀ x dx,H1 x=none→H1 dx=none→dx≠x→
  sp (.ref x :: (vs ++ dvs)) (upd (upd H1 dx (.own x)) x (.ins C dx [])) (fun v H2=>v= .non∧Q (.ref x) H2) E
noncomputable def Binds (K:PySem.W.Frag) (fd:FuncData) (ps:List Str) (ds:List Value):Prop :=
  ∀ (s:Shared) (us:List Value),K.In s.heap→(us ++ ds).length=ps.length→BindsTo s fd ⟨us,[]⟩ (ps.zip (us ++ ds))
theorem Binds.all {K:PySem.W.Frag} {fd:FuncData} {ps:List Str} (h:∀ us:List Value,us.length=ps.length→bindArgs fd ⟨us,[]⟩=pure (ps.zip us)):Binds K fd ps []:=fun s us _ hl=>by
  rw [List.append_nil] at hl ⊢
  exact .of_eq (h us hl)
noncomputable def Passes (CX:CXT) (X:Cx) (E:XK):Prop:= ∀ (pins:List (Addr×Obj)) (σ:St) (H:Hp) (s:Shared) (e:Value) (s':Shared),Inv X pins σ H s→CX X.stack H s E e s'→X.xe e s'
section
variable {X:Cx} {CX:CXT} {k:Nat} {f C:Addr} {fd:FuncData} {ps:List Str} {sp:Sp} {dvs:List V} {ds:List Value} {E:XK} {x m:Str} {p pos apos:Pos} {e o:Expr} {es:List Expr} {ta:TE} {t:TA}
theorem run_fn {pins:List (Addr×Obj)} {σ:St} {H:Hp} {s:Shared} {Q:VK} {us:List Value} {vs:List V} (F:FnOk X.prog X.w X.K X.mg X.base CX k f fd ps sp) (hr:Room k X.A) (hb:Binds X.K fd ps ds) (hd:Vals dvs ds) (hx:Passes CX X E)
    (I:Inv X pins σ H s) (r:Vals vs us) (h:sp (vs ++ dvs) H Q E):wpAny (model X.prog X.w) X.A (call (.ref f) us) (EP X pins σ Q) X.xe s:=by
  have r2:Vals (vs ++ dvs) (us ++ ds):=r.append hd
  have hl:(us ++ ds).length=ps.length:=by rw [←r2.length]; exact F.len _ _ _ _ h
  refine wpAny_call (codeAny_mono (F.run X.A X.stack s H ⟨us,[]⟩ (us ++ ds) (vs ++ dvs) Q E hr I.env0 (hb s us I.kIn hl) r2 h) fun r s' hq=>?_)
  cases r with
  | error e=>exact hx pins σ H s e s' I hq
  | ok fl =>
    cases fl with
    | ret u=>exact I.after hq
    | next=>exact False.elim hq
    | brk=>exact False.elim hq
    | cont=>exact False.elim hq
theorem pe_call (F:FnOk X.prog X.w X.K X.mg X.base CX k f fd ps sp) (hr:Room k X.A) (hg:Gl X x) (hm:X.mg x=some (.ref f)) (hk:PySem.W.keepIn X.K (.ref f)=true) (hb:Binds X.K fd ps ds) (hd:Vals dvs ds) (hx:Passes CX X E)
    (ha:PA X (e :: es) t) (hdb:(x == ("__debug__":Str))=false:=by decide) (he:starEach (e :: es) X.env=(false,eval e X.env) :: starEach es X.env:=by rfl) (hpl:(backTo pos (starEach es X.env)).any (·.1)=false:=by rfl) :
    PE X (.Call (.Name x p) (e :: es) [] pos) (tCall sp dvs E t):=by
  intro pins s σ H Q I h
  refine wpAny_Call_Name_kw (ld_glob I hg hm ?_ hdb)
  refine PySem.W.callWith_K (h₀:=X.base) I.ok.mod.kin hk (thn (ha pos pins s σ H _ I h) fun us s1 ⟨vs,H1,I1,r,q⟩=>⟨I1.kIn, ?_⟩) he hpl
  exact run_fn F hr hb hd hx I1 r q
structure Mk (K:PySem.W.Frag) (C f:Addr):Prop where
  makes:PySem.W.makesIn K C=true
  init:PySem.W.findIn K (.ref C) "__init__"=some (some (.ref f))
  fn:PySem.W.isFn K (.ref f)=true
  kp:PySem.W.keepIn K (.ref C)=true
theorem run_make {pins:List (Addr×Obj)} {σ:St} {H:Hp} {s:Shared} {Q:VK} {us:List Value} {vs:List V} (M:Mk X.K C f) (F:FnOk X.prog X.w X.K X.mg X.base CX k f fd ps sp) (hr:Room (k + 1) X.A) (hb:Binds X.K fd ps ds) (hd:Vals dvs ds)
    (hx:Passes CX X E) (I:Inv X pins σ H s) (r:Vals vs us)
    (h:∀ x dx,H x=none→H dx=none→dx≠x→sp (.ref x :: (vs ++ dvs)) (upd (upd H dx (.own x)) x (.ins C dx [])) (fun v H2=>v= .non∧Q (.ref x) H2) E) :
    wpAny (model X.prog X.w) X.A (call (.ref C) us) (EP X pins σ Q) X.xe s:=by
  have hq:=h (s.heap.objs.size + 1) s.heap.objs.size (I.hok.fresh (Nat.le_succ _)) (I.hok.fresh (Nat.le_refl _)) (Nat.ne_of_lt (Nat.lt_succ_self _))
  have I2:=Inv.made (C:=C) I
  have r2:Vals (V.ref (s.heap.objs.size + 1) :: (vs ++ dvs)) (Value.ref (s.heap.objs.size + 1) :: (us ++ ds)):=.cons rfl (r.append hd)
  have hl:(Value.ref (s.heap.objs.size + 1) :: us ++ ds).length=ps.length:=by
    have e:=r2.length
    rw [F.len _ _ _ _ hq] at e
    exact e.symm
  refine wpAny_call (make_map (f:=f) I.kIn M.makes M.init (beq_iff_eq.mp M.fn) (codeAny_mono (F.run _ X.stack _ _ ⟨Value.ref (s.heap.objs.size + 1) :: us,[]⟩ (Value.ref (s.heap.objs.size + 1) :: (us ++ ds)) _ _ E (hr.make C us [])
    (I2.env0.make C us []) (hb _ (Value.ref (s.heap.objs.size + 1) :: us) I2.kIn hl) r2 hq) fun r s' hq'=>?_))
  cases r with
  | error e=>exact hx pins σ _ _ e s' I2 hq'
  | ok fl =>
    cases fl with
    | ret u =>
      obtain ⟨v,H',I3,rv,ev,q3⟩:=I2.after hq'
      subst ev
      exact ⟨rv,⟨V.ref (s.heap.objs.size + 1),H',I3,rfl,q3⟩⟩
    | next=>exact False.elim hq'
    | brk=>exact False.elim hq'
    | cont=>exact False.elim hq'
theorem pe_make (M:Mk X.K C f) (F:FnOk X.prog X.w X.K X.mg X.base CX k f fd ps sp) (hr:Room (k + 1) X.A) (hg:Gl X x) (hm:X.mg x=some (.ref C)) (hb:Binds X.K fd ps ds) (hd:Vals dvs ds) (hx:Passes CX X E)
    (ha:PA X (e :: es) t) (hdb:(x == ("__debug__":Str))=false:=by decide) (he:starEach (e :: es) X.env=(false,eval e X.env) :: starEach es X.env:=by rfl) (hpl:(backTo pos (starEach es X.env)).any (·.1)=false:=by rfl) :
    PE X (.Call (.Name x p) (e :: es) [] pos) (tMake C sp dvs E t):=by
  intro pins s σ H Q I h
  refine wpAny_Call_Name_kw (ld_glob I hg hm ?_ hdb)
  refine PySem.W.callWith_K (h₀:=X.base) I.ok.mod.kin M.kp (thn (ha pos pins s σ H _ I h) fun us s1 ⟨vs,H1,I1,r,q⟩=>⟨I1.kIn, ?_⟩) he hpl
  exact run_make M F hr hb hd hx I1 r q
end
noncomputable def PK (X:Cx) (kws:List Keyword) (t:TA):Prop :=
  ∀ (pos:Pos) (pins:List (Addr×Obj)) (s:Shared) (σ:St) (H:Hp) (Q:List V→Hp→Prop),Inv X pins σ H s→t σ H Q→wpAny (model X.prog X.w) X.A (evalAll ((backToKw pos (keywordEach kws X.env)).map (·.2))) (AP X pins σ Q) X.xe s
section
variable {X:Cx} {CX:CXT} {k:Nat} {f C:Addr} {fd:FuncData} {ps ks:List Str} {sp:Sp} {E:XK} {x m:Str} {p pos apos kpos:Pos} {e o:Expr} {es:List Expr} {kws:List Keyword} {te ta:TE} {t tk:TA} {nm:Option Str}
theorem pk_nil:PK X [] tNil:=fun _ _ _ _ H Q I h=>wpAny_evalAll_nil ⟨[],H,I,.nil,h⟩
theorem pk_cons (ha:PE X e te) (hr:PK X kws t):PK X (⟨nm,e,kpos⟩ :: kws) (tCons te t):=by
  intro pos pins s σ H Q I h
  show wpAny _ _ (evalAll ((do let v ←eval e X.env; standAt pos; pure v) :: (backToKw pos (keywordEach kws X.env)).map (·.2))) _ _ s
  refine wpAny_evalAll_cons (wpAny_bind (thn (ha pins s σ H _ I h) fun u s1 ⟨x,H1,I1,r1,q1⟩=>wpAny_bind (wpAny_standAt (wpAny_pure ?_))))
  exact thn (hr pos pins s1 σ H1 _ I1 q1) fun us s2 ⟨xs,H2,I2,r2,q2⟩=>⟨x :: xs,H2,I2,.cons r1 r2,q2⟩
structure KBinds (K:PySem.W.Frag) (fd:FuncData) (ps ks:List Str) (g:List Value→List Value→List Value) (gV:List V→List V→List V):Prop where
  to:∀ (s:Shared) (us ws:List Value),K.In s.heap→(g us ws).length=ps.length→BindsTo s fd ⟨us,ks.zip ws⟩ (ps.zip (g us ws))
  rel:∀ {vs:List V} {us:List Value} {zs:List V} {ws:List Value},Vals vs us→Vals zs ws→Vals (gV vs zs) (g us ws)
variable {g:List Value→List Value→List Value} {gV:List V→List V→List V}
end
structure FnScope (N P:List Str) (sc:Scope):Prop where
  kind:sc.kind= .function
  co:sc.isCoroutine=false
  gen:sc.isGenerator=false
  nd:N.Nodup
  pre:N.take P.length=P
  par:∀ x∈P,sc.names.lookup x=some .local∨sc.names.lookup x=some .cell
  nofree:∀ y∈sc.names,y.2≠.free
theorem bindL_out {kindOf:Str→Option NameKind} {x:Str}:∀ {binds:List (Str×Value)} {m:Str→Option Value},(∀ v,(x,v)∉ binds)→bindL kindOf binds m x=m x
  | [],_,_=>rfl
  | (n,v) :: r,m,h=>by
    unfold bindL
    rw [bindL_out fun w hw=>h w (List.mem_cons_of_mem _ hw)]
    split
    · have:x≠n:=by rintro rfl; exact h v List.mem_cons_self
      simp [this]
    · rfl
theorem bindC_out {kindOf:Str→Option NameKind} {x:Str}:∀ {binds:List (Str×Value)} {m:Str→Option Value},(∀ v,(x,v)∉ binds)→bindC kindOf binds m x=m x
  | [],_,_=>rfl
  | (n,v) :: r,m,h=>by
    unfold bindC
    rw [bindC_out fun w hw=>h w (List.mem_cons_of_mem _ hw)]
    split
    · rfl
    · have:x≠n:=by rintro rfl; exact h v List.mem_cons_self
      simp [this]
theorem bindL_get {kindOf:Str→Option NameKind} {x:Str} {v:Value}:∀ {P:List Str} {vs:List Value} {i:Nat} {m:Str→Option Value},P.Nodup→P[i]? =some x→vs[i]? =some v→kindOf x=some .local→
    bindL kindOf (P.zip vs) m x=some v
  | [],_,_,_,_,h,_,_=>by simp at h
  | _ :: _,[],_,_,_,_,h,_=>by simp at h
  | p :: P,w :: vs,0,m,nd,h1,h2,hk=>by
    simp at h1 h2; subst h1; subst h2
    show bindL kindOf ((p,w) :: P.zip vs) m p=_
    unfold bindL
    rw [bindL_out fun v hv=>(List.nodup_cons.mp nd).1 (List.of_mem_zip hv).1,if_pos hk]
    simp
  | p :: P,w :: vs,i + 1,m,nd,h1,h2,hk=>by
    show bindL kindOf ((p,w) :: P.zip vs) m x=_
    unfold bindL
    exact bindL_get (i:=i) (List.nodup_cons.mp nd).2 (by simpa using h1) (by simpa using h2) hk
theorem bindC_get {kindOf:Str→Option NameKind} {x:Str} {v:Value}:∀ {P:List Str} {vs:List Value} {i:Nat} {m:Str→Option Value},P.Nodup→P[i]? =some x→vs[i]? =some v→kindOf x≠some .local→
    bindC kindOf (P.zip vs) m x=some v
  | [],_,_,_,_,h,_,_=>by simp at h
  | _ :: _,[],_,_,_,_,h,_=>by simp at h
  | p :: P,w :: vs,0,m,nd,h1,h2,hk=>by
    simp at h1 h2; subst h1; subst h2
    show bindC kindOf ((p,w) :: P.zip vs) m p=_
    unfold bindC
    rw [bindC_out fun v hv=>(List.nodup_cons.mp nd).1 (List.of_mem_zip hv).1,if_neg hk]
    simp
  | p :: P,w :: vs,i + 1,m,nd,h1,h2,hk=>by
    show bindC kindOf ((p,w) :: P.zip vs) m x=_
    unfold bindC
    exact bindC_get (i:=i) (List.nodup_cons.mp nd).2 (by simpa using h1) (by simpa using h2) hk
noncomputable def start (N:List Str) (vs:List V):St:=vs.map some ++ List.replicate (N.length - vs.length) none
noncomputable def cxOf (CX:CXT) (P:Program) (w:World) (K:PySem.W.Frag) (mg:Str→Option Value) (base:Heap) (N:List Str) (qual:Str) (scope:Scope) (f:Addr) (cd:Value) (A:Around) (outer:List Env) (s:Shared) (H:Hp) (E:XK):Cx where
  prog:=P
  w:=w
  K:=K
  mg:=mg
  base:=base
  A:=A.deeper (envOfC qual scope s.heap.objs.size f cd)
  N:=N
  s₀:=s
  H₀:=H
  env:=envOfC qual scope s.heap.objs.size f cd
  outer:=outer
  stack:=envOfC qual scope s.heap.objs.size f cd :: outer
  ex:=[]
  calm:=true
  fn:=fun _=>true
  pn:=[]
  xe:=fun e s'=>wpAny (model P w) (A.deeper (envOfC qual scope s.heap.objs.size f cd)) (leaving (envOfC qual scope s.heap.objs.size f cd) e) (fun _ s''=>CX outer H s E e s'') (fun e' s''=>CX outer H s E e' s'') s'
theorem cell_has {sc:Scope} {n:Nat} {x:Str} (h:sc.names.lookup x=some .cell):∃ c,(cellsFrom n sc.names []).lookup x=some c:=by
  have q:=PySem.W.cellsFrom_some sc.names n [] (.inl h)
  exact Option.isSome_iff_exists.mp q
theorem inv_start {CX:CXT} {P:Program} {w:World} {K:PySem.W.Frag} {mg:Str→Option Value} {base:Heap} {N ps:List Str} {qual:Str} {scope:Scope} {f:Addr} {cd:Value} {A:Around} {outer:List Env} {s s1:Shared} {H:Hp} {E:XK} {us:List Value} {vs:List V}
    (S:FnScope N ps scope) (hd:A.handled=none) (e0:Env0 P w K mg base A outer s H) (hl:vs.length=ps.length) (r:Vals vs us)
    (x:InCallC s s.heap.objs.size (bindL (envOfC qual scope s.heap.objs.size f cd).kindOf (ps.zip us) fun _=>none) (cellsFrom (s.heap.objs.size + 1) scope.names []) (bindC (envOfC qual scope s.heap.objs.size f cd).kindOf (ps.zip us) fun _=>none) s1) :
    Inv (cxOf CX P w K mg base N qual scope f cd A outer s H E) [] (start N vs) H s1:=by
  have hpl:ps.length≤N.length:=by have:=congrArg List.length S.pre; rw [List.length_take] at this; omega
  obtain ⟨h1,tk,rfl,hk⟩:=x.done
  have noA:∀ b:Addr,b∉ (cxOf CX P w K mg base N qual scope f cd A outer s H E).ex:=fun b z=>absurd (show b∈([]:List Addr) from z) (by simp)
  refine ⟨⟨e0.mod,S.kind,rfl,rfl,Nat.le_refl _,fun y z c h1 h2=>?_,fun y hy=>?_,fun y c _ h=>?_,fun _=>hd,Around.frames_deeper e0.frames,.inr ⟨rfl,rfl⟩,fun b z=>absurd z (noA b),e0.bs,e0.bsz,fun b _ _=>noA b,fun b z=>absurd z (noA b),e0.funs,e0.frf⟩,
    rfl,e0.bare,Un.kept hk,⟨_,x.toInCall.ns,fun i y v h1 h2 h3=>?_⟩,fun y c h=>⟨_,x.cell y c h⟩,e0.hok.fresh (Nat.le_refl _),fun y c h=>?_,fun p hp=>absurd (show p∈([]:List (Addr×Obj)) from hp) (by simp),e0.hok.kept hk, ?_⟩
  · exact name_of_addr x.apart (PySem.mem_of_lookup h1) (PySem.mem_of_lookup h2)
  · have hy:scope.names.lookup y=some .cell∨scope.names.lookup y=some .free:=hy
    rcases hy with hy | hy
    · exact cell_has hy
    · exact absurd rfl (S.nofree _ (PySem.mem_of_lookup hy))
  · exact Nat.le_of_lt (x.above y c (PySem.mem_of_lookup h))
  · have hi:i < vs.length:=by
      unfold start at h2
      by_cases hi:i < vs.length
      · exact hi
      · rw [List.getElem?_append_right (by simpa using hi)] at h2
        rw [List.getElem?_replicate] at h2
        split at h2 <;> cases h2
    have ha:vs[i]? =some v:=by
      unfold start at h2
      rw [List.getElem?_append_left (by simpa using hi),List.getElem?_map] at h2
      cases e:vs[i]? with
      | none=>rw [e] at h2; cases h2
      | some a=>rw [e] at h2; cases h2; rfl
    obtain ⟨u,hu,rv⟩:=r.get ha
    have hp:ps[i]? =some y:=by
      rw [←S.pre,List.getElem?_take_of_lt (by omega)]; exact h1
    have ndP:ps.Nodup:=by rw [←S.pre]; exact S.nd.sublist (List.take_sublist _ _)
    refine ⟨u,rv, ?_⟩
    rcases S.par y (List.mem_of_getElem? hp) with k | k
    · exact .inl ⟨k,bindL_get ndP hp hu k⟩
    · obtain ⟨c,e⟩:=cell_has (n:=s.heap.objs.size + 1) k
      refine .inr ⟨.inl k,c,e, ?_⟩
      have q:=x.cell y c e
      rw [bindC_get ndP hp hu (by show scope.names.lookup y≠_; rw [k]; decide)] at q
      exact q
  · exact e0.hok.fresh (Nat.le_of_lt (x.above y c (PySem.mem_of_lookup h)))
  · unfold start
    show _=N.length
    rw [List.length_append,List.length_map,List.length_replicate]
    omega
theorem fn_of {CX:CXT} {P:Program} {w:World} {K:PySem.W.Frag} {mg:Str→Option Value} {base:Heap} {k:Nat} {f:Addr} {name qual:Str} {params:Arguments} {body:List Stmt} {scope:Scope} {dV kV doc pm cdv ct oc:Value} {an od:Option Addr}
    {osl:Array (Option Value)} {N ps:List Str} {sp:Sp} (lk:K.lookup f=some ⟨oc,od,.func (PySem.W.fnOf name qual params body scope dV kV doc pm an cdv ct),osl⟩) (hcd:PySem.W.codeIn K cdv qual=true) (S:FnScope N ps scope)
    (len:∀ vs H Q E,sp vs H Q E→vs.length=ps.length)
    (hbody:∀ (A:Around) (outer:List Env) (s:Shared) (H:Hp) (vs:List V) (Q:VK) (E:XK),Room k (A.deeper (envOfC qual scope s.heap.objs.size f cdv))→sp vs H Q E→
      ∃ t,PSs (cxOf CX P w K mg base N qual scope f cdv A outer s H E) body t∧t { nx:=fun _ H'=>Q .non H',rt:=Q } (start N vs) H) :
    FnOk P w K mg base CX (k + 1) f (PySem.W.fnOf name qual params body scope dV kV doc pm an cdv ct) ps sp:=by
  refine ⟨len,fun A outer s H args us vs Q E hr e0 hb r hsp=>?_⟩
  have hl:=len _ _ _ _ hsp
  have KX:K.In s.heap:=e0.mod.kin.keeps fun b o e=>(e0.bs b o e).1
  have lim:s.heap.NoLimit:=e0.mod.nolimit.keeps fun b o e=>(e0.bs b o e).1
  have hkind:∀ y∈ps.zip us,scope.names.lookup y.1=some .local∨(scope.names.lookup y.1=some .cell∧((cellsFrom (s.heap.objs.size + 1) scope.names []).lookup y.1).isSome=true):=fun ⟨n,v⟩ hy=>by
    rcases S.par n (List.of_mem_zip hy).1 with q | q
    · exact .inl q
    · exact .inr ⟨q,PySem.W.cellsFrom_some _ _ _ (.inl q)⟩
  refine codeAny_call_function hr.depth (KX _ _ lk) rfl S.co S.gen rfl (PySem.W.codeRec_of KX hcd) (hb _ _ _ _ ?_)
  refine wpAny_newFunctionEnv_cells S.kind hkind fun env he s1 x=>?_
  subst he
  refine ⟨lim.keeps x.toInCall.keep,codeAny_func ?_⟩
  obtain ⟨t,ht,hq⟩:=hbody A outer s H vs Q E (hr.deeper _) hsp
  have I:Inv (cxOf CX P w K mg base N qual scope f cdv A outer s H E) [] (start N vs) H s1:=inv_start S hr.hd e0 hl r x
  refine wpAny_mono (ht [] s1 (start N vs) H _ I hq) (fun fl s' hs=>?_) fun e s' hs=>hs
  have fin:∀ {σ':St} {H':Hp} {v:V} {u:Value},Inv (cxOf CX P w K mg base N qual scope f cdv A outer s H E) [] σ' H' s'→RelV v u→Q v H'→CE outer P w H s Q u s' :=
    fun {σ' H' v u} J rv q=>⟨v,H',J.os,J.bare,J.base,J.hok,rv,q⟩
  cases fl with
  | ret u =>
    obtain ⟨v,σ',H',J,rv,q⟩:=hs
    exact fin J rv q
  | next =>
    obtain ⟨σ',H',J,q⟩:=hs
    exact fin (v:=V.non) (u:=Value.none) J rfl q
  | brk =>
    obtain ⟨_,_,_,q⟩:=hs
    exact False.elim q
  | cont =>
    obtain ⟨_,_,_,q⟩:=hs
    exact False.elim q
end L2
namespace L2
open PySem PySem.Spec PyProof.Rows
section
variable {X:Cx} {x:Str} {p pos:Pos} {e:Expr} {es:List Expr} {t:TA} {id T:String} {r:List V→Hp→VK→Prop}
noncomputable def tCB (r:List V→Hp→VK→Prop) (t:TA):TE:=fun σ H Q=>t σ H fun vs H1=>r vs H1 Q
theorem pe_callB (hc:CallR X (.builtin id) r) (hg:Gl X x) (hm:X.mg x=none) (hv:bootBuiltins x=some (.builtin id)) (ha:PA X (e :: es) t) (hn:x≠"__name__":=by decide) (hdb:(x == ("__debug__":Str))=false:=by decide)
    (he:starEach (e :: es) X.env=(false,eval e X.env) :: starEach es X.env:=by rfl) (hpl:(backTo pos (starEach es X.env)).any (·.1)=false:=by rfl):PE X (.Call (.Name x p) (e :: es) [] pos) (tCB r t):=by
  intro pins s σ H Q I h
  refine wpAny_Call_Name_kw (ld_blt I hg hm hv ?_ hn hdb)
  exact PyProof.Rows.callWith_builtin1 (thn (ha pos pins s σ H _ I h) fun us s1 ⟨vs,H1,I1,r1,q1⟩=>hc pins s1 σ H1 vs us Q I1 r1 q1) he hpl
theorem pe_callTy (hc:CallR X (.type T) r) (hg:Gl X x) (hm:X.mg x=none) (hv:bootBuiltins x=some (.type T)) (ha:PA X (e :: es) t) (hn:x≠"__name__":=by decide) (hdb:(x == ("__debug__":Str))=false:=by decide)
    (he:starEach (e :: es) X.env=(false,eval e X.env) :: starEach es X.env:=by rfl) (hpl:(backTo pos (starEach es X.env)).any (·.1)=false:=by rfl):PE X (.Call (.Name x p) (e :: es) [] pos) (tCB r t):=by
  intro pins s σ H Q I h
  refine wpAny_Call_Name_kw (ld_blt I hg hm hv ?_ hn hdb)
  exact PyProof.Rows.callWith_type1 (thn (ha pos pins s σ H _ I h) fun us s1 ⟨vs,H1,I1,r1,q1⟩=>hc pins s1 σ H1 vs us Q I1 r1 q1) he hpl
end
end L2
namespace HT
open PySem PyProof.Rows
noncomputable def lexLt:List Int→List Int→Bool
  | [],[]=>false
  | [],_ :: _=>true
  | _ :: _,[]=>false
  | x :: xs,y :: ys=>if x=y then lexLt xs ys else decide (x < y)
theorem lexLt_cons (x y:Int) (xs ys:List Int):lexLt (x :: xs) (y :: ys)=if x=y then lexLt xs ys else decide (x < y):=rfl
theorem lexLt_nil_nil:lexLt [] []=false:=rfl
theorem lexLt_nil_cons (y:Int) (ys:List Int):lexLt [] (y :: ys)=true:=rfl
theorem lexLt_cons_nil (x:Int) (xs:List Int):lexLt (x :: xs) []=false:=rfl
section
open PySem.SeqAt
open PySem.AutoSeq1 (wpAny_loadPart')
open PySem.MeetsSeq PySem.MeetsSeq2 PySem.MeetsSeq3
end
section
variable {prog:Program} {w:World} {A:Around} {E:Value→Shared→Prop} {s:Shared}
theorem cat_tup {t b:Addr} {vs ws:List Value} {Q:Value→Shared→Prop} (ht:IsTup s.heap t vs.toArray) (hb:IsTup s.heap b ws.toArray) (hv:vs≠ [])
    (h1:ws=[]→Q (.ref t) s) (h2:ws≠ []→Q (.ref s.heap.objs.size) { s with heap:=s.heap.push { cls:=.type "tuple",data:=.seq (vs ++ ws).toArray } })
    (hsz:vs.length + ws.length≤sizeLine):wpAny (model prog w) A (binaryOp .Add (.ref t) (.ref b)) Q E s:=by
  obtain ⟨⟨cls,dd,data,sl⟩,ho,hc,n,hd⟩:=id ht
  obtain ⟨⟨cls2,dd2,data2,sl2⟩,ho2,hc2,n2,hd2⟩:=id hb
  simp only at hc hd hc2 hd2
  subst hc hd hc2 hd2
  have e:vs.toArray ++ ws.toArray=(vs ++ ws).toArray:=by simp
  by_cases hw:ws=[]
  · exact concat_meets ⟨_,ho,rfl⟩ ⟨_,ho2,rfl⟩ noFill_tuple_add seq_tuple_add PySem.F.slot_tuple_add PySem.F.entry_tuple_add (PySem.F.args_tuple_add_2 _ _)
      (tuple_addW1 t b vs.toArray ws.toArray n n2 dd dd2 sl sl2 (by simpa using hv) (by simp [hw])) ⟨ho,ho2,h1 hw⟩
  · refine concat_meets ⟨_,ho,rfl⟩ ⟨_,ho2,rfl⟩ noFill_tuple_add seq_tuple_add PySem.F.slot_tuple_add PySem.F.entry_tuple_add (PySem.F.args_tuple_add_2 _ _)
      (tuple_addW2 t b vs.toArray ws.toArray n n2 dd dd2 sl sl2 (by simpa using hv) (by simpa using hw) (by rw [List.size_toArray,List.size_toArray]; exact hsz)) ⟨ho,ho2, ?_⟩
    rw [e]
    exact h2 hw
noncomputable def sIx (n d:Nat):Option Int→Nat
  | none=>d
  | some v=>if v < 0 then (v + (n:Int)).toNat else min v.toNat n
theorem sIx_none (n d:Nat):sIx n d none=d:=rfl
theorem sIx_le (n d:Nat) (hd:d≤n) (o:Option Int):sIx n d o≤n:=by
  cases o with
  | none=>exact hd
  | some v =>
    show (if v < 0 then (v + (n:Int)).toNat else min v.toNat n)≤n
    by_cases hv:v < 0
    · rw [if_pos hv]; omega
    · rw [if_neg hv]; exact Nat.min_le_right _ _
theorem clip_eq (v:Int) (n d:Nat):(if v < 0 then max (v + (n:Int)) 0 else min v (n:Int))=((sIx n d (some v):Nat):Int):=by
  show (if v < 0 then max (v + (n:Int)) 0 else min v (n:Int))=(((if v < 0 then (v + (n:Int)).toNat else min v.toNat n):Nat):Int)
  by_cases hv:v < 0
  · simp only [if_pos hv]; omega
  · simp only [if_neg hv]; omega
theorem adjust_gen (lo hi:Option Int) (n:Nat):Builtin.Slice.sliceAdjust lo hi 1 (n:Int)=(((sIx n 0 lo:Nat):Int),((sIx n n hi:Nat):Int)):=by
  have h1:¬((1:Int) < 0):=by omega
  unfold Builtin.Slice.sliceAdjust
  simp only [h1,if_false]
  refine Prod.ext ?_ ?_
  · cases lo with
    | none=>rfl
    | some v=>exact clip_eq v n 0
  · cases hi with
    | none=>rfl
    | some v=>exact clip_eq v n n
theorem places_gen (i j:Nat):Builtin.Slice.slicePlaces (i:Int) (j:Int) 1=j - i:=by
  unfold Builtin.Slice.slicePlaces
  have h1:(1:Int) > 0:=by omega
  simp only [h1,if_true,Int.ediv_one]
  split <;> omega
theorem slicePart_ {v:Value} {o:Option Int} {Q:Option Int→Shared→Prop} (p:IsPart v o) (h:Q o s):wpAny (model prog w) A (Builtin.Slice.slicePartIndex v) Q E s:=by
  cases p with
  | none=>exact slicePart_none h
  | int i t=>exact slicePart_int h
theorem sliceApplied_gen {sl:Addr} {vl vu:Value} {lo hi:Option Int} {n:Nat} {Q:Int×Int×Nat→Shared→Prop} (hs:s.heap.IsSliceOf sl vl vu .none) (pl:IsPart vl lo) (pu:IsPart vu hi)
    (h:Q (((sIx n 0 lo:Nat):Int),1,sIx n n hi - sIx n 0 lo) s):wpAny (model prog w) A (Builtin.Slice.sliceApplied (.ref sl) (pure (n:Int))) Q E s:=by
  obtain ⟨os,hos,hcs,hds⟩:=id hs
  unfold Builtin.Slice.sliceApplied Builtin.Slice.sliceFields
  refine wpAny_bind (wpAny_bind (wpAny_field hos hds (x:=vl) rfl (wpAny_bind (wpAny_field hos hds (x:=vu) rfl (wpAny_bind (wpAny_field hos hds (x:=.none) rfl (wpAny_pure ?_)))))))
  refine wpAny_bind (slicePart_none ?_)
  show wpAny _ _ (if ((1:Int) == 0)=true then _ else _) _ _ s
  rw [if_neg (by decide)]
  refine wpAny_bind (slicePart_ pl (wpAny_bind (slicePart_ pu (wpAny_bind (wpAny_pure ?_)))))
  show wpAny _ _ (match Builtin.Slice.sliceAdjust lo hi 1 (n:Int) with | (lo,hi)=>pure (lo,(1:Int),Builtin.Slice.slicePlaces lo hi 1)) _ _ s
  rw [adjust_gen lo hi n]
  show wpAny _ _ (pure (((sIx n 0 lo:Nat):Int),(1:Int),Builtin.Slice.slicePlaces ((sIx n 0 lo:Nat):Int) ((sIx n n hi:Nat):Int) 1)) _ _ s
  rw [places_gen]
  exact wpAny_pure h
theorem pick_gen (xs:Array Value) (i k:Nat):((List.range k).filterMap fun (m:Nat)=>xs[((i:Int) + (m:Int) * 1).toNat]?).toArray=((xs.toList.drop i).take k).toArray:=by
  have e:(fun (m:Nat)=>xs[((i:Int) + (m:Int) * 1).toNat]?)=fun m=>xs[i + m]? :=by
    funext m
    have:((i:Int) + (m:Int) * 1).toNat=i + m:=by omega
    rw [this]
  rw [e]
  have:=pick_run xs i k
  rw [List.filterMap_map] at this
  have e2:((fun x=>xs[x]?) ∘ fun x=>i + x)=fun m=>xs[i + m]? :=rfl
  rw [e2] at this
  rw [this]
theorem getItem_tuple_cut {t sl:Addr} {items:Array Value} {vl vu:Value} {lo hi:Option Int} {Q:Value→Shared→Prop} (ht:IsTup s.heap t items) (hs:s.heap.IsSliceOf sl vl vu .none) (pl:IsPart vl lo) (pu:IsPart vu hi)
    (hw:¬(sIx items.size 0 lo=0∧sIx items.size items.size hi=items.size))
    (h:Q (.ref s.heap.objs.size) { s with heap:=s.heap.push { cls:=.type "tuple",data:=.seq ((items.toList.drop (sIx items.size 0 lo)).take (sIx items.size items.size hi - sIx items.size 0 lo)).toArray } })
    (hsz:items.size≤sizeLine):wpAny (model prog w) A (getItem (.ref t) (.ref sl)) Q E s:=by
  have htake:sizeOk (.seq ((items.toList.drop (sIx items.size 0 lo)).take (sIx items.size items.size hi - sIx items.size 0 lo)).toArray):=by
    show ((items.toList.drop (sIx items.size 0 lo)).take (sIx items.size items.size hi - sIx items.size 0 lo)).toArray.size≤sizeLine
    rw [List.size_toArray,List.length_take,List.length_drop,Array.length_toList]
    omega
  have hj:sIx items.size items.size hi≤items.size:=sIx_le _ _ (Nat.le_refl _) hi
  obtain ⟨os,hos,hcs,hds⟩:=id hs
  have hTs:s.TypeIs (.ref sl) "slice":=⟨os,hos,hcs⟩
  unfold getItem
  try with_reducible refine wpAny_holding ?_
  first | refine wpAny_bind (wpAny_pure ?_) | skip
  refine wpAny_bind (wpAny_sequenceKey ht.typeIs (by decide) ?_)
  refine wpAny_bind (wpAny_callSpecial?_slot (name:=Str.ofString "__getitem__") ht.typeIs PyProof.Rows.slot_tuple_getitem
    (wpAny_call_entry PyProof.Rows.slot_tuple_getitem ht.typeIs entry_tuple_getitem ?_ (args_tuple_getitem _ _)))
  show wpAny _ _ (Builtin.Tuple.tupleItemsOf (.ref t) >>= _) _ _ s
  refine wpAny_bind (tupleItemsOf_ ht ?_)
  refine wpAny_bind (wpAny_typeOf hTs ?_)
  rw [if_pos (by decide)]
  refine wpAny_bind (sliceApplied_gen hs pl pu ?_)
  have hno:¬((((sIx items.size 0 lo:Nat):Int) == 0 && (1:Int) == 1 && (sIx items.size items.size hi - sIx items.size 0 lo) == items.size)=true):=by
    intro q
    rw [Bool.and_eq_true,Bool.and_eq_true] at q
    have q1:((sIx items.size 0 lo:Nat):Int)=0:=eq_of_beq q.1.1
    have q2:sIx items.size items.size hi - sIx items.size 0 lo=items.size:=eq_of_beq q.2
    exact hw ⟨by omega,by omega⟩
  show wpAny _ _ (if (((sIx items.size 0 lo:Nat):Int) == 0 && (1:Int) == 1 && (sIx items.size items.size hi - sIx items.size 0 lo) == items.size)=true then _ else _) _ _ s
  rw [if_neg hno,pick_gen]
  first
    | exact wpAny_bind (m:=Builtin.Tuple.tupleExact _) (wpAny_newObj_type (wpAny_pure ⟨_,rfl,wpAny_pure h⟩) htake)
    | exact wpAny_bind (m:=Builtin.Tuple.tupleExact _) (wpAny_newObj_type (wpAny_bind (wpAny_pure (wpAny_pure ⟨_,rfl,wpAny_pure h⟩))) htake)
    | exact wpAny_bind (wpAny_bind (m:=Builtin.Tuple.tupleExact _) (wpAny_newObj_type (wpAny_pure (wpAny_pure ⟨_,rfl,wpAny_pure h⟩)) htake))
    | exact wpAny_bind (wpAny_bind (m:=Builtin.Tuple.tupleExact _) (wpAny_newObj_type (wpAny_pure ⟨_,rfl,wpAny_pure h⟩) htake))
end
end HT
namespace L2
open PySem PySem.Spec PyProof.Rows
noncomputable abbrev TO:=St→Hp→(Option Int→Hp→Prop)→Prop
noncomputable def PO (X:Cx) (e:Option Expr) (t:TO):Prop :=
  ∀ (pins:List (Addr×Obj)) (s:Shared) (σ:St) (H:Hp) (Q:Option Int→Hp→Prop),Inv X pins σ H s→t σ H Q→
    wpAny (model X.prog X.w) X.A (evalPart e X.env) (fun u s'=>∃ o H',Inv X pins σ H' s'∧IsPart u o∧Q o H') X.xe s
noncomputable def tNoPart:TO:=fun _ H Q=>Q none H
noncomputable def tPart (t:TE):TO:=fun σ H Q=>t σ H fun x H1=>∃ i,x= .int i∧Q (some i) H1
theorem intsAre_of {ns:List Int}:∀ {us:List Value},Vals (ns.map V.int) us→IntsAre us ns:=by
  induction ns with
  | nil=>intro us r; rw [List.map_nil] at r; cases r; exact .nil
  | cons n ns ih =>
    intro us r
    rw [List.map_cons] at r
    cases r with
    | cons r1 r2 =>
      obtain ⟨t,e⟩:=r1
      subst e
      exact .cons n t (ih r2)
section
variable {X:Cx} {e:Expr} {te:TE} {lo hi:Option Expr} {tl th:TO} {pos p2:Pos}
theorem po_none:PO X none tNoPart:=by
  intro pins s σ H Q I h
  rw [evalPart_none]
  exact wpAny_pure ⟨none,H,I,.none,h⟩
theorem po_some (h:PE X e te):PO X (some e) (tPart te):=by
  intro pins s σ H Q I hw
  rw [evalPart_some]
  refine thn (h pins s σ H _ I hw) fun u s1 ⟨x,H1,I1,r1,q1⟩=>?_
  obtain ⟨i,rfl,q⟩:=q1
  obtain ⟨t,rfl⟩:=r1
  exact ⟨some i,H1,I1,.int i t,q⟩
noncomputable def SlR (X:Cx) (r:V→Option Int→Option Int→Hp→VK→Prop):Prop :=
  ∀ (pins:List (Addr×Obj)) (s:Shared) (σ:St) (H:Hp) (x:V) (v vl vu:Value) (lo hi:Option Int) (sl:Addr) (Q:VK),Inv X pins σ H s→RelV x v→s.heap.IsSliceOf sl vl vu .none→IsPart vl lo→IsPart vu hi→r x lo hi H Q→
    ∃ T id,typeLookup (.type T) "__getitem__"=pure (some (.builtin id))∧s.TypeIs v T∧wpAny (model X.prog X.w) X.A (getItem v (.ref sl)) (EP X pins σ Q) X.xe s
theorem SlR.or {r r':V→Option Int→Option Int→Hp→VK→Prop} (h:SlR X r) (h':SlR X r'):SlR X (fun x lo hi H Q=>r x lo hi H Q∨r' x lo hi H Q):=by
  intro pins s σ H x v vl vu lo hi sl Q I rx hs pl pu q
  rcases q with q | q
  · exact h pins s σ H x v vl vu lo hi sl Q I rx hs pl pu q
  · exact h' pins s σ H x v vl vu lo hi sl Q I rx hs pl pu q
noncomputable def tSl (r:V→Option Int→Option Int→Hp→VK→Prop) (te:TE) (tl th:TO):TE:=fun σ H Q=>te σ H fun x H1=>tl σ H1 fun l H2=>th σ H2 fun u H3=>r x l u H3 Q
theorem pe_slice {r:V→Option Int→Option Int→Hp→VK→Prop} (hr:SlR X r) (he:PE X e te) (hl:PO X lo tl) (hu:PO X hi th):PE X (.Subscript e (.Slice lo hi none p2) pos) (tSl r te tl th):=by
  intro pins s σ H Q I h
  refine Subscript_ (thn (he pins s σ H _ I h) fun v s1 ⟨x,H1,I1,r1,q1⟩=>?_)
  refine wpAny_Slice (thn (hl pins s1 σ H1 _ I1 q1) fun vl s2 ⟨l,H2,I2,pl,q2⟩=>thn (hu pins s2 σ H2 _ I2 q2) fun vu s3 ⟨u,H3,I3,pu,q3⟩=>?_)
  rw [evalPart_none]
  refine wpAny_pure ?_
  have I4:Inv X pins σ H3 { s3 with heap:=s3.heap.push { cls:=.type "slice",data:=.fields #[vl,vu,.none] } }:=I3.kept (t':=s3.toks) fun b ob q=>Heap.get?_push_of_some _ q
  obtain ⟨T,id,hT,ht,hg⟩:=hr pins { s3 with heap:=s3.heap.push { cls:=.type "slice",data:=.fields #[vl,vu,.none] } } σ H3 x v vl vu l u s3.heap.objs.size Q I4 r1 (Heap.IsSliceOf.new ..) pl pu q3
  show wpAny (model X.prog X.w) X.A (subscriptTail e (.Slice lo hi none p2) v (.ref s3.heap.objs.size)) (EP X pins σ Q) X.xe { s3 with heap:=s3.heap.push { cls:=.type "slice",data:=.fields #[vl,vu,.none] } }
  exact tail_any (ops:=[.ref s3.heap.objs.size,v]) ht hT hg (by with_unfolding_all rfl)
noncomputable def cutV (xs:List V) (lo hi:Option Int):List V:=(xs.drop (HT.sIx xs.length 0 lo)).take (HT.sIx xs.length xs.length hi - HT.sIx xs.length 0 lo)
theorem cutV_length (xs:List V) (lo hi:Option Int):(cutV xs lo hi).length≤xs.length:=by
  unfold cutV
  rw [List.length_take,List.length_drop]
  omega
noncomputable def rSlT (K:PySem.W.Frag):V→Option Int→Option Int→Hp→VK→Prop:=fun x lo hi H Q=>∃ a xs,x= .ref a∧SqT K H a xs∧
  ¬(HT.sIx xs.length 0 lo=0∧HT.sIx xs.length xs.length hi=xs.length)∧∀ p,H p=none→Q (.ref p) (upd H p (.tup (cutV xs lo hi)))
theorem sl_tup:SlR X (rSlT X.K):=by
  intro pins s σ H x v vl vu lo hi sl Q I rx hs pl pu h
  obtain ⟨a,xs,rfl,hx,hw,q⟩:=h
  cases rx
  obtain ⟨its,r,ht,hz⟩:=I.tuple hx
  have hlen:its.toArray.size=xs.length:=by rw [List.size_toArray]; exact r.length.symm
  refine ⟨"tuple",_,PyProof.Rows.slot_tuple_getitem.lookup,ht.typeIs, ?_⟩
  refine HT.getItem_tuple_cut ht hs pl pu (by rw [hlen]; exact hw) ?_ (by rw [hlen]; exact hz)
  rw [hlen]
  refine ⟨.ref s.heap.objs.size,_,I.laid (t':=s.toks) (o:=.tup (cutV xs lo hi)) (fun b ob q=>Heap.get?_push_of_some _ q) (Nat.le_refl _) ?_,rfl,q _ (I.hok.fresh (Nat.le_refl _))⟩
  exact ⟨Nat.le_trans (cutV_length xs lo hi) hz,_,(r.drop (HT.sIx xs.length 0 lo)).take (HT.sIx xs.length xs.length hi - HT.sIx xs.length 0 lo),IsTupN.new _ _⟩
noncomputable def rCatT (K:PySem.W.Frag):R2:=fun x y H Q=>∃ a b xs ys,x= .ref a∧y= .ref b∧SqT K H a xs∧SqT K H b ys∧xs≠ []∧xs.length + ys.length≤sizeLine∧
  (ys=[]→Q (.ref a) H)∧(ys≠ []→∀ p,H p=none→Q (.ref p) (upd H p (.tup (xs ++ ys))))
theorem Vals.nil_iff {xs:List V} {us:List Value} (r:Vals xs us):us=[]↔xs=[]:=by
  cases r with
  | nil=>simp
  | cons _ _=>simp
theorem op_catT:OpR X (binaryOp .Add) (rCatT X.K):=by
  intro pins s σ H x y v u Q I rx ry h
  obtain ⟨a,b,xs,ys,rfl,rfl,ha,hb,hx,hz,q1,q2⟩:=h
  cases rx
  cases ry
  obtain ⟨its,r1,p1,_⟩:=I.tuple ha
  obtain ⟨its2,r2,p2,_⟩:=I.tuple hb
  refine HT.cat_tup p1 p2 (fun z=>hx (r1.nil_iff.mp z)) (fun z=>⟨.ref a,H,I,rfl,q1 (r2.nil_iff.mp z)⟩) (fun z=>?_) (by rw [←r1.length,←r2.length]; exact hz)
  refine ⟨.ref s.heap.objs.size,_,I.laid (t':=s.toks) (o:=.tup (xs ++ ys)) (fun b ob q=>Heap.get?_push_of_some _ q) (Nat.le_refl _) ?_,rfl,q2 (fun w=>z (r2.nil_iff.mpr w)) _ (I.hok.fresh (Nat.le_refl _))⟩
  exact ⟨by rw [List.length_append]; exact hz,_,r1.append r2,IsTupN.new _ _⟩
end
end L2
namespace L2
open PySem PySem.Spec PyProof.Rows
noncomputable def ixN (n:Nat) (i:Int):Option Nat:=if 0≤i then (if i < n then some i.toNat else none) else if -(n:Int)≤i then some (i + n).toNat else none
noncomputable def atI {α:Type} (xs:List α) (i:Int):Option α:=(ixN xs.length i).bind fun j=>xs[j]?
theorem ixN_seq {n:Nat} {i:Int} {j:Nat} (h:ixN n i=some j):seqIndex? i n=some j∧j < n∧ -(n:Int)≤i∧i < n:=by
  unfold ixN at h
  by_cases h0:0≤i
  · rw [if_pos h0] at h
    by_cases h1:i < n
    · rw [if_pos h1] at h
      have e:i.toNat=j:=Option.some.inj h
      exact ⟨by rw [seqIndex_of h0 h1,e],by omega,by omega,h1⟩
    · rw [if_neg h1] at h; cases h
  · rw [if_neg h0] at h
    by_cases h1: -(n:Int)≤i
    · rw [if_pos h1] at h
      have e:(i + n).toNat=j:=Option.some.inj h
      exact ⟨by rw [seqIndex_neg (by omega) h1,e],by omega,h1,by omega⟩
    · rw [if_neg h1] at h; cases h
theorem atI_get {α:Type} {xs:List α} {i:Int} {v:α} (h:atI xs i=some v):∃ j,seqIndex? i xs.length=some j∧xs[j]? =some v∧j < xs.length∧ -(xs.length:Int)≤i∧i < xs.length:=by
  unfold atI at h
  cases e:ixN xs.length i with
  | none=>rw [e] at h; cases h
  | some j =>
    rw [e] at h
    obtain ⟨h1,h2,h3,h4⟩:=ixN_seq e
    exact ⟨j,h1,h,h2,h3,h4⟩
theorem atI_nat {α:Type} {xs:List α} {j:Nat} {v:α} (h:xs[j]? =some v):atI xs (j:Int)=some v:=by
  have hj:j < xs.length:=(List.getElem?_eq_some_iff.mp h).1
  have e:ixN xs.length (j:Int)=some j:=by
    unfold ixN
    rw [if_pos (by omega),if_pos (by omega)]; simp
  unfold atI; rw [e]; exact h
noncomputable def PlainIx (b:Expr):Prop:= ∀ o i,subscripted b false o i=operate [o,i] (getItem o i)
noncomputable def IxR (X:Cx) (r:R2):Prop :=
  ∀ (value slice:Expr) (pins:List (Addr×Obj)) (s:Shared) (σ:St) (H:Hp) (x y:V) (v u:Value) (Q:VK),Inv X pins σ H s→RelV x v→RelV y u→r x y H Q→
    subscripted slice false v u=operate [v,u] (getItem v u)→wpAny (model X.prog X.w) X.A (subscriptTail value slice v u) (EP X pins σ Q) X.xe s
noncomputable def MtR (X:Cx) (id:String) (r:V→List V→Hp→VK→Prop):Prop :=
  ∀ (pins:List (Addr×Obj)) (s:Shared) (σ:St) (H:Hp) (x:V) (xs:List V) (v:Value) (us:List Value) (Q:VK),Inv X pins σ H s→RelV x v→Vals xs us→r x xs H Q→
    wpAny (model X.prog X.w) X.A (call (.builtin id) (v :: us)) (EP X pins σ Q) X.xe s
section
variable {X:Cx} {a b:Expr} {ta tb:TE} {pos:Pos}
theorem IxR.or {r r':R2} (h:IxR X r) (h':IxR X r'):IxR X (fun x y H Q=>r x y H Q∨r' x y H Q):=by
  intro value slice pins s σ H x y v u Q I rx ry q hs
  rcases q with q | q
  · exact h value slice pins s σ H x y v u Q I rx ry q hs
  · exact h' value slice pins s σ H x y v u Q I rx ry q hs
theorem MtR.or {id:String} {r r':V→List V→Hp→VK→Prop} (h:MtR X id r) (h':MtR X id r'):MtR X id (fun x xs H Q=>r x xs H Q∨r' x xs H Q):=by
  intro pins s σ H x xs v us Q I rx rs q
  rcases q with q | q
  · exact h pins s σ H x xs v us Q I rx rs q
  · exact h' pins s σ H x xs v us Q I rx rs q
theorem pe_ix {r:R2} (hr:IxR X r) (ha:PE X a ta) (hb:PE X b tb) (hs:PlainIx b):PE X (.Subscript a b pos) (tOp r ta tb):=by
  intro pins s σ H Q I h
  exact Subscript_ (binT ha hb I h fun v u s2 x y H2 I2 rx ry q=>hr a b pins s2 σ H2 x y v u Q I2 rx ry q (hs _ _))
noncomputable def rIxL (K:PySem.W.Frag):R2:=fun x y H Q=>∃ p xs i v,x= .ref p∧y= .int i∧SqL K H p xs∧atI xs i=some v∧Q v H
noncomputable def rIxT (K:PySem.W.Frag):R2:=fun x y H Q=>∃ p xs i v,x= .ref p∧y= .int i∧SqT K H p xs∧atI xs i=some v∧Q v H
noncomputable def rIxS:R2:=fun x y H Q=>∃ z i c,x= .str z∧y= .int i∧z.length≤sizeLine∧atI z.cps.toList i=some c∧Q (.str ⟨#[c]⟩) H
theorem ix_list:IxR X (rIxL X.K):=by
  intro value slice pins s σ H x y v u Q I rx ry h hs
  obtain ⟨p,xs,i,z,rfl,rfl,hq,he,q⟩:=h
  cases rx
  obtain ⟨t,rfl⟩:=ry
  obtain ⟨its,r,pl,hz⟩:=I.list hq
  obtain ⟨j,h1,h2,h3,h4,h5⟩:=atI_get he
  obtain ⟨w,ew,rw'⟩:=r.get h2
  have hl:=r.length
  have hn:=line63
  have fin:EP X pins σ Q w s:=⟨z,H,I,rw',q⟩
  by_cases h0:0≤i
  · have hj:i.toNat=j:=by
      rw [seqIndex_of h0 h5] at h1
      exact Option.some.inj h1
    exact item_listR pl.isList h0 (by omega) (by rw [hj]; simpa using ew) fin hs
  · have hj:(i + (its.toArray.size:Int)).toNat=j:=by
      rw [seqIndex_neg (by omega) h4] at h1
      rw [List.size_toArray,←hl]
      exact Option.some.inj h1
    exact subscriptTail_builtinR (x:=w) pl.isList.typeIs slot_list_getitem.lookup
      (wpAny_getItem_list_neg (Q:=fun r s'=>r=w∧EP X pins σ Q r s') pl.isList (by omega) (by rw [List.size_toArray] <;> omega) (by omega) (by rw [hj]; simpa using ew) ⟨rfl,fin⟩) hs
theorem ix_tup:IxR X (rIxT X.K):=by
  intro value slice pins s σ H x y v u Q I rx ry h hs
  obtain ⟨p,xs,i,z,rfl,rfl,hq,he,q⟩:=h
  cases rx
  obtain ⟨t,rfl⟩:=ry
  obtain ⟨its,r,pl,hz⟩:=I.tuple hq
  obtain ⟨j,h1,h2,h3,h4,h5⟩:=atI_get he
  obtain ⟨w,ew,rw'⟩:=r.get h2
  have hl:=r.length
  have hn:=line63
  have fin:EP X pins σ Q w s:=⟨z,H,I,rw',q⟩
  exact subscriptTail_builtinR (x:=w) pl.typeIs slot_tuple_getitem.lookup
    (getItem_tuple (j:=j) (Q:=fun r s'=>r=w∧EP X pins σ Q r s') pl (by omega) (by omega) (by rw [List.size_toArray,←hl]; exact h1) (by simpa using ew) ⟨rfl,fin⟩) hs
theorem ix_str:IxR X rIxS:=by
  intro value slice pins s σ H x y v u Q I rx ry h hs
  obtain ⟨z,i,c,rfl,rfl,hz,he,q⟩:=h
  obtain ⟨t,rfl⟩:=rx
  obtain ⟨t',rfl⟩:=ry
  obtain ⟨j,h1,h2,h3,h4,h5⟩:=atI_get he
  have hl:z.cps.toList.length=z.length:=by simp [Str.length]
  rw [hl] at h1 h4 h5
  have hn:=line63
  exact tail_any (typeIs_str s z t) slot_str_getitem.lookup (getItem_str (c:=c) (by
    have e1:decide (i < -(2 ^ 63:Int))=false:=decide_eq_false (by omega)
    have e2:decide (i ≥ 2 ^ 63)=false:=decide_eq_false (by omega)
    rw [e1,e2,Bool.or_false]) (by rw [h1]; simpa using h2) ⟨.str ⟨#[c]⟩,H,I.tok _,⟨_,rfl⟩,q⟩) hs
noncomputable def rIx (K:PySem.W.Frag):R2:=fun x y H Q=>rIxL K x y H Q∨rIxT K x y H Q∨rIxS x y H Q
theorem ix_seq:IxR X (rIx X.K):=ix_list.or (ix_tup.or ix_str)
theorem mapSeq_set (its:List Value) (n j:Nat) (u:Value):Obj.mapSeq (·.setIfInBounds j u) { cls:=.type "list",data:=.seq its.toArray n }={ cls:=.type "list",data:=.seq (its.set j u).toArray n }:=by
  simp [Obj.mapSeq]
theorem Inv.lst {pins:List (Addr×Obj)} {σ:St} {H:Hp} {s:Shared} {p:Addr} {xs:List V} (I:Inv X pins σ H s) (h:H p=some (.lst xs)) :
    ∃ (its:List Value) (n:Nat),Vals xs its∧s.heap.get? p=some { cls:=.type "list",data:=.seq its.toArray n }∧xs.length≤sizeLine:=by
  obtain ⟨z,its,n,r,e⟩:=I.hok p _ h
  exact ⟨its,n,r,e,z⟩
theorem Inv.lstUpd {pins:List (Addr×Obj)} {σ:St} {H:Hp} {s:Shared} {p:Addr} {xs ys:List V} {its its':List Value} {n n':Nat} {f:Obj→Obj} (I:Inv X pins σ H s) (h:H p=some (.lst xs))
    (ho:s.heap.get? p=some { cls:=.type "list",data:=.seq its.toArray n }) (hf:f { cls:=.type "list",data:=.seq its.toArray n }={ cls:=.type "list",data:=.seq its'.toArray n' }) (r:Vals ys its') (hz:ys.length≤sizeLine) (t:Nat) :
    Inv X pins σ (upd H p (.lst ys)) { s with heap:=s.heap.update p f,toks:=t }:=by
  have e:(s.heap.update p f).get? p=some { cls:=.type "list",data:=.seq its'.toArray n' }:=by
    rw [Heap.get?_update_self f ho (by rw [hf] <;> rfl),hf]
  refine I.write (x:=p) (e:=p) (by rw [h]; trivial) (.inl rfl) (fun b u hb q=>(Heap.get?_update_other _ _ (Ne.symm hb)).trans q) ⟨_,e⟩ ?_
  exact ⟨hz,its',n',r,e⟩
noncomputable def rSetL:V→V→V→Hp→(Hp→Prop)→Prop:=fun o i v H Q=>∃ p xs k j,o= .ref p∧i= .int k∧H p=some (.lst xs)∧ixN xs.length k=some j∧Q (upd H p (.lst (xs.set j v)))
theorem set_list:PSet X rSetL:=by
  intro pins s σ H o i v ov iv u Q I ro ri rv h
  obtain ⟨p,xs,k,j,rfl,rfl,hp,hj,q⟩:=h
  cases ro
  obtain ⟨t,rfl⟩:=ri
  obtain ⟨its,n,r,ho,hz⟩:=I.lst hp
  obtain ⟨h1,h2,h3,h4⟩:=ixN_seq hj
  have hl:=r.length
  have hn:=line63
  have I':Inv X pins σ (upd H p (.lst (xs.set j v))) { s with heap:=s.heap.update p (Obj.mapSeq (·.setIfInBounds j u)) } :=
    I.lstUpd hp ho (mapSeq_set its n j u) (r.set rv j) (by rw [List.length_set]; exact hz) s.toks
  by_cases h0:0≤k
  · have hk:k.toNat=j:=by
      rw [seqIndex_of h0 h4] at h1
      exact Option.some.inj h1
    exact PySem.W.ki_setAt ho h0 (by omega) (by rw [List.size_toArray,←hl]; exact h4) (by rw [hk]; exact ⟨_,I',q⟩)
  · have hk:(k + (its.toArray.size:Int)).toNat=j:=by
      rw [seqIndex_neg (by omega) h3] at h1
      rw [List.size_toArray,←hl]
      exact Option.some.inj h1
    exact PySem.W.ki_setBack ho (by omega) (by rw [List.size_toArray,←hl]; exact h3) (by omega) (by rw [hk]; exact ⟨_,I',q⟩)
theorem slice_bounds (lo hi:Option Int) (n:Nat):(sliceBounds lo hi none n).1=((HT.sIx n 0 lo:Nat):Int)∧(sliceBounds lo hi none n).2.1=((HT.sIx n n hi:Nat):Int)∧(sliceBounds lo hi none n).2.2=1:=by
  refine ⟨?_, ?_,rfl⟩
  · cases lo with
    | none=>simp [sliceBounds,HT.sIx]
    | some i =>
      simp only [sliceBounds,HT.sIx,Option.getD_none,show (1:Int) > 0 by decide,if_true]
      by_cases h:i < 0
      · simp only [h,if_true] <;> omega
      · simp only [h,if_false] <;> omega
  · cases hi with
    | none=>simp [sliceBounds,HT.sIx]
    | some i =>
      simp only [sliceBounds,HT.sIx,Option.getD_none,show (1:Int) > 0 by decide,if_true]
      by_cases h:i < 0
      · simp only [h,if_true] <;> omega
      · simp only [h,if_false] <;> omega
theorem slicePick_cut (its:List Value) (lo hi:Option Int):slicePick its.toArray lo hi none=((its.drop (HT.sIx its.length 0 lo)).take (HT.sIx its.length its.length hi - HT.sIx its.length 0 lo)).toArray:=by
  obtain ⟨h1,h2,h3⟩:=slice_bounds lo hi its.toArray.size
  unfold slicePick
  rw [h1,h2,h3]
  simp only [sliceRange_one,pick_run,List.size_toArray] <;> rfl
noncomputable def rSlL (K:PySem.W.Frag):V→Option Int→Option Int→Hp→VK→Prop:=fun x lo hi H Q=>∃ a xs,x= .ref a∧SqL K H a xs∧∀ p,H p=none→Q (.ref p) (upd H p (.lst (cutV xs lo hi)))
theorem sl_list:SlR X (rSlL X.K):=by
  intro pins s σ H x v vl vu lo hi sl Q I rx hs pl pu h
  obtain ⟨a,xs,rfl,hx,q⟩:=h
  cases rx
  obtain ⟨its,r,ht,hz⟩:=I.list hx
  have hlen:=r.length
  refine ⟨"list",_,slot_list_getitem.lookup,ht.isList.typeIs, ?_⟩
  refine wpAny_getItem_list_slice ht.isList hs pl pu .none (by simp) ?_ (by rw [List.size_toArray] <;> omega)
  rw [slicePick_cut,←hlen]
  refine ⟨.ref s.heap.objs.size,_,I.laid (t':=s.toks) (o:=.lst (cutV xs lo hi)) (fun b ob q=>Heap.get?_push_of_some _ q) (Nat.le_refl _) ?_,rfl,q _ (I.hok.fresh (Nat.le_refl _))⟩
  exact ⟨Nat.le_trans (cutV_length xs lo hi) hz,_,0,(r.drop (HT.sIx xs.length 0 lo)).take (HT.sIx xs.length xs.length hi - HT.sIx xs.length 0 lo),Heap.get?_push_size _ rfl⟩
theorem call_len_seq:CallR X (.builtin "len") (fun xs H Q=>∃ p ys,xs=[.ref p]∧(SqL X.K H p ys∨SqT X.K H p ys)∧Q (.int ys.length) H):=by
  intro pins s σ H xs us Q I r h
  obtain ⟨p,ys,rfl,hq,q⟩:=h
  obtain ⟨u,rfl,rx⟩:=vals1 r
  cases rx
  have hn:=line63
  rcases hq with hq | hq
  · obtain ⟨its,r',pl,hz⟩:=I.list hq
    have hlen:=r'.length
    exact Calls.call_len_list pl.isList (by simp only [List.size_toArray] <;> omega) ⟨.int ys.length,H,I.tok _,⟨s.toks + 1,by rw [List.size_toArray,hlen]⟩,q⟩
  · obtain ⟨its,r',pl,hz⟩:=I.tuple hq
    have hlen:=r'.length
    exact len_tuple pl (by simp only [List.size_toArray] <;> omega) ⟨.int ys.length,H,I.tok _,⟨s.toks + 1,by rw [List.size_toArray,hlen]⟩,q⟩
theorem call_len_str:CallR X (.builtin "len") (fun xs H Q=>∃ z,xs=[.str z]∧z.length≤sizeLine∧Q (.int z.length) H):=by
  intro pins s σ H xs us Q I r h
  obtain ⟨z,rfl,hz,q⟩:=h
  obtain ⟨u,rfl,t,rfl⟩:=vals1 r
  have hn:=line63
  exact len_str (by omega) ⟨.int z.length,H,I.tok _,⟨_,rfl⟩,q⟩
theorem CallR.or {f:Value} {r r':List V→Hp→VK→Prop} (h:CallR X f r) (h':CallR X f r'):CallR X f (fun xs H Q=>r xs H Q∨r' xs H Q):=by
  intro pins s σ H xs us Q I rs q
  rcases q with q | q
  · exact h pins s σ H xs us Q I rs q
  · exact h' pins s σ H xs us Q I rs q
theorem call_tuple_of:CallR X (.type "tuple") (fun xs H Q=>∃ p ys,xs=[.ref p]∧((SqL X.K H p ys∧∀ l,H l=none→Q (.ref l) (upd H l (.tup ys)))∨(SqT X.K H p ys∧Q (.ref p) H))):=by
  intro pins s σ H xs us Q I r h
  obtain ⟨p,ys,rfl,h⟩:=h
  obtain ⟨u,rfl,rx⟩:=vals1 r
  cases rx
  rcases h with ⟨hq,q⟩ | ⟨hq,q⟩
  · obtain ⟨its,r',pl,hz⟩:=I.list hq
    have hlen:=r'.length
    refine call_tuple_list pl.isList (fun h' kp=>?_) (by simp only [List.size_toArray] <;> omega)
    have I1:Inv X pins σ H { s with heap:=h' }:=I.kept (t':=s.toks) kp
    have I2:Inv X pins σ (upd H h'.objs.size (.tup ys)) { s with heap:=h'.push { cls:=.type "tuple",data:=.seq its.toArray } } :=
      I1.laid (t':=s.toks) (fun b o e=>Heap.get?_push_of_some _ e) (Nat.le_refl _) (show ObjOk X.prog X.w _ _ _ (.tup ys) from ⟨hz,its,r',IsTupN.new _ _⟩)
    exact ⟨.ref h'.objs.size,_,I2,rfl,q _ (I1.hok.fresh (Nat.le_refl _))⟩
  · obtain ⟨its,r',pl,hz⟩:=I.tuple hq
    exact call_tuple_same pl ⟨.ref p,H,I,rfl,q⟩
noncomputable def tyV (K:PySem.W.Frag) (T:String) (x:V) (H:Hp):Prop:=match x with
  | .str _=>T="str"
  | .int _=>T="int"
  | .ref p=>(T="list"∧∃ xs,SqL K H p xs)∨(T="tuple"∧∃ o,K.lookup p=some o∧o.cls= .type "tuple"∧o.dict=none)∨
      (T="dict"∧((∃ kvs,H p=some (.dK kvs))∨∃ kvs,H p=some (.dT kvs)))∨(T="set"∧∃ S n,H p=some (.set S n))
  | _=>False
theorem tyV_is {pins:List (Addr×Obj)} {σ:St} {H:Hp} {s:Shared} {T:String} {x:V} {v:Value} (I:Inv X pins σ H s) (r:RelV x v) (ty:tyV X.K T x H) :
    s.TypeIs v T∧∀ a,v= .ref a→∃ ob,s.heap.get? a=some ob∧ob.dict=none:=by
  cases x with
  | str z =>
    obtain ⟨t,rfl⟩:=r
    cases (show T="str" from ty)
    exact ⟨typeIs_str s z t,fun _ e=>nomatch e⟩
  | int i =>
    obtain ⟨t,rfl⟩:=r
    cases (show T="int" from ty)
    exact ⟨typeIs_int s i t,fun _ e=>nomatch e⟩
  | ref p =>
    cases r
    rcases ty with ⟨rfl,xs,hq⟩ | ⟨rfl,o,hk,hc,hd⟩ | ⟨rfl,hk⟩ | ⟨rfl,S,n,hk⟩
    · obtain ⟨its,_,pl,_⟩:=I.list hq
      refine ⟨pl.isList.typeIs,fun a e=>?_⟩
      cases e
      obtain ⟨o,n,e,c,hd,_⟩:=pl
      exact ⟨o,e,hd⟩
    · refine ⟨⟨o,I.kIn p o hk,hc⟩,fun a e=>?_⟩
      cases e
      exact ⟨o,I.kIn _ o hk,hd⟩
    · have z:∃ o,s.heap.get? p=some o∧o.ExactDict:=by
        rcases hk with ⟨kvs,hk⟩ | ⟨kvs,hk⟩
        · obtain ⟨_,_,_,_,o,_,_,e,ex,_⟩:=I.hok p _ hk
          exact ⟨o,e,ex⟩
        · obtain ⟨_,_,_,_,o,_,_,e,ex,_⟩:=I.hok p _ hk
          exact ⟨o,e,ex⟩
      obtain ⟨o,e,ex⟩:=z
      refine ⟨⟨o,e,ex.1⟩,fun a e2=>?_⟩
      cases e2
      exact ⟨o,e,ex.2.1⟩
    · obtain ⟨o,_,_,_,e,ex,_⟩:=I.hok p _ hk
      refine ⟨⟨o,e,ex.1⟩,fun a e2=>?_⟩
      cases e2
      exact ⟨o,e,ex.2.1⟩
  | _=>exact False.elim ty
noncomputable def tBM (K:PySem.W.Frag) (T:String) (r:V→List V→Hp→VK→Prop) (to:TE) (t:TA):TE:=fun σ H Q=>to σ H fun x H1=>tyV K T x H1∧t σ H1 fun xs H2=>r x xs H2 Q
variable {o e:Expr} {es:List Expr} {to:TE} {t:TA} {name:Str} {apos cpos:Pos} {T id:String} {r:V→List V→Hp→VK→Prop}
theorem pe_bm (pa:PlainAttrs T) (slot:Slot T name id) (hty:typeOf (.builtin id)=pure (.type "method_descriptor")) (hm:MtR X id r) (ho:PE X o to) (ha:PA X (e :: es) t)
    (hbase:attributeBase o name X.env (eval o X.env)=eval o X.env:=by rfl)
    (hfew:((backTo cpos (starEach (e :: es) X.env)).all (fun x=> !x.1) && (backToKw cpos (keywordEach [] X.env)).all (fun x=>x.1.isSome)
      && decide ((e :: es).length + ([]:List Keyword).length + (if ([]:List Keyword).isEmpty then 0 else 1) < 30))=true:=by rfl)
    (hline:(apos.endLine == cpos.line)=true:=by rfl) (hs:starEach (e :: es) X.env=(false,eval e X.env) :: starEach es X.env:=by rfl) (hplain:(backTo cpos (starEach es X.env)).any (·.1)=false:=by rfl) :
    PE X (.Call (.Attribute o name apos) (e :: es) [] cpos) (tBM X.K T r to t):=by
  intro pins s σ H Q I h
  refine wpAny_Call_method_late hbase hfew hline rfl (thn (ho pins s σ H _ I h) fun v s1 ⟨x,H1,I1,r1,ty,q1⟩=>?_)
  obtain ⟨h1,h2⟩:=tyV_is I1 r1 ty
  refine ⟨T,id,pa,slot,hty,h1,h2, ?_⟩
  have hA:=ha cpos pins s1 σ H1 _ I1 q1
  rw [hs] at hA ⊢
  refine Calls.callWith_builtin (by show (false || (backTo cpos (starEach es X.env)).any (·.1))=false; rw [hplain] <;> rfl) (Calls.evalArgs_plain ?_)
  exact thn hA fun us s2 ⟨vs,H2,I2,r2,q2⟩=>hm pins s2 σ H2 x vs v us Q I2 r1 r2 q2
end
end L2
namespace L2
open PySem PySem.Spec PyProof.Rows
noncomputable def MtM (X:Cx) (id:String) (r:V→List V→Hp→VK→Prop):Prop :=
  ∀ (pins:List (Addr×Obj)) (s:Shared) (σ:St) (H:Hp) (x:V) (xs:List V) (v:Value) (us:List Value) (Q:VK),Inv X pins σ H s→RelV x v→Vals xs us→r x xs H Q→
    wpAny (model X.prog X.w) X.A (call (.builtin id) (v :: us)) (EP X pins σ Q) X.xe s
theorem Vals.one:∀ {x:V} {us:List Value},Vals [x] us→∃ u,us=[u]∧RelV x u
  | _,_,.cons r .nil=>⟨_,rfl,r⟩
theorem Vals.zero:∀ {us:List Value},Vals [] us→us=[]
  | _,.nil=>rfl
theorem Vals.reverse {xs:List V} {us:List Value} (h:Vals xs us):Vals xs.reverse us.reverse:=by
  induction h with
  | nil=>exact .nil
  | cons r t ih=>rw [List.reverse_cons,List.reverse_cons]; exact Vals.append ih (.cons r .nil)
section
variable {X:Cx} {pins:List (Addr×Obj)} {σ:St} {H:Hp} {s:Shared} {l b:Addr} {xs ys zs:List V}
theorem Inv.lset {its its':List Value} {n:Nat} {f:Array Value→Array Value} {t':Nat} (I:Inv X pins σ H s) (hH:H l=some (.lst xs))
    (e:s.heap.get? l=some { cls:=.type "list",data:=.seq its.toArray n }) (hf:f its.toArray=its'.toArray) (hv:Vals ys its') (hz:ys.length≤sizeLine) :
    Inv X pins σ (upd H l (.lst ys)) { s with heap:=s.heap.update l (Obj.mapSeq f),toks:=t' }:=by
  have q:=PySem.IsL.update e f
  rw [hf] at q
  refine I.write (x:=l) (e:=l) (by rw [hH]; exact trivial) (.inl rfl) (fun b' u hb hu=>(Heap.get?_update_other s.heap (Obj.mapSeq f) (Ne.symm hb)).trans hu) ⟨_,q⟩ ?_
  exact ⟨hz,its',_,hv,q⟩
theorem Inv.lnew {its:List Value} {t':Nat} (I:Inv X pins σ H s) (hv:Vals ys its) (hz:ys.length≤sizeLine) :
    Inv X pins σ (upd H s.heap.objs.size (.lst ys)) { s with heap:=s.heap.push { cls:=.type "list",data:=.seq its.toArray },toks:=t' } :=
  I.laid (fun _ _ q=>Heap.get?_push_of_some _ q) (Nat.le_refl _) ⟨hz,its,0,hv,Heap.get?_push_size _ rfl⟩
theorem Inv.fresh (I:Inv X pins σ H s):H s.heap.objs.size=none:=I.hok.fresh (Nat.le_refl _)
theorem Inv.lstM (I:Inv X pins σ H s) (hH:H l=some (.lst xs)):xs.length≤sizeLine∧∃ (its:List Value) (n:Nat),Vals xs its∧xs.length=its.length∧s.heap.get? l=some { cls:=.type "list",data:=.seq its.toArray n }:=by
  obtain ⟨z,its,n,r,e⟩:=I.hok l _ hH
  exact ⟨z,its,n,r,r.length,e⟩
end
section
variable {X:Cx}
noncomputable def rAppend:V→List V→Hp→VK→Prop:=fun x vs H Q=>∃ l xs y,x= .ref l∧vs=[y]∧H l=some (.lst xs)∧xs.length < sizeLine∧Q .non (upd H l (.lst (xs ++ [y])))
theorem mt_append:MtM X "list.append" rAppend:=by
  intro pins s σ H x vs v us Q I rx rv h
  obtain ⟨l,xs,y,rfl,rfl,hH,hz,q⟩:=h
  cases rx
  obtain ⟨u,rfl,ru⟩:=rv.one
  obtain ⟨z,its,n,r,hl,e⟩:=I.lstM hH
  refine call_meets F.slot_list_append ⟨_,e,rfl⟩ F.entry_list_append (F.args_list_append_2 _ _) (PySem.list_append l its.toArray n u (by rw [List.size_toArray]; omega)) ⟨e, ?_⟩
  refine ⟨.non,_,I.lset (its':=its ++ [u]) hH e (by simp) (r.append (.cons ru .nil)) ?_,rfl,q⟩
  rw [List.length_append,List.length_singleton]
  omega
noncomputable def rCat:R2:=fun x y H Q=>∃ l b xs zs,x= .ref l∧y= .ref b∧H l=some (.lst xs)∧H b=some (.lst zs)∧xs.length + zs.length≤sizeLine∧∀ p,H p=none→Q (.ref p) (upd H p (.lst (xs ++ zs)))
theorem op_cat:OpR X (binaryOp .Add) rCat:=by
  intro pins s σ H x y v u Q I rx ry h
  obtain ⟨l,b,xs,zs,rfl,rfl,hH,hB,hz,q⟩:=h
  cases rx
  cases ry
  obtain ⟨z,its,n,r,hl,e⟩:=I.lstM hH
  obtain ⟨z2,its2,n2,r2,hl2,e2⟩:=I.lstM hB
  refine PySem.P.add_list e e2 ?_ (by rw [List.size_toArray,List.size_toArray]; omega)
  have ea:its.toArray ++ its2.toArray=(its ++ its2).toArray:=by simp
  rw [ea]
  exact ⟨.ref _,_,I.lnew (t':=s.toks) (r.append r2) (by rw [List.length_append]; omega),rfl,q _ I.fresh⟩
end
section
variable {prog:Program} {w:World} {A:Around} {E:Value→Shared→Prop} {s:Shared}
end
section
variable {X:Cx}
end
end L2
namespace Att
open PySem PySem.W PySem.Calls PyProof.Rows
theorem ints_of_wellAll {P:Params} {h:Heap}:∀ (ns:List Int) (vs:List Value),WellAll P h vs (ns.map WData.int)→IntsAre vs ns:=by
  intro ns
  induction ns with
  | nil =>
    intro vs w
    rw [List.map_nil] at w
    cases w
    exact .nil
  | cons n ns ih =>
    intro vs w
    rw [List.map_cons] at w
    cases w with
    | cons a b =>
      cases a
      exact .cons _ _ (ih _ b)
theorem script_of {l:OpenLaw} {n:Nat} (hn:l.most=some n) {P:Params} {h:Heap} {args:List WData} {vals:List Value}
    (hpre:l.row.toRowW.claim.pre args=true) (hwl:WellAll P h vals args) :
    ∃ a vs ns,vals=[Value.ref a]∧args=[WData.list (ns.map WData.int)]∧h.get? a=some { cls:=.type "list",data:=.seq vs.toArray }∧IntsAre vs ns∧ns.length≤n:=by
  have hsh:WShape.hasAll [] args [.list .int]=true:=(pre_splitW hpre).1
  have hc:l.pre.holds [] { args:=args }=true:=(pre_splitW hpre).2
  obtain ⟨d,r,rfl,h1,h2⟩:=hasAllW_cons hsh
  obtain rfl:=hasAllW_nil h2
  obtain ⟨xs,rfl,h3⟩:=hasW_list h1
  obtain ⟨ns,rfl⟩:=items_int h3
  have hlen:ns.length≤n:=by
    unfold OpenLaw.pre at hc
    have h4:(WTm.not (.lt (.lit (.int (n:Int))) (.len (.arg 0)))).holds [] { args:=[.list (ns.map .int)] }=true:=by
      have h4:=(holds_andW hc).1
      rw [hn] at h4
      exact h4
    have h5:=condW_of h4 (w_not (w_lt w_lit (w_len_list (w_arg rfl))))
    rw [List.length_map] at h5
    refine Nat.le_of_not_lt fun q=>?_
    have q':(n:Int) < ((ns.length:Nat):Int):=by omega
    first
      | (rw [decide_eq_true q'] at h5; exact absurd h5 (by decide))
      | (simp at h5; omega)
  cases hwl with
  | cons w1 w2 =>
    cases w2
    cases w1 with
    | list ho hall=>exact ⟨_,_,ns,rfl,rfl,ho,ints_of_wellAll ns _ hall,hlen⟩
theorem post_true (l:OpenLaw) (args:List WData):l.row.toRowW.claim.post args (.bool true) args=true :=
  postW_of (r:=l.row.toRowW) (X:=(true == true))
    (show WShape.has [] (.bool true) .bool=true by first | rfl | decide | simp [WShape.has,WShape.arms,WShape.armsAll])
    (show (WTm.eq .res (.lit (.bool true))).value [] { args:=args,res:=some (.bool true),after:=args }=some (.bool (true == true)) from w_eq_bool (w_res rfl) w_lit) rfl
theorem attach_call {l:OpenLaw} {n:Nat} {q:Program} {loose:List Str} {XP:(Str→Option Value)→Heap→Prop} {YP:World→Heap→Prop} {d:DefRec}
    (hn:l.most=some n) (hdf:d.params.defaults=[])
    (call:∀ (w:World) (s₀ s₁:Shared) (mg mb:Str→Option Value) (fa:Addr) (o:Obj) (pm cd doc:Value) (a:Addr) (vs:List Value) (ns:List Int),
      Ground q loose [] XP w s₀ mg mb s₁.heap→YP w s₁.heap→
      s₁.heap.get? fa=some o→o.data= .func (docDef d.name d.params d.body d.scope pm cd doc)→s₁.heap.CodeRec cd d.name→mg d.name=some (.ref fa)→
      s₁.heap.get? a=some { cls:=.type "list",data:=.seq vs.toArray }→IntsAre vs ns→ns.length≤n→s₁.gens= #[]→
      codeAny (model l.prog w) callerA (.call (.ref fa) ⟨[.ref a],[]⟩) (fun r s'=>r= .ok (.ret (.bool true))∧OldK s₁.heap s'.heap∧s'.os=s₁.os∧AllBare s'.gens) s₁) :
    WalkO q loose XP YP l.row.toRowW d [] (fun f vs=>PySem.call f vs):=by
  intro w s₀ s₁ mg mb G Y fa o pm cd doc dV kV ho hd hcd hD hmg hg args vals as hpre hlay hrd hwl hlo
  obtain rfl:dV= .none:=Dflts.none hD hdf
  obtain rfl:kV= .none:=Dflts.noKw hD
  obtain ⟨a,vs,ns,rfl,rfl,hobj,hints,hlen⟩:=script_of hn hpre hwl
  refine enter_call (codeAny_mono (call w s₀ s₁ mg mb fa o pm cd doc a vs ns G Y ho (fd_plain hd) hcd hmg hobj hints hlen hg) fun r s' hq=>?_)
  obtain ⟨rfl,h2,h3,h4⟩:=hq
  exact ⟨.inl ⟨.bool true,.bool true,[],rfl,fun _=>rfl,.bool true,post_true l _,fun _=>⟨List.Pairwise.nil,fun _ hm=>(nomatch hm)⟩⟩,h2,h3,h4⟩
section
variable {prog:Program} {w:World} {A:Around} {E:Value→Shared→Prop} {s:Shared} {K:Frag}
end
end Att
namespace L2
open PySem PySem.Spec PyProof.Rows
theorem vals_ints:∀ {vs:List Value} {ns:List Int},IntsAre vs ns→Vals (ns.map V.int) vs
  | _,_,.nil=>.nil
  | _,_,.cons n t h=>.cons ⟨t,rfl⟩ (vals_ints h)
noncomputable def Only (H:Hp):Prop:= ∀ b,H b=none∨∃ o xs,H b=some (.frz o (.lst xs))
theorem law_call {P:Program} {w:World} {K:PySem.W.Frag} {mg mb:Str→Option Value} {CX:CXT} {k:Nat} {fa a:Addr} {fd:FuncData} {x:Str} {sp:Sp} {s₁:Shared} {vs:List Value} {ns:List Int}
    (KX:K.In s₁.heap) (hns:s₁.heap.Ns mainGlobals mg) (hb:s₁.heap.Ns builtinsNs mb) (hbb:∀ x:Str,x≠"__name__"→mb x=bootBuiltins x) (hlim:s₁.heap.NoLimit) (hg:s₁.gens= #[])
    (ha:s₁.heap.get? a=some { cls:=.type "list",data:=.seq vs.toArray }) (hi:IntsAre vs ns) (hl:ns.length≤sizeLine) (hr:Room k callerA)
    (F:∀ base:Heap,K.In base→base.Ns mainGlobals mg→FnOk P w K mg base CX k fa fd [x] sp) (hbind:∀ (s:Shared) (u:Value),BindsTo s fd ⟨[u],[]⟩ [(x,u)])
    (hsp:∀ H:Hp,Only H→SqL K H a (ns.map V.int)→sp [.ref a] H (fun v _=>v= .bl true) fun _ _ _=>False)
    (hCX:∀ H e s',CX [] H s₁ (fun _ _ _=>False) e s'→False) :
    codeAny (model P w) callerA (.call (.ref fa) ⟨[.ref a],[]⟩) (fun r s'=>r= .ok (.ret (.bool true))∧OldK s₁.heap s'.heap∧s'.os=s₁.os∧AllBare s'.gens) s₁:=by
  have rv:=vals_ints hi
  have lenV:=hi.length
  have core :∀ H:Hp,Only H→SqL K H a (ns.map V.int)→HOk P w H s₁.heap→(∀ b,H b≠none→b=a)→(H a≠none→K.lookup a=none)→
      codeAny (model P w) callerA (.call (.ref fa) ⟨[.ref a],[]⟩) (fun r s'=>r= .ok (.ret (.bool true))∧OldK s₁.heap s'.heap∧s'.os=s₁.os∧AllBare s'.gens) s₁:=by
    intro H hO hS hok hA hK
    have base_of:∀ {b:Addr} {o:Obj},s₁.heap.get? b=some o→H b=none→(hidT s₁.heap H).get? b=some o:=fun e n=>hidT_get e n
    have noA:∀ {b:Addr} {o:Obj} {es:Array DictEntry} {ep:Nat},s₁.heap.get? b=some o→o.data= .dict es ep→H b=none:=fun {b o es ep} e d=>by
      cases q:H b with
      | none=>rfl
      | some u =>
        have e':b=a:=hA b (by rw [q]; simp)
        subst e'
        rw [ha] at e; cases e
        have d':Data.seq vs.toArray _=Data.dict es ep:=d
        cases d'
    have nsK:∀ {b:Addr} {m:Str→Option Value},s₁.heap.Ns b m→(hidT s₁.heap H).Ns b m:=fun {b m} ⟨o,es,ep,e,d,r⟩=>⟨o,es,ep,base_of e (noA e d),d,r⟩
    have hKb:K.In (hidT s₁.heap H):=fun b o e=>base_of (KX b o e) (by
      cases q:H b with
      | none=>rfl
      | some u =>
        have e':b=a:=hA b (by rw [q]; simp)
        subst e'
        rw [hK (by rw [q]; simp)] at e; cases e)
    have hM:Mod K mg (hidT s₁.heap H):=⟨hKb,nsK hns,⟨mb,nsK hb,hbb⟩,let ⟨mc,h1,h2⟩:=hlim; ⟨mc,nsK h1,h2⟩⟩
    have e0:Env0 P w K mg (hidT s₁.heap H) callerA [] s₁ H:=⟨rfl,hM,fun b o e=>of_hidT e,Nat.le_of_eq (hidT_size _ _),trivial,fun b hb=>absurd (show b∈([]:List Addr) from hb) (by simp),hok,.of_eq hg⟩
    refine codeAny_mono ((F _ hKb (nsK hns)).run callerA [] s₁ H ⟨[.ref a],[]⟩ [.ref a] [.ref a] _ _ hr e0 (hbind s₁ (.ref a)) (.cons rfl .nil) (hsp H hO hS)) fun r s' h=>?_
    cases r with
    | error e=>exact (hCX H e s' h).elim
    | ok fl =>
      cases fl with
      | next=>exact False.elim h
      | brk=>exact False.elim h
      | cont=>exact False.elim h
      | ret u =>
        obtain ⟨v,H',os,bare,un,hok',r',q⟩:=h
        have q':v= .bl true:=q
        subst q'
        obtain rfl:u=Value.bool true:=r'
        refine ⟨rfl,OldK.of_keep fun b o e=>?_,os,bare⟩
        cases q:H b with
        | none=>exact un.keep b o e q (by intro z; exact absurd (show b∈([]:List Addr) from z) (by simp)) (by simp)
        | some u =>
          rcases hO b with z | ⟨ob,xs,z⟩
          · rw [q] at z; cases z
          · have z2:=un.frzs b ob _ z
            obtain ⟨e1,_⟩:=hok b _ z
            obtain ⟨e2,_⟩:=hok' b _ z2
            rw [e] at e1; cases e1
            exact e2
  cases hk:K.lookup a with
  | some o =>
    have e:=KX a o hk
    rw [ha] at e
    cases e
    refine core (fun _=>none) (fun _=>.inl rfl) (.inr ⟨_,vs.toArray,_,hk,rfl,rfl,rfl,by rw [List.size_toArray,lenV]; exact hl,by simpa using rv⟩) (fun b u z=>by have z':(none:Option HO)=some u:=z; cases z') (fun b z=>absurd rfl z) fun z=>absurd rfl z
  | none =>
    refine core (fun b=>if b=a then some (.frz { cls:=.type "list",data:=.seq vs.toArray } (.lst (ns.map V.int))) else none) (fun b=>?_) (.inl (.inr ⟨{ cls:=.type "list",data:=.seq vs.toArray },if_pos rfl⟩)) (fun b u z=>?_) (fun b z=>?_) fun _=>hk
    · by_cases hb:b=a
      · exact .inr ⟨_,_,if_pos hb⟩
      · exact .inl (if_neg hb)
    · by_cases hb:b=a
      · have z':=(if_pos hb).symm.trans z
        cases z'
        subst hb
        exact ⟨ha,by rw [List.length_map]; exact hl,vs,_,rv,ha⟩
      · have z':=(if_neg hb).symm.trans z
        cases z'
    · by_cases hb:b=a
      · exact hb
      · exact absurd (if_neg hb) z
end L2
namespace L2
open PySem PySem.Spec PyProof.Rows
theorem walk_of {l:PySem.W.OpenLaw} {n k:Nat} {q:Program} {loose:List Str} {XP:(Str→Option Value)→Heap→Prop} {YP:World→Heap→Prop} {d:DefRec} {K:Params→PySem.W.Frag} {CX:World→CXT} {sp:World→Sp} {x:Str}
    (hn:l.most=some n) (hn2:n≤sizeLine) (hdf:d.params.defaults=[]) (hr:Room k callerA)
    (hY:∀ (w:World) (h:Heap),YP w h→(K w.params).In h)
    (F : ∀ (w:World) (mg:Str→Option Value) (fa:Addr) (h:Heap),(K w.params).In h→h.Ns mainGlobals mg→mg d.name=some (.ref fa)→
      ∃ fd:FuncData,(∀ (s:Shared) (u:Value),BindsTo s fd ⟨[u],[]⟩ [(x,u)])∧
        ∀ base:Heap,(K w.params).In base→base.Ns mainGlobals mg→FnOk l.prog w (K w.params) mg base (CX w) k fa fd [x] (sp w))
    (hsp:∀ (w:World) (H:Hp) (a:Addr) (ns:List Int),ns.length≤n→Only H→SqL (K w.params) H a (ns.map V.int)→sp w [.ref a] H (fun v _=>v= .bl true) fun _ _ _=>False)
    (hCX:∀ (w:World) (H:Hp) (s:Shared) (e:Value) (s':Shared),CX w [] H s (fun _ _ _=>False) e s'→False) :
    PySem.W.WalkO q loose XP YP l.row.toRowW d [] (fun f vs=>PySem.call f vs):=by
  refine Att.attach_call hn hdf fun w s₀ s₁ mg mb fa o pm cd doc a vs ns G Y ho hd hcd hmg hobj hints hlen hg=>?_
  have KX:=hY w _ Y
  obtain ⟨fd,hb,hF⟩:=F w mg fa _ KX G.T.g hmg
  exact law_call KX G.T.g G.T.b G.T.builtins G.T.nolimit hg hobj hints (Nat.le_trans hlen hn2) hr hF hb (fun H hO hS=>hsp w H a ns hlen hO hS) fun H e s'=>hCX w H s₁ e s'
theorem walk_ofK {l:PySem.W.OpenLaw} {n k:Nat} {q:Program} {loose:List Str} {XP:(Str→Option Value)→Heap→Prop} {YP:World→Heap→Prop} {d:DefRec} {K:Params→PySem.W.Frag} {CX:CXT} {sp:PySem.W.Frag→Sp} {x:Str}
    (hn:l.most=some n) (hn2:n≤sizeLine) (hdf:d.params.defaults=[]) (hr:Room k callerA)
    (hY:∀ (w:World) (h:Heap),YP w h→(K w.params).In h)
    (F : ∀ (w:World) (mg:Str→Option Value) (fa:Addr) (h:Heap),(K w.params).In h→h.Ns mainGlobals mg→mg d.name=some (.ref fa)→
      ∃ fd:FuncData,(∀ (s:Shared) (u:Value),BindsTo s fd ⟨[u],[]⟩ [(x,u)])∧
        ∀ base:Heap,(K w.params).In base→base.Ns mainGlobals mg→FnOk l.prog w (K w.params) mg base CX k fa fd [x] (sp (K w.params)))
    (hsp:∀ (K:PySem.W.Frag) (H:Hp) (a:Addr) (ns:List Int),ns.length≤n→Only H→SqL K H a (ns.map V.int)→sp K [.ref a] H (fun v _=>v= .bl true) fun _ _ _=>False)
    (hCX:∀ (H:Hp) (s:Shared) (e:Value) (s':Shared),CX [] H s (fun _ _ _=>False) e s'→False) :
    PySem.W.WalkO q loose XP YP l.row.toRowW d [] (fun f vs=>PySem.call f vs) :=
  walk_of (K:=K) (CX:=fun _=>CX) (sp:=fun w=>sp (K w.params)) hn hn2 hdf hr hY F (fun w H a ns h1 h2 h3=>hsp (K w.params) H a ns h1 h2 h3) fun _ H s e s'=>hCX H s e s'
end L2
namespace L2
open PySem PySem.Spec PyProof.Rows
noncomputable def inClass (s:Stmt) (j:Nat):Stmt:=match s with
  | .ClassDef _ _ _ body _ _ _ _ _ _ _=>body.getD j (.Pass ⟨0,0,0,0⟩)
  | _=>.Pass ⟨0,0,0,0⟩
noncomputable def defArgs (s:Stmt):Arguments:=match s with
  | .FunctionDef _ a _ _ _ _ _ _ _ _=>a
  | _=>{ posonlyargs:=[],args:=[],vararg:=none,kwonlyargs:=[],kw_defaults:=[],kwarg:=none,defaults:=[] }
noncomputable def defBody (s:Stmt):List Stmt:=match s with
  | .FunctionDef _ _ b _ _ _ _ _ _ _=>b
  | _=>[]
noncomputable def defScope (s:Stmt):Scope:=match s with
  | .FunctionDef _ _ _ _ _ _ sc _ _ _=>sc
  | _=>{ kind:=.function,names:=[],isGenerator:=false,isCoroutine:=false }
noncomputable abbrev CX0:CXT:=fun _ _ _ _ _ _=>False
noncomputable abbrev E0:XK:=fun _ _ _=>False
theorem pass0 {X:Cx}:Passes CX0 X E0:=fun _ _ _ _ _ _ _ h=>h.elim
structure Fun (K:PySem.W.Frag) (x qual:Str) (st:Stmt) (f:Addr) (fd:FuncData):Prop where
  ex :∃ (oc:Value) (od:Option Addr) (kV doc pm:Value) (an:Option Addr) (cdv ct:Value) (osl:Array (Option Value)),
    fd=PySem.W.fnOf x qual (defArgs st) (defBody st) (defScope st) .none kV doc pm an cdv ct∧K.lookup f=some ⟨oc,od,.func fd,osl⟩∧PySem.W.codeIn K cdv qual=true
  kp:PySem.W.keepIn K (.ref f)=true
section
variable {P:Program} {w:World} {K:PySem.W.Frag} {mg:Str→Option Value} {base:Heap}
theorem Fun.ok {x qual:Str} {st:Stmt} {f:Addr} {fd:FuncData} {N ps:List Str} {k:Nat} {sp:Sp} (F:Fun K x qual st f fd) (S:FnScope N ps (defScope st)) (len:∀ vs H Q E,sp vs H Q E→vs.length=ps.length)
    (hbody:∀ (cdv:Value) (A:Around) (outer:List Env) (s:Shared) (H:Hp) (vs:List V) (Q:VK) (E:XK),Room k (A.deeper (envOfC qual (defScope st) s.heap.objs.size f cdv))→sp vs H Q E→
      ∃ t,PSs (cxOf CX0 P w K mg base N qual (defScope st) f cdv A outer s H E).nox (defBody st) t∧t { nx:=fun _ H'=>Q .non H',rt:=Q } (start N vs) H):FnOk P w K mg base CX0 (k + 1) f fd ps sp:=by
  obtain ⟨oc,od,kV,doc,pm,an,cdv,ct,osl,rfl,lk,hcd⟩:=F.ex
  refine fn_of lk hcd S len fun A outer s H vs Q E hr hsp=>?_
  obtain ⟨t,h,q⟩:=hbody cdv A outer s H vs Q E hr hsp
  exact ⟨t,h.nox,q⟩
theorem Fun.binds {x qual:Str} {st:Stmt} {f:Addr} {fd:FuncData} {ps:List Str} (F:Fun K x qual st f fd)
    (h:∀ (kV doc pm:Value) (an:Option Addr) (cdv ct:Value) (us:List Value),us.length=ps.length→bindArgs (PySem.W.fnOf x qual (defArgs st) (defBody st) (defScope st) .none kV doc pm an cdv ct) ⟨us,[]⟩=pure (ps.zip us)):Binds K fd ps []:=by
  obtain ⟨oc,od,kV,doc,pm,an,cdv,ct,osl,rfl,lk,hcd⟩:=F.ex
  exact .all (h kV doc pm an cdv ct)
end
section
variable {X:Cx}
theorem pv (i:Nat) {x:Str} {pos:Pos} (hN:X.N[i]? =some x:=by rfl) (hv:Vis X.env.scope x:=by first | exact Or.inl rfl | exact Or.inr (Or.inl rfl) | exact Or.inr (Or.inr rfl)) (hd:(x == ("__debug__":Str))=false:=by decide)
    (hcd:(x == ("__classdict__":Str))=false:=by decide):PE X (.Name x pos) (tVar i):=pe_var hN hv hd hcd
end
noncomputable def Same (H H':Hp):Prop:= ∀ b o,H b=some o→H' b=some o
theorem Same.refl (H:Hp):Same H H:=fun _ _ h=>h
theorem Same.trans {H H1 H2:Hp} (a:Same H H1) (b:Same H1 H2):Same H H2:=fun c o h=>b c o (a c o h)
theorem Same.free {H H':Hp} (e:Same H H') {l:Addr} (h:H' l=Option.none):H l=Option.none:=by
  cases q:H l with
  | none=>rfl
  | some o =>
    rw [e l o q] at h
    cases h
theorem Same.seq {K:PySem.W.Frag} {H H':Hp} {a:Addr} {xs:List V} (e:Same H H') (h:SqL K H a xs):SqL K H' a xs:=by
  rcases h with (h | ⟨o,h⟩) | h
  · exact .inl (.inl (e _ _ h))
  · exact .inl (.inr ⟨o,e _ _ h⟩)
  · exact .inr h
end L2
set_option maxHeartbeats 4000000
namespace L2
open PySem PySem.Spec PyProof.Rows
noncomputable def Sm (k:Nat) (x:Int):Prop:=x.natAbs < 2 ^ k
theorem Sm.mono {k l:Nat} {x:Int} (h:Sm k x) (q:k≤l):Sm l x:=Nat.lt_of_lt_of_le h (Nat.pow_le_pow_right (by decide) q)
theorem Sm.mul {k l:Nat} {x y:Int} (h:Sm k x) (q:Sm l y):Sm (k + l) (x * y):=by
  unfold Sm at *; rw [Int.natAbs_mul,Nat.pow_add]; exact Nat.mul_lt_mul'' h q
theorem Sm.add {k l:Nat} {x y:Int} (h:Sm k x) (q:Sm k y) (e:k + 1≤l):Sm l (x + y):=by
  have a:(x + y).natAbs≤x.natAbs + y.natAbs:=Int.natAbs_add_le x y
  have b:2 ^ k + 2 ^ k≤2 ^ l:=by
    have:=Nat.pow_le_pow_right (show 0 < 2 by decide) e
    rw [Nat.pow_succ] at this; omega
  unfold Sm at *; omega
theorem Sm.neg {k:Nat} {x:Int} (h:Sm k x):Sm k (-x):=by unfold Sm at *; rw [Int.natAbs_neg]; exact h
theorem Sm.sub {k l:Nat} {x y:Int} (h:Sm k x) (q:Sm k y) (e:k + 1≤l):Sm l (x - y):=by
  rw [Int.sub_eq_add_neg]; exact h.add q.neg e
theorem Sm.le {k:Nat} {x y:Int} (h:Sm k y) (a:0≤x) (b:x≤y):Sm k x:=by unfold Sm at *; omega
theorem Sm.div {k:Nat} {x y:Int} (h:Sm k x) (hy:0 < y):Sm k (x / y):=by
  rcases Int.le_total 0 x with z | z
  · exact h.le (Int.ediv_nonneg z (by omega)) (Int.ediv_le_self _ z)
  · have a:x≤x / y:=Int.le_ediv_of_mul_le hy (by
      have:=Int.mul_le_mul_of_nonpos_left z (show 1≤y by omega)
      omega)
    have b:x / y≤0:=by
      have:=Int.ediv_le_ediv hy z
      rw [Int.zero_ediv] at this; exact this
    unfold Sm at *; omega
theorem Sm.bits {k:Nat} {x:Int} (h:Sm k x):Builtin.Int.intBits x≤k:=by
  unfold Builtin.Int.intBits
  split
  · exact Nat.zero_le _
  · rename_i z
    have hz:x.natAbs≠0:=fun e=>z (by rw [Int.natAbs_eq_zero.mp e]; rfl)
    exact (Nat.log2_lt hz).mpr h
theorem Sm.mulOk {k l:Nat} {x y:Int} (h:Sm k x) (q:Sm l y) (e:k + l≤100000000):IntMulOk x y:=by
  have b1:=h.bits
  have b2:=q.bits
  unfold IntMulOk
  have z:Builtin.Int.intTooBig (((Builtin.Int.intBits x + Builtin.Int.intBits y:Nat):Int))=false:=by
    unfold Builtin.Int.intTooBig
    refine decide_eq_false ?_
    have:bitsLine=134217728:=by decide
    rw [this]; omega
  have z':Builtin.Int.intTooBig ((Builtin.Int.intBits x:Int) + (Builtin.Int.intBits y:Int))=false:=by
    rw [←z]; congr 1
  rw [z']; simp
theorem Sm.log {k:Nat} {x:Int} (h:Sm k x) (e:k≤9000) (hk:0 < k):x.natAbs.log2 < 9000:=by
  by_cases hz:x.natAbs=0
  · rw [hz]; decide
  · exact Nat.lt_of_lt_of_le ((Nat.log2_lt hz).mpr h) e
section
variable {X:Cx}
noncomputable def CMulG (i j:Int):Prop:=IntMulOk i j
theorem mulL {i j:Int} (h:Sm 64 i):CMulG i j:=IntMulOk.of_left h.bits
theorem mulR {i j:Int} (h:Sm 64 j):CMulG i j:=IntMulOk.of_right h.bits
theorem mulB {k l:Nat} {i j:Int} (h:Sm k i) (q:Sm l j) (e:k + l≤100000000:=by decide):CMulG i j:=h.mulOk q e
noncomputable def CDivG (_i j:Int):Prop:=0 < j∧∃ k,Sm k j∧0 < k∧k≤9000
theorem divB {k:Nat} {i j:Int} (h:0 < j) (q:Sm k j) (e:0 < k:=by decide) (e':k≤9000:=by decide):CDivG i j:=⟨h,k,q,e,e'⟩
theorem op_mulG:OpR X (binaryOp .Mult) (rI CMulG fun i j=>.int (i * j)):=opI fun _ _ _ _ _ _ _ hc q=>by
  exact mul_int q hc
theorem op_fdivG:OpR X (binaryOp .FloorDiv) (rI CDivG fun i j=>.int (i / j)):=opI fun i j _ _ _ _ _ hc q=>by
  obtain ⟨h1,k,a,hk,e⟩:=hc
  exact floordiv_int (by omega) (by rw [Int.fdiv_eq_ediv_of_nonneg i (by omega)]; exact q) (.inl (PyProof.noPylong_of_log2 (a.log e hk)))
theorem RelV.one {x:V} {u v:Value} (r:RelV x u) (q:RelV x v) (h:∀ i,x≠.int i) (h1:∀ i,x≠.str i) (h2:∀ i,x≠.byt i) (h3:∀ i,x≠.flt i):u=v:=by
  cases x with
  | non=>exact Eq.trans r (Eq.symm q)
  | bl b=>exact Eq.trans r (Eq.symm q)
  | int i=>exact absurd rfl (h i)
  | str i=>exact absurd rfl (h1 i)
  | byt i=>exact absurd rfl (h2 i)
  | flt i=>exact absurd rfl (h3 i)
  | ref a=>exact Eq.trans r (Eq.symm q)
  | ty n=>exact Eq.trans r (Eq.symm q)
end
section
variable {X:Cx} {CX:CXT} {k:Nat} {f C:Addr} {fd:FuncData} {ps ks:List Str} {sp:Sp} {E:XK} {x m:Str} {p pos apos kpos:Pos} {kws:List Keyword} {tk:TA}
variable {g:List Value→List Value→List Value} {gV:List V→List V→List V}
end
theorem IsTupN.at {h:Heap} {a:Addr} {items:Array Value} {n:Nat} (e:h.get? a=some { cls:=.type "tuple",data:=.seq items n }):IsTupN h a items:=⟨⟨_,e,rfl,n,rfl⟩,fun o q=>by rw [e] at q; cases q; rfl⟩
end L2
namespace LE
open PySem PyProof.Rows
open AutoSeq1 (wpAny_loadPart')
open Builtin
variable {prog:Program} {w:World} {A:Around} {E:Value→Shared→Prop} {s:Shared}
theorem nextT {it l:Addr} {i:Nat} {xs:Array Value} {x:Value} {Q:Value→Shared→Prop} (a:s.heap.IsTupleIter it l i) (b:s.heap.IsTuple l xs) (c:xs[i]? =some x)
    (q:∀ h',h'.IsTupleIter it l (i + 1)→Heap.SameBut it s.heap h'→Q x { s with heap:=h' }):wpAny (model prog w) A (Builtin.SmallTypes.nextOf (.ref it)) Q E s:=by
  obtain ⟨o,ho,hc,hd⟩:=id a
  obtain ⟨p,hp,_,n,hn⟩:=b
  unfold Builtin.SmallTypes.nextOf
  refine wpAny_bind (wpAny_callSpecial?_slot (name:=Str.ofString "__next__") a.typeIs F.slot_tuple_iterator_next (wpAny_call_entry F.slot_tuple_iterator_next a.typeIs F.entry_tuple_iterator_next ?_ (F.args_tuple_iterator_next_1 _)))
  show wpAny _ _ (field (.ref it) 0 >>= _) _ _ _
  refine wpAny_bind (wpAny_field ho hd (x:=.ref l) rfl ?_)
  show wpAny _ _ (if (Value.ref l == Value.none)=true then _ else _) _ _ _
  rw [if_neg (show ¬((Value.ref l == Value.none)=true) from nofun)]
  show wpAny _ _ (field (.ref it) 1 >>= _) _ _ _
  refine wpAny_bind (wpAny_field ho hd (x:=.int i 0) rfl ?_)
  show wpAny _ _ (seqItems? (.ref l) >>= _) _ _ _
  refine wpAny_bind (wpAny_seqItems hp hn ?_)
  simp only [Int.toNat_natCast,c]
  exact wpAny_bind (wpAny_setField ho hd (by simp) (wpAny_pure ⟨x,rfl,wpAny_pure (q _ ⟨_,Heap.get?_update_self _ ho (Obj.isFreed_of_fields (Obj.data_mapFields hd _)),(Obj.cls_mapFields ..).trans hc,by rw [Obj.data_mapFields hd]; simp [rawInt]⟩ (Heap.SameBut.update ..))⟩))
theorem endT {it l:Addr} {i:Nat} {xs:Array Value} {Q:Value→Shared→Prop} (hh:A.handled=none) (a:s.heap.IsTupleIter it l i) (b:s.heap.IsTuple l xs) (c:xs[i]? =none)
    (q:∀ h' e,Heap.ExtBut it s.heap h'→(∃ o,h'.get? e=some o∧o.cls= .type "StopIteration")→E (.ref e) { s with heap:=h' }):wpAny (model prog w) A (Builtin.SmallTypes.nextOf (.ref it)) Q E s:=by
  obtain ⟨o,ho,hc,hd⟩:=id a
  obtain ⟨p,hp,_,n,hn⟩:=b
  unfold Builtin.SmallTypes.nextOf
  refine wpAny_bind (wpAny_callSpecial?_slot (name:=Str.ofString "__next__") a.typeIs F.slot_tuple_iterator_next (wpAny_call_entry F.slot_tuple_iterator_next a.typeIs F.entry_tuple_iterator_next ?_ (F.args_tuple_iterator_next_1 _)))
  show wpAny _ _ (field (.ref it) 0 >>= _) _ _ _
  refine wpAny_bind (wpAny_field ho hd (x:=.ref l) rfl ?_)
  show wpAny _ _ (if (Value.ref l == Value.none)=true then _ else _) _ _ _
  rw [if_neg (show ¬((Value.ref l == Value.none)=true) from nofun)]
  show wpAny _ _ (field (.ref it) 1 >>= _) _ _ _
  refine wpAny_bind (wpAny_field ho hd (x:=.int i 0) rfl ?_)
  show wpAny _ _ (seqItems? (.ref l) >>= _) _ _ _
  refine wpAny_bind (wpAny_seqItems hp hn ?_)
  simp only [Int.toNat_natCast,c]
  refine wpAny_bind (wpAny_rule (wpAny_bind (wpAny_setField ho hd (by simp) ?_)))
  show wpAny _ _ (newExc (.type "StopIteration") [] >>= _) _ _ _
  refine wpAny_bind ?_
  simp only [newExc,newTuple]
  refine wpAny_bind (wpAny_newObj_type ?_ (by size_fits))
  refine wpAny_bind (m:=firstArgMember _ _) (wpAny_of_eq (a:=Value.none) (by first | rfl | (simp only [firstArgMember]; rfl)) (wpAny_newObj_type ?_ (by size_fits)))
  simp only [raiseNew]
  refine wpAny_bind (wpAny_handled ?_)
  first | rw [show A.in1.handled=none from hh] | rw [hh]
  exact wpAny_bind (wpAny_pure (wpAny_throw (q _ _ (((Heap.SameBut.update ..).extBut.push _).push _) ⟨_,Heap.get?_push_size _ rfl,rfl⟩)))
theorem drawsT (hh:A.handled=none) (it l:Addr) (hne:l≠it) (xs:Array Value):Draws prog w A it [it,l] xs.size (fun i v=>xs[i]? =some v) (fun i h=>h.IsTupleIter it l i∧h.IsTuple l xs) where
  live:=fun _ _ st=>let ⟨o,ho,_⟩:=st.1; ⟨o,ho⟩
  frame:=fun _ _ _ st hk=>⟨st.1.at fun o e=>hk it (by simp) o e,let ⟨o,e,r⟩:=st.2; ⟨o,hk l (by simp) o e,r⟩⟩
  item:=fun i s Q E hi st hQ=>nextT st.1 st.2 (x:=xs[i]) (by simp [hi]) fun h' a b=>hQ _ h' s.toks (by simp [hi]) ⟨a,st.2.extBut b.extBut hne⟩ b
  done:=fun s Q E st hE=>endT hh st.1 st.2 (by simp) hE
theorem drawsZ (hh:A.handled=none) (it l:Addr) (i:Nat) (xs:Array Value) (hx:xs[i]? =none):Draws prog w A it [it,l] i (fun _ _=>True) (fun j h=>j=i∧h.IsTupleIter it l j∧h.IsTuple l xs) where
  live:=fun _ _ st=>let ⟨o,ho,_⟩:=st.2.1; ⟨o,ho⟩
  frame:=fun _ _ _ st hk=>⟨st.1,st.2.1.at fun o e=>hk it (by simp) o e,let ⟨o,e,r⟩:=st.2.2; ⟨o,hk l (by simp) o e,r⟩⟩
  item:=fun j s Q E hi st hQ=>absurd st.1 (Nat.ne_of_lt hi)
  done:=fun s Q E st hE=>endT hh st.2.1 st.2.2 hx hE
theorem enumNew (l:Addr) (items:Array Value) (o:Obj) (ho:o.cls= .type "tuple") (n:Nat) (hd:o.data= .seq items n) :
    Meets (Builtin.«enumerate.__new__» ⟨[.type "enumerate",.ref l],[]⟩) (fun _ R s=>s.heap.get? l=some o∧
      R (.ok (.ret (.ref (s.heap.push { cls:=.type "tuple_iterator",data:=.fields #[.ref l,.int 0 0] }).objs.size)))
        { s with heap:=(s.heap.push { cls:=.type "tuple_iterator",data:=.fields #[.ref l,.int 0 0] }).push { cls:=.type "enumerate",data:=.fields #[.none,.bool false,.ref s.heap.objs.size,rawInt 0,.none,.none] } }) :=
  .of_wp fun prog w A R s h=>by
    obtain ⟨hp,g,d,tk,os⟩:=s
    obtain ⟨oc,od,dt,sl⟩:=o
    replace ho:oc= .type "tuple":=ho
    replace hd:dt= .seq items n:=hd
    subst ho hd
    obtain ⟨hl,h⟩:=h
    have hsub:=sub_enumerate
    have hL:Heap.IsTuple (Shared.heap ⟨hp,g,d,tk,os⟩) l items:=⟨_,hl,rfl,n,rfl⟩
    wp_walk using wpAny_loadPart' hl
    refine wpAny_stack_any fun st=>wpAny_pure ?_
    split
    · rename_i c _ _ _ _ _
      cases (c == Value.type "enumerate") <;> (wp_walk using wpAny_loadPart' hl,wpAny_pyIter_tuple hL) <;> exact ⟨_,rfl,h⟩
    · wp_walk using wpAny_loadPart' hl,wpAny_pyIter_tuple hL
      exact ⟨_,rfl,h⟩
theorem callEnumT {l:Addr} {items:Array Value} {Q:Value→Shared→Prop} (hL:s.heap.IsTuple l items)
    (h :∀ h',IsEnum h' (s.heap.objs.size + 1) s.heap.objs.size 0 .none→h'.IsTupleIter s.heap.objs.size l 0→h'.objs.size=s.heap.objs.size + 2→
      (∀ b o,s.heap.get? b=some o→h'.get? b=some o)→Q (.ref (s.heap.objs.size + 1)) { s with heap:=h' }) :
    wpAny (model prog w) A (call (.type "enumerate") [.ref l]) Q E s:=by
  obtain ⟨o,hl,hc,n,hd⟩:=hL
  refine callType_new F.called_enumerate (by decide) (F.typeCall_enumerate_1 _) (F.newCall_enumerate_1 _) (fun obj=>F.args_object_init_2 obj _) F.entry_enumerate_new (enumNew l items o hc n hd) ⟨hl, ?_⟩
  have hz:(s.heap.push { cls:=.type "tuple_iterator",data:=.fields #[.ref l,.int 0 0] }).objs.size=s.heap.objs.size + 1:=Heap.size_push ..
  show _∧_
  rw [hz]
  have he:IsEnum ((s.heap.push { cls:=.type "tuple_iterator",data:=.fields #[.ref l,.int 0 0] }).push
      { cls:=.type "enumerate",data:=.fields #[.none,.bool false,.ref s.heap.objs.size,rawInt 0,.none,.none] }) (s.heap.objs.size + 1) s.heap.objs.size 0 .none:=by
    have:=Heap.get?_push_size (s.heap.push { cls:=.type "tuple_iterator",data:=.fields #[.ref l,.int 0 0] })
      (o:={ cls:=.type "enumerate",data:=.fields #[.none,.bool false,.ref s.heap.objs.size,rawInt 0,.none,.none] }) rfl
    rw [hz] at this; exact this
  exact ⟨⟨_,he,rfl⟩,h _ he ⟨_,Heap.get?_push_of_some _ (Heap.get?_push_size _ rfl),rfl,rfl⟩ (by rw [Heap.size_push,hz]) fun b o x=>Heap.get?_push_of_some _ (Heap.get?_push_of_some _ x)⟩
end LE
namespace L2
open PySem PySem.Spec PyProof.Rows
section
variable {X:Cx} {pins:List (Addr×Obj)} {σ:St} {H:Hp} {s:Shared} {h':Heap}
theorem Inv.turnNew {t':Nat} {ch:List Addr} {T:Addr} {u:HO} (I:Inv X pins σ H s)
    (hch:∀ b∈ch,(b∈X.ex∨X.s₀.heap.objs.size≤b)∧b≠X.env.locals∧(∀ x c,X.env.cells.lookup x=some c→c≠b)∧∀ p∈X.pn ++ pins,p.1≠b) (hn:∀ b∈ch,H b=none)
    (k:∀ b o,b∉ ch→s.heap.get? b=some o→h'.get? b=some o) (hT:s.heap.objs.size≤T) (new:ObjOk X.prog X.w (upd H T u) h' T u):Inv X pins σ (upd H T u) { s with heap:=h',toks:=t' }:=by
  have fT:H T=none:=I.hok.fresh hT
  have nT:∀ {b o},s.heap.get? b=some o→b≠T:=fun q=>Nat.ne_of_lt (Nat.lt_of_lt_of_le (Heap.lt_size q) hT)
  have nit:∀ b u,H b=some u→b∉ ch:=fun b u e z=>by rw [hn b z] at e; cases e
  refine I.step (g':=s.gens) (d':=s.drawn) (ch:=ch) hch (fun b o _ _ hc e _=>k b o hc e) (fun b o _ _ hc e _=>⟨o.slots,k b o hc e⟩) (fun b o _ q n=>by rw [upd_ne (nT q)]; exact n)
    (fun b o hc e=>⟨o,k b o hc e⟩) (fun b xs e=>by rw [upd_ne (ne_of_none e fT)]; exact e) (fun b o v e=>by rw [upd_ne (ne_of_none e fT)]; exact e) (fun b ps e=>⟨#[],by rw [upd_ne (ne_of_none e fT),e]; simp⟩) (fun m hm=>?_) (fun b v e=>?_) I.bare
  · obtain ⟨o,es,ep,ho,r⟩:=hm
    exact ⟨o,es,ep,k _ o (fun z=>(hch _ z).2.1 rfl) ho,r⟩
  · by_cases hb:b=T
    · subst hb
      rw [upd_same] at e
      cases e
      exact new
    · rw [upd_ne hb] at e
      refine (I.hok b v e).stay (fun c v hc q=>k c v ?_ q) (fun c q=>by rw [upd_ne (ne_of_none q fT)]; exact q) fun c xs q=>by rw [upd_ne (ne_of_none q fT)]; exact q
      rcases hc with z | z
      · rw [z]; exact nit b _ e
      · exact nit c _ z
noncomputable def Ite (K:PySem.W.Frag) (a:Addr):It :=
  ⟨fun i H=>∃ xs x,SqT K H a xs∧xs[i]? =some x,fun i H x H'=>∃ T v,x= .ref T∧H T=none∧H'=upd H T (.tup [.int i,v])∧∀ xs,SqT K H a xs→xs[i]? =some v,fun i H=>∃ xs,SqT K H a xs∧xs.length≤i⟩
theorem turn_enum {P:Program} {w:World} {K:PySem.W.Frag} {es:List Expr} {x1} {tp:Pos} (a e it:Addr) (hei:e≠it) (hai:a≠it) (hae:a≠e) :
    Turn P w K (.Tuple es x1 tp) (Ite K a) [e,it] e (fun i h=>(∃ old,IsEnum h e it ((i:Nat):Int) old)∧h.IsTupleIter it a i) where
  mem:=by simp
  obj :=fun i h st b hb=>by
    obtain ⟨⟨old,h1⟩,o,h2,c,d⟩:=st
    rcases List.mem_cons.mp hb with rfl | hb
    · exact ⟨_,h1,fun v z=>by have z':Data.fields _=Data.cell v:=z; cases z'⟩
    · have e':b=it:=by simpa using hb
      subst e'
      exact ⟨o,h2,fun v z=>by rw [d] at z; cases z⟩
  keep:=fun i h h' st k=>⟨let ⟨old,q⟩:=st.1; ⟨old,k e (by simp) _ q⟩,st.2.at fun o q=>k it (by simp) o q⟩
  item := by
    intro X hP hw hK hc i pins s σ H E I hf st hg
    subst hP hw hK
    obtain ⟨xs,x,hq,hx⟩:=hg
    obtain ⟨its,rv,p,hz⟩:=I.tuple hq
    obtain ⟨u,hu,ru⟩:=rv.get hx
    obtain ⟨⟨old,he⟩,hit⟩:=st
    have hi:i < its.toArray.size:=by
      have:=(List.getElem?_eq_some_iff.mp hu).1
      simpa using this
    have D:=LE.drawsT (prog:=X.prog) (w:=X.w) (A:=X.A.in1) (I.ok.hd hc) it a hai its.toArray
    refine wpAny_pyNext_enum_itemD (A:=X.A) D he ⟨hit,(show s.heap.IsTuple a its.toArray from p)⟩ hi hei (by simp [hei,Ne.symm hae]) fun y h1 tk hy ho hs' hT hsz hk=>?_
    refine ⟨_,rfl,wpAny_letOwnedTupleGo_enum ho fun h2 he2 sb=>?_⟩
    have hy':y=u:=by
      have z:its.toArray[i]? =some u:=by simpa using hu
      exact Option.some.inj (hy.symm.trans z)
    subst hy'
    have hTe:s.heap.objs.size≠e:=Nat.ne_of_gt (Heap.lt_size he)
    have gT:h2.get? s.heap.objs.size=some { cls:=.type "tuple",data:=.seq #[.int i tk,y] }:=(sb.2 _ hTe).trans hT
    refine ⟨.ref s.heap.objs.size,upd H s.heap.objs.size (.tup [.int i,x]),I.turnNew (ch:=[e,it]) (h':=h2) (fun b hb=>?_) (fun b hb=>(hf b hb).1) (fun b o hb q=>?_) (Nat.le_refl _) ?_,rfl,⟨_,x,rfl,I.hok.fresh (Nat.le_refl _),rfl,fun ys hy=>by rw [I.tuple_inj hy hq]; exact hx⟩,⟨⟨_,by simpa using he2⟩, ?_⟩,fun b hb=>?_⟩
    · obtain ⟨f0,f1,f2,f3,f4,f5⟩:=hf b hb
      exact ⟨f3,f1,f4,f5⟩
    · simp only [List.mem_cons,List.not_mem_nil,or_false,not_or] at hb
      exact (sb.2 b hb.1).trans (hk b o hb.1 hb.2 q)
    · exact ⟨by show 2≤sizeLine; decide,[.int i tk,y],.cons ⟨tk,rfl⟩ (.cons ru .nil),IsTupN.at gT⟩
    · exact hs'.1.at fun o q=>(sb.2 it (Ne.symm hei)).trans q
    · have hl:∀ b,b∈ [e,it]→b≠s.heap.objs.size:=fun b hb z=>by
        rcases List.mem_cons.mp hb with r | r
        · exact hTe (z▸r)
        · obtain ⟨o,q,_⟩:=hit
          have r':b=it:=by simpa using r
          have l:=Heap.lt_size q
          rw [←r',z] at l
          exact absurd l (Nat.lt_irrefl _)
      rw [upd_ne (hl b hb)]
      exact (hf b hb).1
  done:=by
    intro X hP hw hK hc i pins s σ H E I hf st hg
    subst hP hw hK
    obtain ⟨xs,hq,hx⟩:=hg
    obtain ⟨its,rv,p,hz⟩:=I.tuple hq
    obtain ⟨⟨old,he⟩,hit⟩:=st
    obtain ⟨f0,f1,f2,f3,f4,f5⟩:=hf it (by simp)
    have hl:=rv.length
    have hx':its.toArray[i]? =none:=by simp; omega
    refine wpAny_pyNext_enum_endD (A:=X.A) (LE.drawsZ (prog:=X.prog) (w:=X.w) (A:=X.A.in1) (I.ok.hd hc) it a i its.toArray hx') he ⟨rfl,hit,(show s.heap.IsTuple a its.toArray from p)⟩ fun h' eb=>⟨rfl,I.turned (t':=s.toks) (fun b o hb e=>eb b o hb e) f0 f1 f3 f4 f5⟩
  self:=fun _ _ _ _ _ st h=>let ⟨_,q⟩:=st.1; wpAny_pyIter_enum q h
noncomputable def iEnum (K:PySem.W.Frag) (ta:TA):TI:=fun σ H R=>ta σ H fun vs H1=>∃ a,vs=[.ref a]∧(∃ xs,SqT K H1 a xs)∧R (Ite K a) H1
theorem pi_enum {es:List Expr} {x1} {tp:Pos} {e:Expr} {ta:TA} {p pos:Pos} (hg:Gl X "enumerate") (hm:X.mg "enumerate"=none) (ha:PA X [e] ta) (hs:starEach [e] X.env=[(false,eval e X.env)]:=by rfl) :
    PI X (.Tuple es x1 tp) (.Call (.Name "enumerate" p) [e] [] pos) (iEnum X.K ta):=by
  intro pins s σ H R I h
  refine Call_ (ld_blt I hg hm boot_enumerate (PyProof.Rows.callWith_type1 (thn (ha pos pins s σ H _ I h) fun us s1 ⟨vs,H1,I1,r1,q1⟩=>?_) hs rfl))
  obtain ⟨a,e,⟨xs,hq⟩,q⟩:=q1
  subst e
  obtain ⟨u,rfl,r⟩:=vals1 r1
  cases r
  obtain ⟨its,rv,ht,hz⟩:=I1.tuple hq
  have ht':s1.heap.IsTuple a its.toArray:=ht
  have hl:a < s1.heap.objs.size:=let ⟨o,e,_⟩:=ht'; Heap.lt_size e
  refine LE.callEnumT ht' fun h' he hit hsz k=>?_
  have I2:Inv X pins σ H1 { s1 with heap:=h' }:=I1.kept (t':=s1.toks) k
  refine wpAny_pyIter_enum (s:={ s1 with heap:=h' }) he ?_
  refine ⟨s1.heap.objs.size + 1,[s1.heap.objs.size + 1,s1.heap.objs.size],_,_,H1,rfl,I2,turn_enum a _ _ (Nat.succ_ne_self _) (Nat.ne_of_lt hl) (Nat.ne_of_lt (Nat.lt_succ_of_lt hl)),⟨⟨_,he⟩,hit⟩,fun b hb=>?_,q⟩
  have hb':s1.heap.objs.size≤b:=by
    rcases List.mem_cons.mp hb with z | z
    · rw [z]; exact Nat.le_succ _
    · have z':b=s1.heap.objs.size:=by simpa using z
      exact Nat.le_of_eq z'.symm
  exact I1.fpOk hb' (I1.hok.fresh hb')
end
end L2
namespace L2
open PySem PySem.Spec PyProof.Rows
section
variable {X:Cx}
theorem IxR.imp {r r':R2} (h:IxR X r) (f:∀ x y H Q,r' x y H Q→r x y H Q):IxR X r':=fun value slice pins s σ H x y v u Q I rx ry q hs=>h value slice pins s σ H x y v u Q I rx ry (f _ _ _ _ q) hs
theorem CallR.imp {g:Value} {r r':List V→Hp→VK→Prop} (h:CallR X g r) (f:∀ x H Q,r' x H Q→r x H Q):CallR X g r':=fun pins s σ H xs us Q I rs q=>h pins s σ H xs us Q I rs (f _ _ _ q)
theorem PG.imp {e:Expr} {t t':TG} (h:PG X e t) (f:∀ v σ H Q,t' v σ H Q→t v σ H Q):PG X e t':=fun pins s σ H v u Q I r q=>h pins s σ H v u Q I r (f _ _ _ _ q)
theorem PI.imp {tg it:Expr} {t t':TI} (h:PI X tg it t) (f:∀ σ H R,t' σ H R→t σ H R):PI X tg it t':=fun pins s σ H R I q=>h pins s σ H R I (f _ _ _ q)
end
theorem ixN_0 {n:Nat}:ixN (n + 1) 0=some 0:=by unfold ixN; rw [if_pos (by decide),if_pos (by omega)]; rfl
theorem ixN_1 {n:Nat}:ixN (n + 2) 1=some 1:=by unfold ixN; rw [if_pos (by decide),if_pos (by omega)]; rfl
theorem ixN_2 {n:Nat}:ixN (n + 3) 2=some 2:=by unfold ixN; rw [if_pos (by decide),if_pos (by omega)]; rfl
theorem upd_some {H:Hp} {p q:Addr} {o u:HO} (h:H q=some u) (n:H p=none):upd H p o q=some u:=by rw [upd_ne (ne_of_none h n)]; exact h
theorem same_new {H:Hp} {p:Addr} (h:H p=none) (o:HO):Same H (upd H p o):=fun b u q=>upd_some q h
noncomputable def tyN (H:Hp):V→Option String
  | .non=>some "NoneType"
  | .bl _=>some "bool"
  | .int _=>some "int"
  | .str _=>some "str"
  | .ref a=>match H a with
    | some (.lst _)=>some "list"
    | some (.tup _)=>some "tuple"
    | some (.dK _)=>some "dict"
    | _=>none
  | _=>none
noncomputable def isTy (n T:String):Bool:=n == T || (n == "bool" && T == "int")
noncomputable def okTs:List String:=["int","bool","tuple","str","list","dict"]
noncomputable def okNs:List String:=["NoneType","bool","int","str","list","tuple","dict"]
theorem tyN_of {K:PySem.W.Frag} {H:Hp} {x:V} {n:String} (h:tyN H x=some n):TyOf K H x (.type n):=by
  unfold tyN at h
  split at h
  · cases h; exact .non
  · cases h; exact .bl _
  · cases h; exact .int _
  · cases h; exact .str _
  · split at h
    · rename_i e; cases h; exact .lst e
    · rename_i e; cases h; exact .tup e
    · rename_i e; cases h; exact .dK e
    · cases h
  · cases h
theorem kit_ok (K:PySem.W.Frag):∀ n∈okNs,∀ T∈okTs,PySem.W.kitOne K (.type n) (.type T)=some (isTy n T):=by
  intro n hn T hT
  simp only [okNs,okTs,List.mem_cons,List.not_mem_nil,or_false] at hn hT
  rcases hn with rfl | rfl | rfl | rfl | rfl | rfl | rfl <;> rcases hT with rfl | rfl | rfl | rfl | rfl | rfl <;> rfl
theorem OpR.imp {X:Cx} {f:Value→Value→Sem Value} {r r':R2} (h:OpR X f r) (g:∀ x y H Q,r' x y H Q→r x y H Q):OpR X f r':=fun pins s σ H x y v u Q I rx ry q=>h pins s σ H x y v u Q I rx ry (g _ _ _ _ q)
theorem absI (i:Int):(if i < 0 then -i else i)=(i.natAbs:Int):=by split <;> omega
theorem call_absN {X:Cx}:CallR X (.builtin "abs") (fun xs H Q=>∃ i,xs=[.int i]∧Q (.int (i.natAbs:Int)) H):=call_abs.imp fun _ _ _ ⟨i,a,q⟩=>⟨i,a,by rw [absI]; exact q⟩
theorem cast0:((0:Nat):Int)=0:=rfl
theorem cast1:((1:Nat):Int)=1:=rfl
theorem cast2:((2:Nat):Int)=2:=rfl
theorem cast3:((3:Nat):Int)=3:=rfl
end L2
namespace L2
open PySem PySem.Spec PyProof.Rows
section
variable {prog:Program} {w:World} {A:Around} {R:Result→Shared→Prop} {s:Shared}
noncomputable abbrev NoE:Value→Shared→Prop:=fun _ _=>False
theorem compLoopG {elt target iter:Expr} {ifs:List Expr} {scope:Scope} {pos:Pos} {it acc:Value} {env:Env} (I:Nat→Shared→Prop)
    (turn : ∀ n s,I n s→wpAny (model prog w) A (pyNext it) (fun r s₁=>match r with
      | none=>R (.ok .next) s₁
      | some v=>wpAny (model prog w) A (letOwnedTupleGo target it v) (fun _ s₁'=>wpAny (model prog w) A (assign target env v) (fun _ s₂ =>
          wpAny (model prog w) A (forIn ifs true fun c r=>if r=true then do let ok ←isTrue c env (eval c env); pure (ForInStep.yield ok) else pure (ForInStep.yield r)) (fun ok s₃ =>
            if ok=true then wpAny (model prog w) A (eval elt env) (fun x s₄=>wpAny (model prog w) A (call (.builtin "list.append") [acc,x]) (fun _ s₅=>∃ m,m < n∧I m s₅) NoE s₄) NoE s₃
            else ∃ m,m < n∧I m s₃) NoE s₂) NoE s₁') NoE s₁) NoE s) (n:Nat) (h:I n s) :
    codeAny (model prog w) A (.compLoop (.ListComp elt [⟨target,iter,ifs,0⟩] scope pos) 0 it acc env) R s:=by
  refine codeAny_loop rfl I (fun n s hI=>?_) n h
  refine wpAny_noted (m:=compTurn (.ListComp elt [⟨target,iter,ifs,0⟩] scope pos) 0 it acc env) ?_
  rw [compTurn_list]
  refine wpAny_bind (wpAny_standAt (wpAny_bind (wpAny_mono (turn n s hI) (fun r s₁ h₁=>?_) fun _ _ f=>f.elim)))
  cases r with
  | none=>exact wpAny_pure h₁
  | some v =>
    refine wpAny_bind (wpAny_mono h₁ (fun _ s₁' h₁'=>?_) fun _ _ f=>f.elim)
    refine wpAny_bind (wpAny_mono h₁' (fun _ s₂ h₂=>wpAny_bind (wpAny_mono h₂ (fun ok s₃ h₃=>?_) fun _ _ f=>f.elim)) fun _ _ f=>f.elim)
    cases ok with
    | false=>exact wpAny_pure ⟨rfl,h₃⟩
    | true =>
      exact wpAny_bind (wpAny_bind (wpAny_mono h₃ (fun x s₄ h₄=>wpAny_bind (wpAny_mono h₄ (fun _ s₅ h₅=>wpAny_pure (wpAny_pure ⟨rfl,h₅⟩)) fun _ _ f=>f.elim)) fun _ _ f=>f.elim))
end
noncomputable def FreeOk (cl cells:List (Str×Addr)):List (Str×NameKind)→Prop
  | []=>True
  | (n,k) :: r=>(k= .free→∃ c,cl.lookup n=some c∧cells.lookup n=some c)∧FreeOk cl cells r
noncomputable def ClOk (cells:List (Str×Addr)):List (Str×Addr)→Prop
  | []=>True
  | (n,c) :: r=>cells.lookup n=some c∧ClOk cells r
theorem ClOk.look {cells:List (Str×Addr)}:∀ {cl:List (Str×Addr)} {x:Str} {c:Addr},ClOk cells cl→cl.lookup x=some c→cells.lookup x=some c
  | [],_,_,_,h=>by cases h
  | (n,c') :: r,x,c,ok,h=>by
    cases hx:x == n with
    | true =>
      rw [List.lookup_cons,hx] at h
      cases h
      rw [beq_iff_eq.mp hx]; exact ok.1
    | false =>
      rw [List.lookup_cons,hx] at h
      exact ClOk.look ok.2 h
theorem FreeOk.look {cl cells:List (Str×Addr)} {f:Str×NameKind→Str×NameKind} (hf:∀ y,(f y).1=y.1∧((f y).2= .cell∨(f y).2= .free→y.2= .cell∨y.2= .free)):∀ {names:List (Str×NameKind)} {x:Str},FreeOk cl cells names→
    ((names.map f).lookup x=some .cell∨(names.map f).lookup x=some .free)→(∃ c,cl.lookup x=some c)∨(x,NameKind.cell)∈names
  | [],_,_,h=>by rcases h with h | h <;> cases h
  | (n, k) :: r,x,ok,h=>by
    have h1:=hf (n,k)
    rw [List.map_cons] at h
    cases hx:x == (f (n,k)).1 with
    | true =>
      have e:List.lookup x (f (n,k) :: r.map f)=some (f (n,k)).2:=by rw [List.lookup_cons,hx]
      rw [e] at h
      have hk:k= .cell∨k= .free:=h1.2 (h.imp Option.some.inj Option.some.inj)
      rcases hk with hk | hk
      · subst hk
        rw [beq_iff_eq.mp hx,h1.1]
        exact .inr (List.mem_cons_self ..)
      · obtain ⟨c,q,_⟩:=ok.1 hk
        rw [beq_iff_eq.mp hx,h1.1]; exact .inl ⟨c,q⟩
    | false =>
      have e:List.lookup x (f (n,k) :: r.map f)=List.lookup x (r.map f):=by rw [List.lookup_cons,hx]
      rw [e] at h
      exact (FreeOk.look hf ok.2 h).imp_right fun z=>List.mem_cons_of_mem _ z
theorem cellsFrom_app:∀ (names:List (Str×NameKind)) (n:Nat) (acc:List (Str×Addr)),cellsFrom n names acc=cellsFrom n names [] ++ acc
  | [],_,_=>rfl
  | (y,k) :: r,n,acc=>by
    unfold cellsFrom
    split
    · rw [cellsFrom_app r (n + 1) ((y,n) :: acc),cellsFrom_app r (n + 1) [(y,n)],List.append_assoc]; rfl
    · exact cellsFrom_app r n acc
theorem cellsFrom_mem:∀ {names:List (Str×NameKind)} {n:Nat} {acc:List (Str×Addr)} {x:Str} {c:Addr},(x,c)∈cellsFrom n names acc→(x,c)∈acc∨((x,NameKind.cell)∈names∧n≤c)
  | [],_,_,_,_,h=>.inl h
  | (y, k) :: r,n,acc,x,c,h=>by
    unfold cellsFrom at h
    split at h
    · rename_i hk
      rcases cellsFrom_mem h with z | ⟨z,l⟩
      · rcases List.mem_cons.mp z with e | z
        · cases e; rw [beq_iff_eq.mp hk]; exact .inr ⟨List.mem_cons_self ..,Nat.le_refl _⟩
        · exact .inl z
      · exact .inr ⟨List.mem_cons_of_mem _ z,Nat.le_of_succ_le l⟩
    · rcases cellsFrom_mem h with z | ⟨z,l⟩
      · exact .inl z
      · exact .inr ⟨List.mem_cons_of_mem _ z,l⟩
theorem cellsFrom_has:∀ {names:List (Str×NameKind)} {n:Nat} {acc:List (Str×Addr)} {x:Str},(x,NameKind.cell)∈names∨(∃ c,(x,c)∈acc)→∃ c,(x,c)∈cellsFrom n names acc
  | [],_,_,_,h=>by
    rcases h with h | h
    · cases h
    · exact h
  | (y, k) :: r,n,acc,x,h=>by
    unfold cellsFrom
    split
    · refine cellsFrom_has ?_
      rcases h with h | ⟨c,h⟩
      · rcases List.mem_cons.mp h with e | h
        · cases e; exact .inr ⟨n,List.mem_cons_self ..⟩
        · exact .inl h
      · exact .inr ⟨c,List.mem_cons_of_mem _ h⟩
    · rename_i hk
      refine cellsFrom_has (h.imp_left fun h=>?_)
      rcases List.mem_cons.mp h with e | h
      · cases e; exact absurd rfl hk
      · exact h
theorem look_of_mem {l:List (Str×Addr)} {x:Str}:(∃ c,(x,c)∈l)→∃ c,l.lookup x=some c:=by
  induction l with
  | nil=>rintro ⟨_,h⟩; cases h
  | cons p r ih =>
    rintro ⟨c,h⟩
    rw [List.lookup_cons]
    cases hb:x == p.1 with
    | true=>exact ⟨p.2,rfl⟩
    | false =>
      rcases List.mem_cons.mp h with e | h
      · rw [←e] at hb; rw [beq_self_eq_true] at hb; cases hb
      · exact ih ⟨c,h⟩
theorem cells_look {n:Nat} {names:List (Str×NameKind)} {cl:List (Str×Addr)} {x:Str} {c:Addr} (h:(cellsFrom n names cl).lookup x=some c):((x,c)∈cellsFrom n names []∧(x,NameKind.cell)∈names∧n≤c)∨cl.lookup x=some c:=by
  rw [cellsFrom_app,List.lookup_append] at h
  cases e:(cellsFrom n names []).lookup x with
  | none=>rw [e] at h; exact .inr h
  | some d =>
    rw [e] at h; cases h
    have m:=PySem.mem_of_lookup e
    rcases cellsFrom_mem m with z | z
    · cases z
    · exact .inl ⟨m,z⟩
theorem cells_cap {n:Nat} {names:List (Str×NameKind)} {cl:List (Str×Addr)} {x:Str} {c:Addr} (hx:(x,NameKind.cell)∉ names) (h:cl.lookup x=some c):(cellsFrom n names cl).lookup x=some c:=by
  rw [cellsFrom_app,List.lookup_append]
  cases e:(cellsFrom n names []).lookup x with
  | none=>exact h
  | some d =>
    rcases cellsFrom_mem (PySem.mem_of_lookup e) with z | z
    · cases z
    · exact absurd z.1 hx
theorem cells_own {n:Nat} {names:List (Str×NameKind)} {cl:List (Str×Addr)} {x:Str} (h:(x,NameKind.cell)∈names):∃ c,(cellsFrom n names cl).lookup x=some c∧n≤c:=by
  obtain ⟨c,e⟩:=look_of_mem (cellsFrom_has (n:=n) (acc:=[]) (.inl h))
  refine ⟨c,by rw [cellsFrom_app,List.lookup_append,e]; rfl, ?_⟩
  rcases cellsFrom_mem (PySem.mem_of_lookup e) with z | z
  · cases z
  · exact z.2
noncomputable def ownB (scope:Scope) (x:Str):Bool:=scope.names.contains (x,NameKind.cell)
theorem newEnv_comp {M:Model} {A:Around} {E:Value→Shared→Prop} {s:Shared} {scope:Scope} {globals:Addr} {cl:List (Str×Addr)} {qual:Str} {env:Env} {Q:Env→Shared→Prop}
    (hQ:Q (newEnv scope s.heap.objs.size globals (cellsFrom (s.heap.objs.size + 1) scope.names cl) qual none .none (some env) builtinsNs) { s with heap:=pushCells (s.heap.push { cls:=.type "dict",data:=.dict #[] }) scope.names }) :
    wpAny M A (newFunctionEnv scope globals cl [] qual none .none (some env)) Q E s:=by
  simp only [newFunctionEnv,Option.isSome_some,if_true]
  refine wpAny_bind (wpAny_alloc ?_)
  refine wpAny_bind (wpAny_layCells _ (fun name kind cells=>by cases hkc:kind == NameKind.cell <;> simp [hkc]) _ _ _ _ ?_)
  rw [show ({ s with heap:=s.heap.push { cls:=.type "dict",data:=.dict #[] } }:Shared).heap.objs.size=s.heap.objs.size + 1 from Heap.size_push ..]
  rw [List.forIn_nil]
  exact wpAny_bind (wpAny_pure (wpAny_pure hQ))
noncomputable def cxC (X:Cx) (N:List Str) (scope:Scope) (cl:List (Str×Addr)) (C:Addr) (s₀:Shared) (H₀:Hp) (ex:List Addr):Cx :=
  { X with N:=N,s₀:=s₀,H₀:=H₀,env:=compEnvC scope (cellsFrom (C + 1) scope.names cl) C X.env,outer:=X.stack,stack:=X.stack,ex:=ex,fn:=ownB scope,pn:=[],xe:=NoE }
noncomputable def capS (js:List (Option Nat)) (σ:St):St:=js.map fun o=>match o with | none=>none | some j=>(σ[j]?).getD none
noncomputable def CapOk (X:Cx) (scope:Scope) (cl:List (Str×Addr)):List Str→List (Option Nat)→Prop
  | [],[]=>True
  | _ :: N,none :: J=>CapOk X scope cl N J
  | x :: N,some j :: J=>(X.N[j]? =some x∧X.env.kindOf x=some .cell∧(relabel scope X.env).names.lookup x=some .cell∧∃ c,cl.lookup x=some c∧X.env.cells.lookup x=some c)∧CapOk X scope cl N J
  | _,_=>False
theorem CapOk.len {X:Cx} {scope:Scope} {cl:List (Str×Addr)}:∀ {N:List Str} {J:List (Option Nat)},CapOk X scope cl N J→N.length=J.length
  | [],[],_=>rfl
  | _ :: _,none :: _,h=>congrArg (· + 1) (CapOk.len (show CapOk X scope cl _ _ from h))
  | _ :: _,some _ :: _,h=>congrArg (· + 1) (CapOk.len h.2)
  | [],_ :: _,h=>h.elim
  | _ :: _,[],h=>h.elim
theorem CapOk.at {X:Cx} {scope:Scope} {cl:List (Str×Addr)}:∀ {N:List Str} {J:List (Option Nat)} {i:Nat} {x:Str} {σ:St} {v:V},CapOk X scope cl N J→N[i]? =some x→(capS J σ)[i]? =some (some v)→
    ∃ (j:Nat),σ[j]? =some (some v)∧X.N[j]? =some x∧X.env.kindOf x=some .cell∧(relabel scope X.env).names.lookup x=some .cell∧∃ c,cl.lookup x=some c∧X.env.cells.lookup x=some c
  | [],[],_,_,_,_,_,h,_=>by cases h
  | y :: N,none :: J,i,x,σ,v,ok,h,q=>by
    cases i with
    | zero=>cases q
    | succ i=>exact CapOk.at (show CapOk X scope cl N J from ok) h q
  | y :: N,some j :: J,i,x,σ,v,ok,h,q=>by
    cases i with
    | zero =>
      cases h
      refine ⟨j, ?_,ok.1⟩
      have q':some ((σ[j]?).getD none)=some (some v):=q
      have q2:=Option.some.inj q'
      cases e:σ[j]? with
      | none=>rw [e] at q2; cases q2
      | some o=>rw [e] at q2; exact congrArg some q2
    | succ i=>exact CapOk.at ok.2 h q
  | [],_ :: _,_,_,_,_,ok,_,_=>ok.elim
  | _ :: _,[],_,_,_,_,ok,_,_=>ok.elim
section
variable {X:Cx} {pins:List (Addr×Obj)} {σ:St} {H:Hp} {s:Shared} {N:List Str} {scope:Scope} {cl:List (Str×Addr)} {js:List (Option Nat)} {fp:List Addr}
structure BlockOk (X:Cx) (N:List Str) (scope:Scope) (cl:List (Str×Addr)) (js:List (Option Nat)):Prop where
  clos:closureFor scope X.env=pure cl
  own:∀ x,(x,NameKind.cell)∈scope.names→cl.lookup x=none
  kind:scope.kind= .function
  names:∀ y∈scope.names,y.2= .local→scope.names.lookup y.1=some .local
  free:FreeOk cl X.env.cells scope.names
  cls:ClOk X.env.cells cl
  cap:CapOk X scope cl N js
theorem block_start (S:BlockOk X N scope cl js) (I:Inv X pins σ H s) (hf:∀ b∈fp,FpOk X pins H b) (he:∀ b∈fp,b < s.heap.objs.size) {h':Heap} {m:Str→Option Value} {t':Nat} (hn:h'.Ns s.heap.objs.size m)
    (k:∀ b o,s.heap.get? b=some o→h'.get? b=some o) (hc:CellsOk h' (s.heap.objs.size + 1) (cellsFrom (s.heap.objs.size + 1) scope.names [])):Inv (cxC X N scope cl s.heap.objs.size s H fp) [] (capS js σ) H { s with heap:=h',toks:=t' }:=by
  have hcl:∀ x c,cl.lookup x=some c→X.env.cells.lookup x=some c:=fun x c h=>S.cls.look h
  have lo:∀ x c,cl.lookup x=some c→c < s.heap.objs.size:=fun x c h=>let ⟨_,q⟩:=I.cell x c (hcl x c h); q.lt
  refine ⟨⟨I.mod, ?_,I.ok.glob,I.ok.blt,Nat.le_refl _,fun x y c a b=>?_,fun x hx=>?_,fun x c z e=>?_,I.ok.hd,I.ok.frames,.inl rfl,fun b hb=>⟨Nat.ne_of_lt (he b hb),fun x c e=>?_⟩,
    I.bs,Nat.le_trans I.ok.bsz I.sz,fun b o e hb=>?_,fun b hb z=>?_,I.stack,I.stkFree⟩,rfl,I.bare,⟨fun b o q _ _ _=>k b o q,fun b o q _ _ _=>⟨o.slots,k b o q⟩,fun _ _ _ n _=>n,fun b o q _=>⟨o,k b o q⟩,fun _ _ q=>q,fun _ _ _ q=>q,fun b ps q=>⟨#[],by rw [show H b=_ from q]; simp⟩⟩, ?_,fun x c e=>?_, ?_,fun x c e=>?_,(fun p hp=>nomatch hp),I.hok.kept k, ?_⟩
  · exact S.kind
  · rcases cells_look a with ⟨m1,_,l1⟩ | a1 <;> rcases cells_look b with ⟨m2,_,l2⟩ | b1
    · exact name_of_addr hc.apart m1 m2
    · exact absurd (Nat.lt_of_lt_of_le (lo y c b1) (Nat.le_of_succ_le l1)) (Nat.lt_irrefl _)
    · exact absurd (Nat.lt_of_lt_of_le (lo x c a1) (Nat.le_of_succ_le l2)) (Nat.lt_irrefl _)
    · exact I.ok.inj x y c (hcl x c a1) (hcl y c b1)
  · have q:=FreeOk.look (f:=fun y=>if (y.2 == .free && X.env.scope.kind == .function && X.env.kindOf y.1 == some .cell) then (y.1,.cell) else (y.1,y.2)) (fun y=>by
      by_cases hc:(y.2 == .free && X.env.scope.kind == .function && X.env.kindOf y.1 == some .cell)=true
      · rw [if_pos hc]
        refine ⟨rfl,fun _=>.inr ?_⟩
        rw [Bool.and_eq_true,Bool.and_eq_true] at hc
        exact beq_iff_eq.mp hc.1.1
      · rw [if_neg hc]
        exact ⟨rfl,fun z=>z⟩) S.free hx
    rcases q with ⟨c,q⟩ | q
    · refine ⟨c,cells_cap (fun z=>?_) q⟩
      rw [S.own x z] at q; cases q
    · obtain ⟨c,e,_⟩:=cells_own (n:=s.heap.objs.size + 1) (cl:=cl) q
      exact ⟨c,e⟩
  · have z':(x,NameKind.cell)∈scope.names:=List.contains_iff_mem.mp z
    rcases cells_look e with ⟨_,_,l⟩ | q
    · exact Nat.le_of_succ_le l
    · rw [S.own x z'] at q; cases q
  · rcases cells_look e with ⟨_,_,l⟩ | q
    · exact Nat.ne_of_gt (Nat.lt_of_lt_of_le (he b hb) (Nat.le_of_succ_le l))
    · exact (hf b hb).2.2.2.2.1 x c (hcl x c q)
  · obtain ⟨_,n2⟩:=I.bs b o e
    rcases (hf b hb).2.2.2.1 with z | z
    · exact I.ok.noex b o e z
    · exact absurd (Nat.lt_of_lt_of_le (Heap.lt_size (I.ok.bs b o e).1) z) (Nat.lt_irrefl _)
  · obtain ⟨_,f1,f2,_⟩:=hf b hb
    exact (List.mem_cons.mp (I.stkSub b z)).elim f1 f2
  · obtain ⟨mX,hnX,hl⟩:=I.loc
    refine ⟨m,hn,fun i x v e1 e2 e3=>?_⟩
    obtain ⟨j,q1,q2,q3,q4,c,q5,q6⟩:=S.cap.at e1 e2
    obtain ⟨u,r,l⟩:=hl j x v q2 q1 (.inr (.inl q3))
    refine ⟨u,r,.inr ⟨.inl q4,c,cells_cap (fun z=>?_) q5, ?_⟩⟩
    · rw [S.own x z] at q5; cases q5
    rcases l with ⟨l,_⟩ | ⟨_,c',e',z⟩
    · rw [q3] at l; cases l
    · rw [q6] at e'; cases e'
      obtain ⟨o,ho,hd⟩:=z
      exact ⟨o,k _ _ ho,hd⟩
  · rcases cells_look e with ⟨m1,_,_⟩ | q
    · exact ⟨none,(hc.empty x c m1).1⟩
    · obtain ⟨v,o,ho,hd⟩:=I.cell x c (hcl x c q)
      exact ⟨v,o,k _ _ ho,hd⟩
  · exact I.hok.fresh (Nat.le_refl _)
  · rcases cells_look e with ⟨_,_,l⟩ | q
    · exact I.hok.fresh (Nat.le_of_succ_le l)
    · exact I.freeC x c (hcl x c q)
  · show (js.map _).length=N.length
    rw [List.length_map]; exact S.cap.len.symm
end
noncomputable def PTs (X:Cx) (ifs:List Expr) (t:TT):Prop :=
  ∀ (pins:List (Addr×Obj)) (s:Shared) (σ:St) (H:Hp) (Q:Bool→Hp→Prop),Inv X pins σ H s→t σ H Q→
    wpAny (model X.prog X.w) X.A (forIn ifs true fun c r=>if r=true then do let ok ←isTrue c X.env (eval c X.env); pure (ForInStep.yield ok) else pure (ForInStep.yield r)) (TP X pins σ Q) X.xe s
theorem pts_nil {X:Cx}:PTs X [] (fun _ H Q=>Q true H):=fun pins s σ H Q I h=>wpAny_tests_nil ⟨H,I,h⟩
theorem pts_one {X:Cx} {c:Expr} {t:TT} (h:PT X c t):PTs X [c] t:=fun pins s σ H Q I q=>wpAny_tests_one (h pins s σ H Q I q)
noncomputable def CompW (J:It) (D:Addr) (g:TG) (ts:TT) (te:TE) (Q:VK) (σ:St) (H:Hp):Prop:= ∃ W:Nat→Nat→St→Hp→Prop,(∃ m,W 0 m σ H)∧∀ i m σ' H',W i m σ' H'→
  (J.stop i H'∧Q (.ref D) H')∨(J.go i H'∧∃ N:St→Hp→Prop,(∀ σ2 H2,N σ2 H2→∃ m',m' < m∧W (i + 1) m' σ2 H2)∧∀ x H2,J.yld i H' x H2→g x σ' H2 fun σ3 H3=>ts σ3 H3 fun ok H4=>if ok=true then te σ3 H4 fun y H5 =>
    ∃ ys,H5 D=some (.lst ys)∧ys.length < sizeLine∧N σ3 (upd H5 D (.lst (ys ++ [y]))) else N σ3 H4)
noncomputable def tComp (wi:TI) (g:TG) (ts:TT) (te:TE) (js:List (Option Nat)):TE:=fun σ H Q=>wi σ H fun J H1=>∀ D,H1 D=none→CompW J D g ts te Q (capS js σ) (upd H1 D (.lst []))
section
variable {X:Cx} {pins:List (Addr×Obj)} {σ:St} {H:Hp} {s:Shared} {N:List Str} {scope:Scope} {cl:List (Str×Addr)} {js:List (Option Nat)} {fp:List Addr} {tg elt iter:Expr} {ifs:List Expr} {pos:Pos} {J:It} {it:Addr} {tn:Nat→Heap→Prop}
  {g:TG} {ts:TT} {te:TE}
structure Behind (X:Cx) (pins:List (Addr×Obj)) (σ:St) (Q:VK) (D C:Addr) (s':Shared):Prop where
  ex:∃ H' m,Inv X pins σ H' s'∧s'.heap.Ns C m∧H' C=none∧C≠X.env.locals∧C∉ X.fs∧X.s₀.heap.objs.size≤C∧(∀ x c,X.env.cells.lookup x=some c→c≠C)∧(∀ p∈X.pn ++ pins,p.1≠C)∧Q (.ref D) H'
theorem comp_run (S:BlockOk X N scope cl js) (hc:X.calm=true) (I:Inv X pins σ H s) (T:Turn X.prog X.w X.K tg J fp it tn) (st:tn 0 s.heap) (hf:∀ b∈fp,FpOk X pins H b)
    (hg:∀ C s₀ H₀ ex,PG (cxC X N scope cl C s₀ H₀ ex) tg g) (ht:∀ C s₀ H₀ ex,PTs (cxC X N scope cl C s₀ H₀ ex) ifs ts) (he:∀ C s₀ H₀ ex,PE (cxC X N scope cl C s₀ H₀ ex) elt te) {Q:VK}
    (q:∀ D,H D=none→CompW J D g ts te Q (capS js σ) (upd H D (.lst [])))
    {RR:Value→Addr→Result→Shared→Prop} (hR:∀ D C s',Behind X pins σ Q D C s'→RR (.ref D) C (.ok .next) s') {E:Value→Shared→Prop} :
    wpAny (model X.prog X.w) X.A (newList []) (fun acc s₃=>wpAny (model X.prog X.w) X.A (newFunctionEnv scope X.env.globals cl [] X.env.qual none .none (some X.env)) (fun cenv s₄ =>
      codeAny (model X.prog X.w) X.A (.compStart (.ListComp elt [⟨tg,iter,ifs,0⟩] scope pos) 0 (.ref it) acc { cenv with scope:=relabel scope X.env }) (RR acc cenv.locals) s₄) E s₃) E s:=by
  refine wpAny_newObj_type (newEnv_comp ?_)
  have fD:H s.heap.objs.size=none:=I.hok.fresh (Nat.le_refl _)
  have I3:Inv X pins σ (upd H s.heap.objs.size (.lst [])) { s with heap:=s.heap.push { cls:=.type "list",dict:=none,data:=.seq ([]:List Value).toArray },toks:=s.toks } :=
    I.laid (t':=s.toks) (fun b u e=>Heap.get?_push_of_some _ e) (Nat.le_refl _) ⟨Nat.zero_le _,[],0,.nil,Heap.get?_push_size _ rfl⟩
  have lt:∀ b∈fp,b < s.heap.objs.size:=fun b hb=>let ⟨o,e,_⟩:=T.obj _ _ st b hb; Heap.lt_size e
  have hf3:∀ b∈fp,FpOk X pins (upd H s.heap.objs.size (.lst [])) b:=fun b hb=>⟨by rw [upd_ne (Nat.ne_of_lt (lt b hb))]; exact (hf b hb).1,(hf b hb).2⟩
  dsimp only
  generalize hH2:s.heap.push { cls:=.type "list",dict:=none,data:=.seq ([]:List Value).toArray }=H2 at I3 ⊢
  have hns₁:(pushCells (H2.push { cls:=.type "dict",data:=.dict #[] }) scope.names).Ns H2.objs.size (fun _=>none):=(Heap.Ns.new H2 (.type "dict")).keeps (pushCells_keeps _ _)
  have hco:CellsOk (pushCells (H2.push { cls:=.type "dict",data:=.dict #[] }) scope.names) (H2.objs.size + 1) (cellsFrom (H2.objs.size + 1) scope.names []):=by
    have ok:=cellsFrom_ok scope.names (H2.push { cls:=.type "dict",data:=.dict #[] }) (H2.objs.size + 1) [] ⟨fun _ _ hm=>(nomatch hm),List.Pairwise.nil⟩ (by rw [Heap.size_push]; exact Nat.le_refl _)
    rw [Heap.size_push] at ok
    exact ok
  have keep:∀ b o,H2.get? b=some o→(pushCells (H2.push { cls:=.type "dict",data:=.dict #[] }) scope.names).get? b=some o:=fun b o e=>pushCells_keeps _ _ b o (Heap.get?_push_of_some _ e)
  generalize pushCells (H2.push { cls:=.type "dict",data:=.dict #[] }) scope.names=h₁ at hns₁ hco keep ⊢
  have hC:H2.objs.size=s.heap.objs.size + 1:=by rw [←hH2,Heap.size_push]
  have Ic:=block_start (t':=s.toks) S I3 hf3 (fun b hb=>by show b < H2.objs.size; rw [hC]; exact Nat.lt_succ_of_lt (lt b hb)) hns₁ keep hco
  obtain ⟨W,⟨m0,w0⟩,turn⟩:=q _ fD
  have stat:∀ {H':Hp},(∀ b∈fp,H' b=none)→∀ b∈fp,FpOk (cxC X N scope cl H2.objs.size { s with heap:=H2,toks:=s.toks } (upd H s.heap.objs.size (.lst [])) fp) [] H' b:=fun hn b hb =>
    ⟨hn b hb,Nat.ne_of_lt (by rw [hC]; exact Nat.lt_succ_of_lt (lt b hb)),fun z=>(List.mem_cons.mp (I.stkSub b z)).elim (hf b hb).2.1 (hf b hb).2.2.1,.inl hb,fun x c e=>(cells_look e).elim (fun z=>Nat.ne_of_gt (Nat.lt_of_lt_of_le (lt b hb) (Nat.le_trans (by rw [hC]; omega) z.2.2))) fun q=>(hf b hb).2.2.2.2.1 x c (S.cls.look q),(fun p hp=>nomatch hp)⟩
  have st1:tn 0 h₁:=T.keep _ _ _ st fun b hb o e=>keep b o (by rw [←hH2]; exact Heap.get?_push_of_some _ e)
  have loop:codeAny (model X.prog X.w) X.A (.compLoop (.ListComp elt [⟨tg,iter,ifs,0⟩] scope pos) 0 (.ref it) (.ref s.heap.objs.size) (compEnvC scope (cellsFrom (H2.objs.size + 1) scope.names cl) H2.objs.size X.env)) (RR (.ref s.heap.objs.size) H2.objs.size)
      { s with heap:=h₁,toks:=s.toks }:=by
    refine compLoopG (fun n s'=>∃ i σ' H',Inv (cxC X N scope cl H2.objs.size { s with heap:=H2,toks:=s.toks } (upd H s.heap.objs.size (.lst [])) fp) [] σ' H' s'∧tn i s'.heap∧(∀ b∈fp,H' b=none)∧W i n σ' H') ?_ m0
      ⟨0,_,_,Ic,st1,fun b hb=>(hf3 b hb).1,w0⟩
    rintro n s3 ⟨i,σ3,H3,I3',st3,fr3,w3⟩
    rcases turn i n σ3 H3 w3 with ⟨stop,qn⟩ | ⟨go,Nx,hN,step⟩
    · refine thn (T.done (cxC X N scope cl H2.objs.size { s with heap:=H2,toks:=s.toks } (upd H s.heap.objs.size (.lst [])) fp) rfl rfl rfl hc i [] s3 σ3 H3 NoE I3' (stat fr3) st3 stop) fun r s4 ⟨hr,I4⟩=>?_
      subst hr
      obtain ⟨mC,hnC,_⟩:=I4.loc
      have IX:Inv X pins σ H3 s4:=I3.call' (ch:=fp) I4.os I4.base I4.hok I4.bare fun b hb=>by
        obtain ⟨_,f1,_,f3,f4,f5⟩:=hf3 b hb
        exact ⟨f3,f1,f4,f5⟩
      have up:s.heap.objs.size≤H2.objs.size:=by rw [hC]; exact Nat.le_succ _
      have fp0:=I.fpOk (H':=H3) up I4.free
      exact hR _ _ s4 ⟨⟨H3,mC,IX,hnC,I4.free,fp0.2.1,fp0.2.2.1,Nat.le_trans I.sz up,fp0.2.2.2.2.1,fp0.2.2.2.2.2,qn⟩⟩
    · refine thn (T.item (cxC X N scope cl H2.objs.size { s with heap:=H2,toks:=s.toks } (upd H s.heap.objs.size (.lst [])) fp) rfl rfl rfl hc i [] s3 σ3 H3 NoE I3' (stat fr3) st3 go) fun r s4 ⟨u,hr,h4⟩=>?_
      subst hr
      refine thn h4 fun _ s5 ⟨x,H5,I5,r5,y5,st5,fr5⟩=>?_
      have I5':=I5.pinned (stat fr5) (T.obj _ _ st5)
      refine thn (hg _ _ _ _ _ s5 σ3 H5 x u _ I5' r5 (step x H5 y5)) fun _ s6 ⟨σ6,H6,I6,q6⟩=>?_
      refine thn (ht _ _ _ _ _ s6 σ6 H6 _ I6 q6) fun ok s7 ⟨H7,I7,q7⟩=>?_
      have again:∀ {σ8:St} {H8:Hp} {s8:Shared},Inv (cxC X N scope cl H2.objs.size { s with heap:=H2,toks:=s.toks } (upd H s.heap.objs.size (.lst [])) fp) ([] ++ pinsAt fp s5.heap) σ8 H8 s8→Nx σ8 H8→
          ∃ m,m < n∧∃ i σ' H',Inv (cxC X N scope cl H2.objs.size { s with heap:=H2,toks:=s.toks } (upd H s.heap.objs.size (.lst [])) fp) [] σ' H' s8∧tn i s8.heap∧(∀ b∈fp,H' b=none)∧W i m σ' H':=fun {σ8 H8 s8} I8 n8=>by
        obtain ⟨m',hm,w8⟩:=hN σ8 H8 n8
        refine ⟨m',hm,i + 1,σ8,H8,I8.unpinned,T.keep _ _ _ st5 fun b hb o e=>(I8.pin (b,o) (List.mem_append_right _ (List.mem_append_right _ (mem_pinsAt hb e)))).1,fun b hb=>?_,w8⟩
        obtain ⟨o,e,d⟩:=T.obj _ _ st5 b hb
        exact (I8.pin (b,o) (List.mem_append_right _ (List.mem_append_right _ (mem_pinsAt hb e)))).2.1
      cases ok with
      | false=>exact again I7 q7
      | true =>
        refine thn (he _ _ _ _ _ s7 σ6 H7 _ I7 q7) fun v s8 ⟨y,H8,I8,r8,ys,e8,l8,q8⟩=>?_
        exact thn (mt_append _ s8 σ6 H8 (.ref s.heap.objs.size) [y] (.ref s.heap.objs.size) [v] (fun _ H9=>Nx σ6 H9) I8 rfl (.cons r8 .nil) ⟨_,ys,y,rfl,rfl,e8,l8,q8⟩) fun _ s9 ⟨_,H9,I9,_,q9⟩=>again I9 q9
  exact codeAny_compStart_list loop (T.self _ 0 _ _ _ st1 loop)
theorem pe_comp {wi:TI} (S:BlockOk X N scope cl js) (hc:X.calm=true) (hi:PI X tg iter wi) (hg:∀ C s₀ H₀ ex,PG (cxC X N scope cl C s₀ H₀ ex) tg g) (ht:∀ C s₀ H₀ ex,PTs (cxC X N scope cl C s₀ H₀ ex) ifs ts) (he:∀ C s₀ H₀ ex,PE (cxC X N scope cl C s₀ H₀ ex) elt te)
    (hs:∀ x,foldedSetIterable iter X.env x=pure x:=by intro _; rfl):PE X (.ListComp elt [⟨tg,iter,ifs,0⟩] scope pos) (tComp wi g ts te js):=by
  intro pins s σ H Q I h
  rw [eval_ListComp]
  refine wpAny_comprehension_free (use:=none) (g:=⟨tg,iter,ifs,0⟩) (gs:=[]) rfl hs S.clos S.kind S.names (thn (hi pins s σ H _ I h) fun v s1 h1=>thn h1 fun itv s2 h2=>?_)
  obtain ⟨it,fp,tn,J,H2,e,I2,T,st2,f2,q⟩:=h2
  subst e
  refine comp_run (RR:=fun acc C=>compPost (model X.prog X.w) X.A X.xe none (EP X pins σ Q) acc C) S hc I2 T st2 f2 hg ht he q ?_
  rintro D C s' ⟨H',m,I',hn,f0,f1,_,f3,f4,f5,q'⟩
  exact ⟨m,hn,fun h' sb=>⟨.ref D,H',I'.turned (t':=s'.toks) (fun b o hb e=>(sb.2 b hb).trans e) f0 f1 (.inr f3) f4 f5,rfl,q'⟩⟩
theorem ps_setC {wi:TI} {i:Nat} {y:Str} {py spos:Pos} (S:BlockOk X N scope cl js) (hc:X.calm=true) (hN:X.N.Nodup) (hi':X.N[i]? =some y) (hy:X.env.scope.names.lookup y=some .local) (hi:PI X tg iter wi)
    (hg:∀ C s₀ H₀ ex,PG (cxC X N scope cl C s₀ H₀ ex) tg g) (ht:∀ C s₀ H₀ ex,PTs (cxC X N scope cl C s₀ H₀ ex) ifs ts) (he:∀ C s₀ H₀ ex,PE (cxC X N scope cl C s₀ H₀ ex) elt te)
    (hsw:swapsWith (.ListComp elt [⟨tg,iter,ifs,0⟩] scope pos) (some (.Name y py)) spos.line X.env=pure true:=by rfl)
    (hs:∀ x,foldedSetIterable iter X.env x=pure x:=by intro _; rfl):PS X (.Assign [.Name y py] (.ListComp elt [⟨tg,iter,ifs,0⟩] scope pos) spos) (tAsg (tComp wi g ts te js) (gName i)):=by
  intro pins s σ H D' I h
  rw [exec_Assign_Name_used _ _ _ _ hsw]
  refine wpAny_bind (wpAny_standAt (wpAny_bind ?_))
  show wpAny _ X.A (do let _ ←comprehension (.ListComp elt [⟨tg,iter,ifs,0⟩] scope pos) scope X.env _ (newList []) false (eval iter X.env) (some (assign (.Name y py) X.env))) _ _ s
  refine wpAny_bind (wpAny_mono (wpAny_comprehension_free (use:=some (assign (.Name y py) X.env)) (g:=⟨tg,iter,ifs,0⟩) (gs:=[]) (Q:=fun _ s'=>SP X pins D' .next s') rfl hs S.clos S.kind S.names
    (thn (hi pins s σ H _ I h) fun v s1 h1=>thn h1 fun itv s2 h2=>?_)) (fun _ s' hq=>wpAny_pure (wpAny_pure hq)) fun _ _ e=>e)
  obtain ⟨it,fp,tn,J,H2,e,I2,T,st2,f2,q⟩:=h2
  subst e
  refine comp_run (Q:=fun x H1=>gName i x σ H1 D'.nx) (RR:=fun acc C=>compPost (model X.prog X.w) X.A X.xe (some (assign (.Name y py) X.env)) (fun _ s'=>SP X pins D' .next s') acc C) S hc I2 T st2 f2 hg ht he q ?_
  rintro D C s' ⟨H',m,I',hn,f0,f1,f2',f3,f4,f5,q'⟩
  obtain ⟨oC,es,ep,hoC,hdC,hrC⟩:=hn
  have Ip:Inv X (pins ++ [(C,oC)]) σ H' s':=I'.pins_of fun p hp=>(List.mem_append.mp hp).elim (fun z=>I'.pin p (List.mem_append_right _ z)) fun z=>by
    rw [List.mem_singleton.mp z]
    exact ⟨hoC,f0,f1,f2',fun v z=>by rw [hdC] at z; cases z⟩
  show wpAny _ X.A (assign (.Name y py) X.env (.ref D)) _ _ _
  refine thn (pg_name (i:=i) hN hi' (.inl hy) (.inr hy) _ s' σ H' (.ref D) (.ref D) _ Ip rfl q') fun _ s'' ⟨σ',H'',I'',q''⟩=>?_
  have pc:=I''.pin (C,oC) (List.mem_append_right _ (List.mem_append_right _ (List.mem_singleton.mpr rfl)))
  refine ⟨m,⟨oC,es,ep,pc.1,hdC,hrC⟩,fun h' sb=>⟨σ',H'', ?_,q''⟩⟩
  exact (I''.unpinned).turned (t':=s''.toks) (fun b o hb e=>(sb.2 b hb).trans e) pc.2.1 f1 (.inr f3) f4 f5
end
end L2
namespace L2
open PySem PySem.Spec PyProof.Rows
mutual
inductive RdD (H:Hp):V→PyData→Prop
  | non:RdD H .non .none
  | bl (b:Bool):RdD H (.bl b) (.bool b)
  | int (i:Int):RdD H (.int i) (.int i)
  | str (x:Str):RdD H (.str x) (.str x)
  | tup {a:Addr} {xs:List V} {ds:List PyData}:H a=some (.tup xs)→RdDs H xs ds→RdD H (.ref a) (.tuple ds)
  | lst {a:Addr} {xs:List V} {ds:List PyData}:H a=some (.lst xs)→RdDs H xs ds→RdD H (.ref a) (.list ds)
inductive RdDs (H:Hp):List V→List PyData→Prop
  | nil:RdDs H [] []
  | cons {x:V} {xs:List V} {d:PyData} {ds:List PyData}:RdD H x d→RdDs H xs ds→RdDs H (x :: xs) (d :: ds)
end
section
variable {P:Program} {w:World} {H H':Hp} {h:Heap}
mutual
theorem RdD.reads (ok:HOk P w H h):∀ {x:V} {d:PyData} {u:Value},RdD H x d→RelV x u→∃ as,Reads h u d as
  | _,_,_,.non,r=>⟨[],by cases r; exact .none⟩
  | _,_,_,.bl b,r=>⟨[],by cases r; exact .bool b⟩
  | _,_,_,.int i,r=>⟨[],by obtain ⟨t,rfl⟩:=r; exact .int i t⟩
  | _,_,_,.str x,r=>⟨[],by obtain ⟨t,rfl⟩:=r; exact .str x t⟩
  | _,_,_,.tup e rs,r=>by
    cases r
    obtain ⟨_,its,rv,⟨o,ho,hc,n,hd⟩,_⟩:=ok _ _ e
    obtain ⟨as,q⟩:=RdDs.reads ok rs rv
    exact ⟨as,.tuple ho hc hd (by simpa using q)⟩
  | _,_,_,.lst e rs,r=>by
    cases r
    obtain ⟨_,its,n,rv,ho⟩:=ok _ _ e
    obtain ⟨as,q⟩:=RdDs.reads ok rs rv
    exact ⟨_ :: as,.list ho rfl rfl (by simpa using q)⟩
theorem RdDs.reads (ok:HOk P w H h):∀ {xs:List V} {ds:List PyData} {us:List Value},RdDs H xs ds→Vals xs us→∃ as,ReadsAll h us ds as
  | _,_,_,.nil,r=>⟨[],by cases r; exact .nil⟩
  | _, _,_,.cons a b,r=>by
    cases r with
    | cons r1 r2 =>
      obtain ⟨as,q⟩:=RdD.reads ok a r1
      obtain ⟨bs,q2⟩:=RdDs.reads ok b r2
      exact ⟨as ++ bs,.cons q q2⟩
end
mutual
theorem RdD.same (s:Same H H'):∀ {x:V} {d:PyData},RdD H x d→RdD H' x d
  | _,_,.non=>.non
  | _,_,.bl b=>.bl b
  | _,_,.int i=>.int i
  | _,_,.str x=>.str x
  | _,_,.tup e rs=>.tup (s _ _ e) (RdDs.same s rs)
  | _,_,.lst e rs=>.lst (s _ _ e) (RdDs.same s rs)
theorem RdDs.same (s:Same H H'):∀ {xs:List V} {ds:List PyData},RdDs H xs ds→RdDs H' xs ds
  | _,_,.nil=>.nil
  | _,_,.cons a b=>.cons (RdD.same s a) (RdDs.same s b)
end
end
section
variable {X:Cx}
end
end L2
namespace L2
open PySem PySem.Spec PyProof.Rows
section
variable {X:Cx} {CX:CXT} {k:Nat} {f C:Addr} {fd:FuncData} {ps ks:List Str} {sp:Sp} {E:XK} {pins:List (Addr×Obj)} {σ:St} {H:Hp} {s:Shared} {Q:VK} {us:List Value} {vs:List V} {dvs:List V} {ds:List Value}
theorem run_at {A':Around} (F:FnOk X.prog X.w X.K X.mg X.base CX k f fd ps sp) (hr:Room k A') (e0:Env0 X.prog X.w X.K X.mg X.base A' X.stack s H) (hb:Binds X.K fd ps ds) (hd:Vals dvs ds) (hx:Passes CX X E)
    (I:Inv X pins σ H s) (r:Vals vs us) (h:sp (vs ++ dvs) H Q E):wpAny (model X.prog X.w) A' (call (.ref f) us) (EP X pins σ Q) X.xe s:=by
  have r2:Vals (vs ++ dvs) (us ++ ds):=r.append hd
  have hl:(us ++ ds).length=ps.length:=by rw [←r2.length]; exact F.len _ _ _ _ h
  refine wpAny_call (codeAny_mono (F.run A' X.stack s H ⟨us,[]⟩ (us ++ ds) (vs ++ dvs) Q E hr e0 (hb s us I.kIn hl) r2 h) fun r s' hq=>?_)
  cases r with
  | error e=>exact hx pins σ H s e s' I hq
  | ok fl =>
    cases fl with
    | ret u=>exact I.after hq
    | next=>exact False.elim hq
    | brk=>exact False.elim hq
    | cont=>exact False.elim hq
theorem Room.in2 {k:Nat} {A:Around} (r:Room (k + 2) A):Room k A.in1.in1:=(Room.in1 (Room.in1 r))
end
structure OwnC (K:PySem.W.Frag) (C:Addr):Prop where
  cl:Cls K C
  ha:PySem.W.findIn K (.ref C) "__class__"=some (some (.builtin "object.__class__"))
  hn:PySem.W.specialIn K (.builtin "object.__class__") "__get__"=some (some (.builtin "getset_descriptor.__get__"))
  htk:PySem.W.takesIn K (.builtin "object.__class__")=some true
  hm:PySem.W.mroIn K C (.type "object")=some true
theorem inst_at {X:Cx} {pins:List (Addr×Obj)} {σ:St} {H:Hp} {s:Shared} {p C dx:Addr} {fs:List (Str×V)} (I:Inv X pins σ H s) (e:H p=some (.ins C dx fs)):∃ od,PySem.W.InstAt s.heap p (PySem.W.instObj C dx) C (some od):=by
  obtain ⟨mA,O,_⟩:=ins_get I.hok e
  obtain ⟨od,J,_⟩:=O.look
  exact ⟨od,J⟩
section
variable {X:Cx} {CX:CXT} {k:Nat} {f C:Addr} {fd:FuncData} {sp:Sp}
noncomputable def rLenI (C:Addr) (sp:Sp):List V→Hp→VK→Prop:=fun xs H Q=>∃ p dx fs,xs=[.ref p]∧H p=some (.ins C dx fs)∧sp [.ref p] H (fun v H'=>∃ n,v= .int n∧0≤n∧n < 2 ^ 63∧Q (.int n) H') E0
theorem call_lenI (M:Meth X.K C "__len__" f) (F:FnOk X.prog X.w X.K X.mg X.base CX0 k f fd ["self"] sp) (hr:Room (k + 1) X.A) (hb:Binds X.K fd ["self"] []):CallR X (.builtin "len") (rLenI C sp):=by
  intro pins s σ H xs us Q I r ⟨p,dx,fs,e,ea,q⟩
  subst e
  obtain ⟨u,rfl,ru⟩:=vals1 r
  cases ru
  obtain ⟨od,J⟩:=inst_at I ea
  obtain ⟨m,Fm⟩:=I.fr
  refine PySem.W.len_K Fm I.ok.mod.kin J M.at_ M.fn (thn (run_at (dvs:=[]) (ds:=[]) (vs:=[.ref p]) F hr.in1 I.env0.in1 hb .nil pass0 I (.cons rfl .nil) q) fun v s' ⟨x,H',I',rx,n,e,h0,h1,q'⟩=>?_)
  subst e
  obtain ⟨t,rfl⟩:=rx
  exact ⟨⟨h0,h1⟩,.int n,H',I'.tok _,⟨_,rfl⟩,q'⟩
noncomputable def rStrI (C:Addr) (sp:Sp):List V→Hp→VK→Prop:=fun xs H Q=>∃ p dx fs,xs=[.ref p]∧H p=some (.ins C dx fs)∧sp [.ref p] H (fun v H'=>∃ x,v= .str x∧Q (.str x) H') E0
theorem call_reprI (M:Meth X.K C "__repr__" f) (F:FnOk X.prog X.w X.K X.mg X.base CX0 k f fd ["self"] sp) (hr:Room (k + 1) X.A) (hb:Binds X.K fd ["self"] []):CallR X (.builtin "repr") (rStrI C sp):=by
  intro pins s σ H xs us Q I r ⟨p,dx,fs,e,ea,q⟩
  subst e
  obtain ⟨u,rfl,ru⟩:=vals1 r
  cases ru
  obtain ⟨od,J⟩:=inst_at I ea
  obtain ⟨m,Fm⟩:=I.fr
  refine PySem.W.repr_K hr.in1.units0 Fm I.ok.mod.kin J M.at_ M.fn (thn (run_at (dvs:=[]) (ds:=[]) (vs:=[.ref p]) F hr.in1 I.env0.in1 hb .nil pass0 I (.cons rfl .nil) q) fun v s' ⟨x,H',I',rx,y,e,q'⟩=>?_)
  subst e
  obtain ⟨t,rfl⟩:=rx
  exact ⟨.str y,H',I',⟨_,rfl⟩,q'⟩
theorem call_strI (M:Meth X.K C "__str__" f) (F:FnOk X.prog X.w X.K X.mg X.base CX0 k f fd ["self"] sp) (hr:Room (k + 2) X.A) (hb:Binds X.K fd ["self"] []):CallR X (.type "str") (rStrI C sp):=by
  intro pins s σ H xs us Q I r ⟨p,dx,fs,e,ea,q⟩
  subst e
  obtain ⟨u,rfl,ru⟩:=vals1 r
  cases ru
  obtain ⟨od,J⟩:=inst_at I ea
  refine PySem.W.kso_call hr.in2.units0 I.kIn J M.at_ M.fn (thn (run_at (dvs:=[]) (ds:=[]) (vs:=[.ref p]) F hr.in2 I.env0.in1.in1 hb .nil pass0 I (.cons rfl .nil) q) fun v s' ⟨x,H',I',rx,y,e,q'⟩=>?_)
  subst e
  obtain ⟨t,rfl⟩:=rx
  exact ⟨.str y,H',I',⟨_,rfl⟩,q'⟩
theorem truI {A':Around} {pins:List (Addr×Obj)} {σ:St} {H:Hp} {s:Shared} {p dx:Addr} {fs:List (Str×V)} {Q:Bool→Hp→Prop} (hB:PySem.W.findIn X.K (.ref C) "__bool__"=some none) (M:Meth X.K C "__len__" f)
    (F:FnOk X.prog X.w X.K X.mg X.base CX0 k f fd ["self"] sp) (hr:Room k A'.in1) (e0:Env0 X.prog X.w X.K X.mg X.base A'.in1 X.stack s H) (hb:Binds X.K fd ["self"] []) (I:Inv X pins σ H s) (ea:H p=some (.ins C dx fs))
    (q:sp [.ref p] H (fun v H'=>∃ n,v= .int n∧0≤n∧n < 2 ^ 63∧Q (n != 0) H') E0):wpAny (model X.prog X.w) A' (truthy (.ref p)) (TP X pins σ Q) X.xe s:=by
  obtain ⟨od,J⟩:=inst_at I ea
  have XK:=I.kIn
  unfold truthy
  refine wpAny_bind (m:=callSpecial? (.ref p) (Str.ofString "__bool__")) (wpAny_bind (wpAny_bind (J.type.here ((PySem.W.looks_findIn XK hB).here (wpAny_pure ?_)))))
  refine wpAny_bind (wpAny_bind (J.type.here ((PySem.W.looks_findIn XK M.at_).here ?_)))
  show wpAny _ _ (if (some (Value.ref f)).isNone=true then _ else _) _ _ _
  rw [if_neg (by simp)]
  refine wpAny_bind (wpAny_mono (Q:=fun r s'=>∃ n t,r=Value.int n t∧TP X pins σ Q (n != 0) s') ?_ (fun r s' h'=>?_) fun _ _ e=>e)
  · refine wpAny_runValue (codeAny_builtin entry_len ?_)
    rw [Around.under_plainId plain_len _]
    show wpAny _ _ (Builtin.«len» ⟨[.ref p],[]⟩) _ _ _
    unfold Builtin.«len»
    refine wpAny_bind (m:=oneArg "len" _) (wpAny_pure ?_)
    refine wpAny_bind (m:=callSpecial? (.ref p) (Str.ofString "__len__")) (PySem.W.special_fn XK J M.at_ (beq_iff_eq.mp M.fn) (thn (run_at (dvs:=[]) (ds:=[]) (vs:=[.ref p]) F hr e0 hb .nil pass0 I (.cons rfl .nil) q) fun v s' ⟨x,H',I',rx,n,e,h0,h1,q'⟩=>?_))
    subst e
    obtain ⟨t,rfl⟩:=rx
    refine wpAny_bind (wpAny_holding (wpAny_pure ?_))
    refine wpAny_bind (wpAny_letGo ?_)
    show wpAny _ _ (if n < 0 then _ else _) _ _ _
    rw [if_neg (by omega)]
    show wpAny _ _ (if n ≥ 2 ^ 63 then _ else _) _ _ _
    rw [if_neg (by omega)]
    exact wpAny_bind (wpAny_mkInt (wpAny_pure ⟨n,_,rfl,H',I'.tok _,q'⟩))
  · obtain ⟨n,t,rfl,q'⟩:=h'
    exact wpAny_pure q'
theorem bool_new_in {prog:Program} {w:World} (p:Addr):MeetsIn prog w (Builtin.«bool.__new__» ⟨[.type "bool",.ref p],[]⟩) (fun A R s=>wpAny (model prog w) A.in1 (truthy (.ref p)) (fun b s'=>R (.ok (.ret (.bool b))) s') (fun e s'=>R (.error e) s') s) :=
  fun A R s h=>by
    obtain ⟨hp,g,d,tk,os⟩:=s
    have f1:=PySem.F.conv_sub_bool
    have tr:∀ (Q:Bool→Shared→Prop),(∀ b s',R (.ok (.ret (.bool b))) s'→Q b s')→wpAny (model prog w) A.in1 (truthy (.ref p)) Q (fun e s'=>R (.error e) s') ⟨hp,g,d,tk,os⟩:=fun Q hq=>wpAny_mono h hq fun _ _ e=>e
    repeat (any_goals (first | assumption | with_reducible apply tr | wp_step))
    all_goals (intro b s' q; repeat (any_goals (first | assumption | wp_step)))
theorem call_boolI (hB:PySem.W.findIn X.K (.ref C) "__bool__"=some none) (M:Meth X.K C "__len__" f) (F:FnOk X.prog X.w X.K X.mg X.base CX0 k f fd ["self"] sp) (hr:Room (k + 3) X.A) (hb:Binds X.K fd ["self"] []) :
    CallR X (.type "bool") (fun xs H Q=>∃ p dx fs,xs=[.ref p]∧H p=some (.ins C dx fs)∧sp [.ref p] H (fun v H'=>∃ n,v= .int n∧0≤n∧n < 2 ^ 63∧Q (.bl (n != 0)) H') E0):=by
  intro pins s σ H xs us Q I r ⟨p,dx,fs,e,ea,q⟩
  subst e
  obtain ⟨u,rfl,ru⟩:=vals1 r
  cases ru
  refine callType_newIn PySem.F.called_bool PySem.F.newNe_bool (PySem.F.typeCall_bool_1 _) (PySem.F.newCall_bool_1 _) (fun obj=>PySem.F.args_object_init_2 obj _) PySem.F.entry_bool_new (bool_new_in p) ?_
  refine thn (truI (A':=X.A.in1.in1) (Q:=fun b H'=>Q (.bl b) H') hB M F hr.in1.in1.in1 I.env0.in1.in1.in1 hb I ea q) fun b s2 ⟨H2,I2,q2⟩=>?_
  exact ⟨PySem.typeIs_bool _ _,.bl b,H2,I2,rfl,q2⟩
end
end L2
namespace L2
open PySem PySem.Spec PyProof.Rows
section
variable {X:Cx} {e:Expr} {es:List Expr} {te:TE} {pos:Pos}
noncomputable def PJ (X:Cx) (parts:List Expr) (t:Str→TE):Prop :=
  ∀ (out:Str) (pins:List (Addr×Obj)) (s:Shared) (σ:St) (H:Hp) (Q:VK),Inv X pins σ H s→t out σ H Q→wpAny (model X.prog X.w) X.A (joinParts out (evalEach parts X.env)) (EP X pins σ Q) X.xe s
noncomputable def tJ0:Str→TE:=fun out _ H Q=>out.length≤sizeLine∧Q (.str out) H
noncomputable def tJ1 (te:TE) (t:Str→TE):Str→TE:=fun out σ H Q=>te σ H fun x H1=>∃ y,x= .str y∧(out ++ y).length≤sizeLine∧t (out ++ y) σ H1 Q
theorem pj_nil:PJ X [] tJ0:=fun out pins s σ H Q I h=>joinParts_nil ⟨.str out,H,I.tok _,⟨_,rfl⟩,h.2⟩ h.1
theorem pj_cons {t:Str→TE} (he:PE X e te) (hr:PJ X es t) (hs:evalEach (e :: es) X.env=eval e X.env :: evalEach es X.env:=by rfl):PJ X (e :: es) (tJ1 te t):=by
  intro out pins s σ H Q I h
  rw [hs]
  refine joinParts_cons (thn (he pins s σ H _ I h) fun v s1 ⟨x,H1,I1,r1,y,ex,hz,q⟩=>?_)
  subst ex
  obtain ⟨t',rfl⟩:=r1
  exact ⟨hz,hr (out ++ y) pins s1 σ H1 Q I1 q⟩
noncomputable def tFv (te:TE):TE:=fun σ H Q=>te σ H fun x H1=>∃ y,x= .str y∧y.length≤sizeLine∧Q (.str y) H1
theorem pe_fv (he:PE X e te):PE X (.FormattedValue e (-1) none pos) (tFv te):=by
  intro pins s σ H Q I h
  refine FormattedValue_plain (thn (he pins s σ H _ I h) fun v s1 ⟨x,H1,I1,r1,y,ex,hz,q⟩=>?_)
  subst ex
  obtain ⟨t',rfl⟩:=r1
  exact formatField_str (fun t2 tk=>⟨.str y,H1,I1.tok tk,⟨_,rfl⟩,q⟩) hz
theorem pe_fstr {v₁ v₂:Expr} {rest:List Expr} {t:Str→TE} (h:PJ X (v₁ :: v₂ :: rest) t):PE X (.JoinedStr (v₁ :: v₂ :: rest) pos) (t Str.empty):=fun pins s σ H Q I q=>JoinedStr_many (h Str.empty pins s σ H Q I q)
theorem strs_of:∀ {ys:List Str} {us:List Value},Vals (ys.map V.str) us→StrsAre us ys
  | [],_,r=>by cases r; exact .nil
  | y :: ys,_,r=>by
    cases r with
    | cons r1 r2 =>
      obtain ⟨t,rfl⟩:=r1
      exact .cons _ _ (strs_of r2)
noncomputable def rJoin:V→List V→Hp→VK→Prop:=fun x xs H Q=>∃ sep p ys,x= .str sep∧xs=[.ref p]∧H p=some (.lst (ys.map V.str))∧(ys.map (·.length)).sum + ys.length * sep.length≤16777216∧Q (.str (Txt.join sep ys)) H
theorem mt_join:MtR X "str.join" rJoin:=by
  intro pins s σ H x xs v us Q I r rs ⟨sep,p,ys,e1,e2,e3,hz,q⟩
  subst e1 e2
  obtain ⟨t,rfl⟩:=r
  obtain ⟨u,rfl,ru⟩:=vals1 rs
  cases ru
  obtain ⟨_,its,n,rv,hl⟩:=I.hok _ _ e3
  exact join_list (items:=its.toArray) ⟨_,hl,rfl,n,rfl⟩ (by simpa using strs_of rv) hz fun t' k=>⟨.str _,H,I.tok k,⟨_,rfl⟩,q⟩
theorem fm_congr {α β:Type} {f g:α→Option β}:∀ (l:List α),(∀ x∈l,f x=g x)→l.filterMap f=l.filterMap g
  | [],_=>rfl
  | x :: r,h=>by
    rw [List.filterMap_cons,List.filterMap_cons,h x (List.mem_cons_self ..),fm_congr r fun y hy=>h y (List.mem_cons_of_mem _ hy)]
theorem range_pick {α:Type}:∀ m:List α,(List.range m.length).filterMap (fun k=>m[k]?)=m
  | []=>rfl
  | x :: r=>by
    rw [List.length_cons,List.range_succ_eq_map,List.filterMap_cons]
    simp only [List.getElem?_cons_zero,List.filterMap_map]
    have e:((fun k=>(x :: r)[k]?) ∘ Nat.succ)=fun k=>r[k]? :=by funext k; rfl
    rw [e,range_pick r]
theorem pick_rev (its:List Value):slicePick its.toArray none none (some (-1))=its.reverse.toArray:=by
  unfold slicePick
  congr 1
  have e:sliceRange (sliceBounds none none (some (-1)) its.toArray.size).1 (sliceBounds none none (some (-1)) its.toArray.size).2.1 (sliceBounds none none (some (-1)) its.toArray.size).2.2=(List.range its.length).map fun k=>its.length - 1 - k:=by
    simp only [sliceBounds,Option.getD_some,List.size_toArray]
    rw [if_neg (by decide),if_neg (by decide)]
    unfold sliceRange
    dsimp only
    rw [if_neg (by decide)]
    have c:(if (its.length:Int) - 1 > -1 then ((its.length:Int) - 1 - -1 - -1 - 1) / (- -1) else 0).toNat=its.length:=by
      rw [show (- -1:Int)=1 from rfl,Int.ediv_one]
      split <;> omega
    rw [c]
    refine List.map_congr_left fun k hk=>?_
    omega
  rw [e,List.filterMap_map]
  have e2:(List.range its.length).filterMap ((fun x=>its.toArray[x]?) ∘ fun k=>its.length - 1 - k)=(List.range its.reverse.length).filterMap (fun k=>its.reverse[k]?):=by
    rw [List.length_reverse]
    refine fm_congr _ fun k hk=>?_
    have hk':k < its.length:=List.mem_range.mp hk
    show its.toArray[its.length - 1 - k]? =_
    rw [List.getElem?_reverse hk']
    simp
  rw [e2,range_pick]
end
end L2
namespace LE
open PySem PyProof.Rows
open AutoSeq1 (wpAny_loadPart')
end LE
namespace L2
open PySem PySem.Spec PyProof.Rows
section
variable {X:Cx} {CX:CXT} {k:Nat} {f C:Addr} {fd:FuncData} {ps ks:List Str} {sp:Sp} {E:XK} {x:Str} {p pos:Pos} {kws:List Keyword} {tk:TA} {g:List Value→List Value→List Value} {gV:List V→List V→List V}
end
end L2
namespace L2
open PySem PySem.Spec PyProof.Rows
section
variable {X:Cx} {C:Addr} {f x:Str} {pos pos':Pos} {e o value:Expr} {ta tv:TE} {i:Int}
theorem PE.imp {t t':TE} (h:PE X e t) (g:∀ σ H Q,t' σ H Q→t σ H Q):PE X e t':=fun pins s σ H Q I q=>h pins s σ H Q I (g _ _ _ q)
theorem PS.imp {st:Stmt} {t t':TS} (h:PS X st t) (g:∀ D σ H,t' D σ H→t D σ H):PS X st t':=fun pins s σ H D I q=>h pins s σ H D I (g _ _ _ q)
end
section
variable {X:Cx} {es:List Expr} {te:TE} {t:TA} {pos:Pos}
end
end L2
namespace LZ
open PySem PyProof.Rows
open AutoSeq1 (wpAny_loadPart')
open Builtin
structure Zr where
  it:Addr
  l:Addr
  b:Bool
  xs:Array Value
noncomputable def ZIt (h:Heap) (r:Zr) (k:Nat):Prop:=if r.b=true then h.IsTupleIter r.it r.l k else h.IsListIter r.it r.l k
noncomputable def ZAt (h:Heap) (r:Zr):Prop:=if r.b=true then h.IsTuple r.l r.xs else h.IsList r.l r.xs
theorem ZIt.keep {h h':Heap} {r:Zr} {k:Nat} (a:ZIt h r k) (q:∀ o,h.get? r.it=some o→h'.get? r.it=some o):ZIt h' r k:=by
  unfold ZIt at *
  split
  · rename_i e; rw [if_pos e] at a; exact a.at fun o z=>q o z
  · rename_i e; rw [if_neg e] at a; exact a.at fun o z=>q o z
theorem ZAt.keep {h h':Heap} {r:Zr} (a:ZAt h r) (q:∀ o,h.get? r.l=some o→h'.get? r.l=some o):ZAt h' r:=by
  unfold ZAt at *
  split
  · rename_i e; rw [if_pos e] at a; obtain ⟨o,z,t⟩:=a; exact ⟨o,q o z,t⟩
  · rename_i e; rw [if_neg e] at a; obtain ⟨o,z,t⟩:=a; exact ⟨o,q o z,t⟩
theorem ZIt.lt {h:Heap} {r:Zr} {k:Nat} (a:ZIt h r k):∃ o,h.get? r.it=some o:=by
  unfold ZIt at a
  split at a
  · obtain ⟨o,z,_⟩:=a; exact ⟨o,z⟩
  · obtain ⟨o,z,_⟩:=a; exact ⟨o,z⟩
section
variable {prog:Program} {w:World} {A:Around} {E:Value→Shared→Prop} {s:Shared}
end
structure Ap (z TI TO:Addr) (rs:List Zr):Prop where
  nd:(rs.map Zr.it).Nodup
  zi:∀ r∈rs,r.it≠z∧r.it≠TO∧r.it≠TI
  zl:∀ r∈rs,r.l≠z∧r.l≠TO
  li:∀ r∈rs,∀ t∈rs,r.l≠t.it
  zo:TO≠z
  zt:TI≠z
  ot:TI≠TO
noncomputable def IsT (h:Heap) (a:Addr) (ys:Array Value):Prop:=h.get? a=some { cls:=.type "tuple",data:=.seq ys }
structure Zs (h:Heap) (z TI TO:Addr) (rs:List Zr) (k:Nat):Prop where
  z:IsZip h z TI TO .none
  ti:IsT h TI (rs.map fun r=>Value.ref r.it).toArray
  to_:∃ ys,ys.size=rs.length∧IsT h TO ys
  it:∀ r∈rs,ZIt h r k
end LZ
namespace LZ
open PySem PyProof.Rows
open Builtin
section
variable {prog:Program} {w:World} {A:Around} {E:Value→Shared→Prop} {s:Shared}
structure Mid (h:Heap) (z TI TO:Addr) (rs:List Zr) (k:Nat) (vs:List Value) (j:Nat) (g:Heap):Prop where
  zz:IsZip g z TI TO .ellipsis
  to_:∃ ys,ys.size=rs.length∧IsT g TO ys∧∀ i,i < j→ys[i]? =vs[i]?
  lo:∀ i r,rs[i]? =some r→i < j→ZIt g r (k + 1)
  hi:∀ i r,rs[i]? =some r→j≤i→ZIt g r k
  at_:∀ r∈rs,ZAt g r
  sz:g.objs.size=h.objs.size
  fr:∀ c o,c≠z→c≠TO→(∀ r∈rs,c≠r.it)→h.get? c=some o→g.get? c=some o
end
end LZ
namespace LZ
open PySem PyProof.Rows
open Builtin
section
variable {prog:Program} {w:World} {A:Around} {E:Value→Shared→Prop}
end
end LZ
namespace L2
open PySem PySem.Spec PyProof.Rows LZ
section
variable {X:Cx} {pins:List (Addr×Obj)} {σ:St} {H:Hp} {s:Shared} {h':Heap}
noncomputable def RowAt (K:PySem.W.Frag) (H:Hp) (b:Bool) (l:Addr) (xs:List V):Prop:=if b=true then SqT K H l xs else SqL K H l xs
theorem Vals.mk {f:Nat→Option Value}:∀ {vs:List V},(∀ (j:Nat) (v:V),vs[j]? =some v→∃ u,f j=some u∧RelV v u)→∃ us,Vals vs us∧us.length=vs.length∧∀ (j:Nat),j < vs.length→us[j]? =f j
  | [],_=>⟨[],.nil,rfl,fun j hj=>absurd hj (Nat.not_lt_zero _)⟩
  | v :: vs,h=>by
    obtain ⟨u,e,r⟩:=h 0 v rfl
    obtain ⟨us,a,b,c⟩:=Vals.mk (f:=fun j=>f (j + 1)) (vs:=vs) fun j w hw=>h (j + 1) w hw
    refine ⟨u :: us,.cons r a,by rw [List.length_cons,List.length_cons,b],fun j hj=>?_⟩
    cases j with
    | zero=>exact e.symm
    | succ j=>exact c j (by simpa using hj)
end
end L2
namespace L2
open PySem PySem.Spec PyProof.Rows LZ
section
variable {X:Cx} {pins:List (Addr×Obj)} {σ:St} {H:Hp} {s:Shared} {h':Heap}
end
end L2
namespace L2
open PySem PySem.Spec PyProof.Rows
section
variable {X:Cx}
theorem bools_at:∀ {bs:List Bool} {us:List Value} {i:Nat} {v:Value},Vals (bs.map V.bl) us→us[i]? =some v→∃ b,bs[i]? =some b∧v= .bool b
  | [],_,_,_,r,h=>by cases r; simp at h
  | b :: bs,_,0,v,r,h=>by
    cases r with
    | cons r1 r2 =>
      simp at h; subst h
      exact ⟨b,rfl,r1⟩
  | b :: bs,_,i + 1,v,r,h=>by
    cases r with
    | cons r1 r2 =>
      obtain ⟨c,e,q⟩:=bools_at (i:=i) r2 (by simpa using h)
      exact ⟨c,by simpa using e,q⟩
theorem kept_it {s:Shared} {h':Heap} {o:Obj} (hk:∀ b x,b∉ [s.heap.objs.size]→(s.heap.push o).get? b=some x→h'.get? b=some x):∀ b x,s.heap.get? b=some x→h'.get? b=some x :=
  fun b x e=>hk b x (fun hm=>by rw [List.mem_singleton.mp hm] at e; exact Nat.lt_irrefl _ (Heap.lt_size e)) (Heap.get?_push_of_some _ e)
theorem all_range (bs:List Bool):((List.range bs.length).all fun i=>(bs[i]?).getD true)=bs.all id:=by
  rw [Bool.eq_iff_iff,List.all_eq_true,List.all_eq_true]
  constructor
  · intro h b hb
    obtain ⟨i,hi,rfl⟩:=List.getElem_of_mem hb
    have:=h i (List.mem_range.mpr hi)
    simp only [List.getElem?_eq_getElem hi,Option.getD_some] at this
    exact this
  · intro h i hi
    have hi':=List.mem_range.mp hi
    simp only [List.getElem?_eq_getElem hi',Option.getD_some]
    exact h _ (List.getElem_mem hi')
theorem call_allL (hc:X.calm=true):CallR X (.builtin "all") (fun xs H Q=>∃ (p:Addr) (bs:List Bool),xs=[.ref p]∧H p=some (.lst (bs.map V.bl))∧Q (.bl (bs.all id)) H):=by
  intro pins s σ H xs us Q I r ⟨p,bs,e,hp,q⟩
  subst e
  obtain ⟨u,rfl,ru⟩:=vals1 r
  cases ru
  obtain ⟨_,its,n,rv,ho⟩:=I.hok _ _ hp
  have hl:s.heap.IsList p its.toArray:=⟨_,ho,rfl,n,rfl⟩
  have hlt:p < s.heap.objs.size:=Heap.lt_size ho
  refine call_all_walk (wpAny_pyIter_list hl ?_)
  refine ⟨s.heap.objs.size,[s.heap.objs.size,p],[s.heap.objs.size],its.toArray.size,_,_,fun i=>(bs[i]?).getD true,rfl,Walks.list (A:=X.A.in1) (I.ok.hd hc) _ p (Nat.ne_of_lt hlt) its.toArray,
    ⟨⟨_,Heap.get?_push_size _ rfl,rfl,rfl⟩,hl.push _⟩,fun i v s' Q' E' hP hQ=>?_,fun h' tk hk=>?_⟩
  · obtain ⟨b,e,rfl⟩:=bools_at rv (i:=i) (v:=v) (by simpa using hP)
    simp only [e,Option.getD_some] at hQ
    exact wpAny_truthy_bool hQ
  · have e:((List.range its.toArray.size).all fun i=>(bs[i]?).getD true)=bs.all id:=by
      have:=rv.length
      rw [List.length_map] at this
      rw [List.size_toArray,←this]; exact all_range bs
    rw [e]
    exact ⟨.bl _,H,I.kept (t':=tk) (kept_it hk),rfl,q⟩
end
end L2
namespace LX
open PySem PyProof.Rows
section
variable {prog:Program} {w:World} {A:Around} {E:Value→Shared→Prop} {s:Shared}
theorem drawL {it t:Addr} {items:Array Value} (hne:t≠it):∀ (n i:Nat) (s:Shared) (Q:List Value→Shared→Prop),s.heap.IsListIter it t i→s.heap.IsList t items→i + n≤items.size→
    (∀ h',h'.IsListIter it t (i + n)→Heap.SameBut it s.heap h'→Q ((items.toList.drop i).take n) { s with heap:=h' })→wpAny (model prog w) A (draw (.ref it) n) Q E s
  | 0,i,s,Q,hit,_,_,hQ=>by
    show wpAny _ _ (pure []) Q E s
    exact wpAny_pure (by simpa using hQ s.heap hit (Heap.SameBut.refl ..))
  | n + 1,i,s,Q,hit,ht,hle,hQ=>by
    have hlt:i < items.size:=by omega
    show wpAny _ _ (pyNext (.ref it) >>= _) Q E s
    refine wpAny_bind (wpAny_pyNext_list_item hit ht (x:=items[i]) (by simp [hlt]) fun h1 hit1 hs1=>?_)
    refine wpAny_bind (wpAny_holding (drawL hne n (i + 1) _ _ hit1 (ht.extBut hs1.extBut hne) (by omega) fun h2 hit2 hs2=>wpAny_pure ?_))
    have hd:items.toList.drop i=items[i] :: items.toList.drop (i + 1):=by simp [List.drop_eq_getElem_cons,hlt]
    have:=hQ h2 (by rw [show i + (n + 1)=i + 1 + n by omega]; exact hit2) (hs1.trans hs2)
    rw [hd,List.take_succ_cons] at this
    exact this
theorem unpackL {t:Addr} {items:Array Value} {Q:List Value→Shared→Prop} (hh:A.handled=none) (ht:s.heap.IsList t items)
    (hQ:∀ h',Heap.ExtBut s.heap.objs.size s.heap h'→Q items.toList { s with heap:=h' }):wpAny (model prog w) A (unpackItems (.ref t) items.size none) Q E s:=by
  have hlt:t≠s.heap.objs.size:=by obtain ⟨o,ho,_⟩:=ht; exact Nat.ne_of_lt (Heap.lt_size ho)
  unfold unpackItems
  refine wpAny_bind ?_
  unfold notIterableAtAll
  refine wpAny_bind (wpAny_specialOf ht.typeIs slot_list_iter.lookup ?_)
  refine wpAny_pure ?_
  simp only [Bool.false_eq_true,if_false]
  refine wpAny_bind (wpAny_holding (wpAny_pyIter_list ht ?_))
  refine wpAny_bind (wpAny_holding (drawL hlt items.size 0 _ _ ⟨_,Heap.get?_push_size _ rfl,rfl,rfl⟩ (ht.push _) (by omega) fun h1 hit1 hs1=>?_))
  have hall:List.take items.size (List.drop 0 items.toList)=items.toList:=by
    rw [List.drop_zero]; exact List.take_of_length_le (by simp)
  rw [hall]
  rw [if_neg (by simp)]
  have ht1:h1.IsList t items:=(ht.push _).extBut hs1.extBut hlt
  refine wpAny_bind (wpAny_holding (wpAny_pyNext_list_end hh hit1 ht1 (by simp) fun h2 he2=>?_))
  simp only [Option.isSome_none,Bool.false_eq_true,if_false]
  refine wpAny_pure (hQ h2 fun b o hb e=>he2 b o hb (hs1.extBut b o hb (Heap.get?_push_of_some _ e)))
theorem asgL {env:Env} {elts:List Expr} {x1:Nat} {pos:Pos} {t:Addr} {items:Array Value} {Q:Unit→Shared→Prop} (hh:A.handled=none) (ht:s.heap.IsList t items)
    (hn:(assignEach elts env).length=items.size) (hstar:(assignEach elts env).findIdx? (·.1)=none)
    (h:∀ h',Heap.ExtBut s.heap.objs.size s.heap h'→wpAny (model prog w) A (assignInOrder ((assignEach elts env).map (·.2)) items.toList) Q E { s with heap:=h' }) :
    wpAny (model prog w) A (assign (.Tuple elts x1 pos) env (.ref t)) Q E s:=by
  rw [assign_Tuple]
  refine wpAny_bind (wpAny_standAt ?_)
  unfold unpack
  rw [hn,hstar]
  exact wpAny_bind (wpAny_holding (unpackL hh ht h))
end
end LX
namespace L2
open PySem PySem.Spec PyProof.Rows
section
variable {X:Cx} {pos:Pos}
noncomputable def gLst (n:Nat) (t:TGs):TG:=fun v σ H Q=>∃ a xs,v= .ref a∧H a=some (.lst xs)∧xs.length=n∧t xs σ H Q
theorem pg_lst {es:List Expr} {k:Nat} {t:TGs} {n:Nat} (hc:X.calm=true) (h:PGs X es t)
    (hn:(assignEach es X.env).length=n) (hst:(assignEach es X.env).findIdx? (·.1)=none):PG X (.Tuple es k pos) (gLst n t):=by
  intro pins s σ H v u Q I r hw
  obtain ⟨a,xs,e1,hq,hl,hw⟩:=hw
  subst e1
  cases r
  obtain ⟨_,its,nn,rv,ho⟩:=I.hok _ _ hq
  have ht:s.heap.IsList a its.toArray:=⟨_,ho,rfl,nn,rfl⟩
  refine LX.asgL (I.ok.hd hc) ht (by simp [hn,←hl,rv.length]) hst fun h' hx=>?_
  have I1:Inv X pins σ H { s with heap:=h' }:=I.kept (t':=s.toks) fun b o e=>hx b o (Nat.ne_of_lt (Heap.lt_size e)) e
  exact h pins _ σ H xs _ Q I1 (by simpa using rv) hw
variable {a b c d:Expr} {ta tb tc td:TE}
theorem call_maxT (hc:X.calm=true):CallR X (.builtin "max") (fun xs H Q=>∃ (p:Addr) (ns:List Int),xs=[.ref p]∧SqT X.K H p (ns.map V.int)∧ns≠ []∧∀ m,m∈ns→(∀ x∈ns,x≤m)→Q (.int m) H):=by
  intro pins s σ H xs us Q I r ⟨p,ns,e,hp,hne,q⟩
  subst e
  obtain ⟨u,rfl,ru⟩:=vals1 r
  cases ru
  obtain ⟨its,rv,ht,_⟩:=I.tuple hp
  have hl:s.heap.IsTuple p its.toArray:=ht
  have hi:IntsAre its ns:=intsAre_of rv
  obtain ⟨xs,hx⟩:=hi.allInts.items
  have hl':s.heap.IsTuple p (intItems xs):=hx▸hl
  obtain ⟨o,ho,hcl,n,hd⟩:=id hl'
  have hlt:p < s.heap.objs.size:=Heap.lt_size ho
  have e1:ns=xs.toList.map (·.1):=by
    rw [←nums_intItems,←hx]
    exact (show numsOf its.toArray.toList=ns from hi.numsOf).symm
  have hsz:ns.length=xs.size:=by rw [e1]; simp
  have hpos:0 < xs.size:=by
    rw [←hsz]; exact List.length_pos_iff.mpr hne
  refine call_max_walk (wpAny_pyIter_tuple hl' ?_)
  refine ⟨s.heap.objs.size,[s.heap.objs.size,p],[s.heap.objs.size],_,_,_,_,rfl,Walks.tuple (A:=X.A.in1) (I.ok.hd hc) _ p (Nat.ne_of_lt hlt) (intItems xs),
    ⟨⟨_,Heap.get?_push_size _ rfl,rfl,rfl⟩,hl'.push _⟩,fun d hd=>?_,by simpa [intItems] using hpos,CmpOf.ints_gt (numAt xs) (fun _ _=>intItems_at),fun v h' tk hP hk=>?_⟩
  · rcases List.mem_cons.mp hd with rfl | hd
    · exact Heap.lt_size (Heap.get?_push_size _ rfl)
    · obtain rfl:=List.mem_singleton.mp hd
      exact Heap.lt_size (Heap.get?_push_of_some _ ho)
  · have hP':(intItems xs)[argBest (fun i j=>decide (numAt xs i > numAt xs j)) (xs.size - 1)]? =some v:=by simpa [intItems] using hP
    obtain ⟨t,rfl⟩:=intItems_at hP'
    obtain ⟨b1,b2⟩:=argBest_gt (numAt xs) (xs.size - 1)
    have num:∀ j (hj:j < xs.size),∃ h:j < ns.length,numAt xs j=ns[j]:=fun j hj=>⟨by omega,by subst e1; simp [numAt,hj]⟩
    refine ⟨.int _,H,I.kept (t':=tk) (kept_it hk),⟨_,rfl⟩,q _ ?_ fun x hx'=>?_⟩
    · obtain ⟨h1,h2⟩:=num _ (show argBest (fun i j=>decide (numAt xs i > numAt xs j)) (xs.size - 1) < xs.size by omega)
      rw [h2]; exact List.getElem_mem h1
    · obtain ⟨j,hj,rfl⟩:=List.getElem_of_mem hx'
      obtain ⟨h1,h2⟩:=num j (by omega)
      rw [←h2]; exact b2 j (by omega)
end
end L2
namespace L2
open PySem PySem.Spec PyProof.Rows
section
variable {X:Cx}
end
end L2
namespace L2
open PySem PySem.Spec PyProof.Rows
section
variable {X:Cx} {pos:Pos}
end
end L2
namespace LE
open PySem PyProof.Rows
open AutoSeq1 (wpAny_loadPart')
open MeetsSeq MeetsSeq2 MeetsSeq3 SeqRoads2
end LE
namespace L2
open PySem PySem.Spec PyProof.Rows
section
variable {X:Cx}
end
end L2
namespace L2
open PySem PySem.Spec PyProof.Rows
section
variable {κ:Type} [DecidableEq κ]
noncomputable def valV (kvs:List (κ×V)) (k:κ):Option V:=(kvs.find? fun kv=>decide (kv.1=k)).map (·.2)
noncomputable def putK (kvs:List (κ×V)) (k:κ) (v:V):List (κ×V) :=
  if (kvs.any fun kv=>decide (kv.1=k))=true then kvs.map (fun kv=>if kv.1=k then (kv.1,v) else kv) else kvs ++ [(k,v)]
noncomputable def dropK (kvs:List (κ×V)) (k:κ):List (κ×V):=kvs.filter fun kv=>decide (kv.1≠k)
theorem valV_nil {k:κ}:valV ([]:List (κ×V)) k=none:=rfl
theorem valV_pos {p:κ×V} {r:List (κ×V)} {k:κ} (e:p.1=k):valV (p :: r) k=some p.2:=by simp [valV,List.find?_cons,e]
theorem valV_neg {p:κ×V} {r:List (κ×V)} {k:κ} (e:¬p.1=k):valV (p :: r) k=valV r k:=by simp [valV,List.find?_cons,e]
theorem RelO.getD {o:Option V} {u:Option Value} {d:V} {d':Value} (r:RelO o u) (rd:RelV d d'):RelV (o.getD d) (u.getD d'):=by
  cases o with
  | none=>cases u with
    | none=>exact rd
    | some _=>exact (show False from r).elim
  | some _=>cases u with
    | none=>exact (show False from r).elim
    | some _=>exact r
theorem KV.val {kvs:List (κ×V)} {vs:List (κ×Value)} (r:KV kvs vs) (k:κ):RelO (valV kvs k) (valueAt vs k):=by
  unfold KV at r
  induction r with
  | nil=>exact True.intro
  | @cons p q ps qs h t ih =>
    obtain ⟨h1,h2⟩:=h
    by_cases e:p.1=k
    · have e':q.1=k:=h1.symm.trans e
      have b:valueAt (q :: qs) k=some q.2:=by simp [valueAt,List.find?_cons,e']
      rw [valV_pos e,b]; exact h2
    · have e':¬q.1=k:=fun z=>e (h1.trans z)
      have b:valueAt (q :: qs) k=valueAt qs k:=by simp [valueAt,List.find?_cons,e']
      rw [valV_neg e,b]; exact ih
theorem KV.any {kvs:List (κ×V)} {vs:List (κ×Value)} (r:KV kvs vs) (k:κ):(kvs.any fun kv=>decide (kv.1=k))=vs.any fun kv=>decide (kv.1=k):=by
  unfold KV at r
  induction r with
  | nil=>rfl
  | cons h t ih=>rw [List.any_cons,List.any_cons,ih,h.1]
theorem KV.drop {kvs:List (κ×V)} {vs:List (κ×Value)} (r:KV kvs vs) (k:κ):KV (dropK kvs k) (without vs k):=by
  unfold KV at r ⊢
  unfold dropK without
  induction r with
  | nil=>exact .nil
  | @cons p q ps qs h t ih =>
    obtain ⟨h1,h2⟩:=h
    rw [List.filter_cons,List.filter_cons]
    by_cases e:p.1=k
    · have a:¬decide (p.1≠k)=true:=by simp [e]
      have b:¬decide (q.1≠k)=true:=by simp [h1.symm.trans e]
      rw [if_neg a,if_neg b]; exact ih
    · have e':¬q.1=k:=fun z=>e (h1.trans z)
      have a:decide (p.1≠k)=true:=by simp [e]
      have b:decide (q.1≠k)=true:=by simp [e']
      rw [if_pos a,if_pos b]; exact .cons ⟨h1,h2⟩ ih
theorem KV.keys {kvs:List (κ×V)} {vs:List (κ×Value)} (r:KV kvs vs):kvs.map (·.1)=vs.map (·.1):=by
  unfold KV at r
  induction r with
  | nil=>rfl
  | cons h t ih=>rw [List.map_cons,List.map_cons,ih,h.1]
theorem KV.length {kvs:List (κ×V)} {vs:List (κ×Value)} (r:KV kvs vs):kvs.length=vs.length:=Paired.length r
end
theorem kV_is {P:Program} {w:World} {k:Key} {u:Value} (r:RelV (kV k) u):(mixKind P w).is k u=true:=by
  cases k with
  | inl i=>obtain ⟨t,e⟩:=(show ∃ t,u=Value.int i t from r); subst e; exact mixKind_int P w i t
  | inr x=>obtain ⟨t,e⟩:=(show ∃ t,u=Value.str x t from r); subst e; exact mixKind_str P w x t
theorem items_are {P:Program} {w:World}:∀ {ks:List Key} {us:List Value},Vals (ks.map kV) us→ItemsAre (mixKind P w) ks us
  | [],_,r=>by rw [List.map_nil] at r; cases r; exact .nil
  | k :: ks,_,r=>by
    rw [List.map_cons] at r
    cases r with
    | cons h t=>exact .cons (kV_is h) (items_are t)
noncomputable abbrev KT (H:Hp):List (List Key×V)→List (List Key×Addr×Value)→Prop:=Paired fun p q=>p.1=q.1∧H q.2.1=some (.tup (p.1.map kV))∧RelV p.2 q.2.2
theorem KT.val {H:Hp} {kvs:List (List Key×V)} {xs:List (List Key×Addr×Value)} (r:KT H kvs xs) (k:List Key):RelO (valV kvs k) ((atKey xs k).map (·.2)):=by
  induction r with
  | nil=>exact True.intro
  | @cons p q ps qs h t ih =>
    obtain ⟨h1,_,h2⟩:=h
    by_cases e:p.1=k
    · have e':q.1=k:=h1.symm.trans e
      have b:atKey (q :: qs) k=some q.2:=by simp [atKey,List.find?_cons,e']
      rw [valV_pos e,b]; exact h2
    · have e':¬q.1=k:=fun z=>e (h1.trans z)
      have b:atKey (q :: qs) k=atKey qs k:=by simp [atKey,List.find?_cons,e']
      rw [valV_neg e,b]; exact ih
theorem KT.keeps {H H':Hp} {kvs:List (List Key×V)} {xs:List (List Key×Addr×Value)} (r:KT H kvs xs) (ht:∀ b ys,H b=some (.tup ys)→H' b=some (.tup ys)):KT H' kvs xs :=
  Paired.mapP r fun _ _ z=>⟨z.1,ht _ _ z.2.1,z.2.2⟩
section
variable {P:Program} {w:World} {H:Hp} {h:Heap} {a:Addr}
theorem rd_of {u:HO} (ok:HOk P w H h) (e:Rd H a u):ObjOk P w H h a u:=e.ok ok
theorem dk_rd {kvs:List (Key×V)} (ok:HOk P w H h) (e:Rd H a (.dK kvs)):kvs.length≤sizeLine∧(a == sysModules)=false∧∃ vs,KV kvs vs∧h.DictOf (mixKind P w) a vs :=
  show ObjOk P w H h a (.dK kvs) from rd_of ok e
theorem key_of {ks:List Key} (ok:HOk P w H h) (e:H a=some (.tup (ks.map kV))):(tupleKind (mixKind P w)).is h ks a:=by
  obtain ⟨_,its,r,⟨o,h1,h2,n,h3⟩,_⟩:=(show ObjOk P w H h a (.tup (ks.map kV)) from ok a _ e)
  exact ⟨o,its.toArray,n,h1,h2,h3,by simpa using items_are r⟩
theorem dt_rd {kvs:List (List Key×V)} (ok:HOk P w H h) (e:Rd H a (.dT kvs)):kvs.length≤sizeLine∧(a == sysModules)=false∧
    ∃ xs,KT H kvs xs∧h.DictOfH (tupleKind (mixKind P w)) a xs:=by
  obtain ⟨z,y,xs,r,o,es,ep,h1,h2,h3,h4,h5⟩:=(show ObjOk P w H h a (.dT kvs) from rd_of ok e)
  refine ⟨z,y,xs,r,o,es,ep,h1,h2,h3,h4,fun x hx=>?_,h5⟩
  have all:∀ {l:List (List Key×V)} {m:List (List Key×Addr×Value)},KT H l m→∀ x∈m,(tupleKind (mixKind P w)).is h x.1 x.2.1:=by
    intro l m q
    induction q with
    | nil=>intro x hx; exact nomatch hx
    | @cons p q ps qs hq t ih =>
      intro x hx
      rcases List.mem_cons.mp hx with e | hx
      · subst e
        exact key_of ok (by rw [←hq.1]; exact hq.2.1)
      · exact ih x hx
  exact all r x hx
end
noncomputable def DGet (H:Hp) (a:Addr) (y:V) (r:Option V):Prop :=
  (∃ kvs k,Rd H a (.dK kvs)∧y=kV k∧r=valV kvs k)∨∃ kvs k b,Rd H a (.dT kvs)∧y= .ref b∧H b=some (.tup (k.map kV))∧r=valV kvs k
noncomputable def DPut (H:Hp) (a:Addr) (y v:V) (H':Hp):Prop :=
  (∃ kvs k,H a=some (.dK kvs)∧y=kV k∧kvs.length < sizeLine∧H'=upd H a (.dK (putK kvs k v)))∨
  ∃ kvs k b,H a=some (.dT kvs)∧y= .ref b∧H b=some (.tup (k.map kV))∧kvs.length < sizeLine∧H'=upd H a (.dT (putK kvs k v))
theorem DGet.k {H:Hp} {a:Addr} {kvs:List (Key×V)} {k:Key} (e:H a=some (.dK kvs)):DGet H a (kV k) (valV kvs k):=.inl ⟨kvs,k,.inl e,rfl,rfl⟩
theorem DGet.t {H:Hp} {a b:Addr} {kvs:List (List Key×V)} {k:List Key} (e:H a=some (.dT kvs)) (eb:H b=some (.tup (k.map kV))):DGet H a (.ref b) (valV kvs k):=.inr ⟨kvs,k,b,.inl e,rfl,eb,rfl⟩
theorem DPut.k {H:Hp} {a:Addr} {kvs:List (Key×V)} {k:Key} {v:V} (e:H a=some (.dK kvs)) (hl:kvs.length < sizeLine):DPut H a (kV k) v (upd H a (.dK (putK kvs k v))):=.inl ⟨kvs,k,e,rfl,hl,rfl⟩
theorem DPut.t {H:Hp} {a b:Addr} {kvs:List (List Key×V)} {k:List Key} {v:V} (e:H a=some (.dT kvs)) (eb:H b=some (.tup (k.map kV))) (hl:kvs.length < sizeLine) :
    DPut H a (.ref b) v (upd H a (.dT (putK kvs k v))):=.inr ⟨kvs,k,b,e,rfl,eb,hl,rfl⟩
section
variable {X:Cx} {pins:List (Addr×Obj)} {σ:St} {H:Hp} {s:Shared} {a:Addr} {y v:V} {u r:Value} {o:Option V} {A:Around} {E:Value→Shared→Prop}
theorem d_getItem {Q:Value→Shared→Prop} (hu:A.units + 1 < cLine) (I:Inv X pins σ H s) (g:DGet H a y (some v)) (ry:RelV y u) (h:∀ w' s',Inv X pins σ H s'→RelV v w'→Q w' s') :
    wpAny (model X.prog X.w) A (getItem (.ref a) u) Q E s:=by
  rcases g with ⟨kvs,k,e,ey,l⟩ | ⟨kvs,k,b,e,ey,eb,l⟩
  · subst ey
    obtain ⟨z,hd,vs,rel,dd⟩:=dk_rd I.hok e
    obtain ⟨w',hw,rw'⟩:=RelO.some_of (v:=v) (o:=valueAt vs k) (by rw [l]; exact rel.val k)
    exact wpAny_getItem_of (kV_is ry) dd.mapOf hw (h w' _ (I.tok _) rw')
  · subst ey
    cases (show u=Value.ref b from ry)
    obtain ⟨z,hd,xs,rel,dd⟩:=dt_rd I.hok e
    obtain ⟨w',hw,rw'⟩:=RelO.some_of (v:=v) (o:=(atKey xs k).map (·.2)) (by rw [l]; exact rel.val k)
    obtain ⟨p,hp,hp2⟩:=Option.map_eq_some_iff.mp hw
    refine wpAny_getItem_heap (tupleKind_room_in1 hu) (key_of I.hok eb) dd hp ?_
    rw [hp2]
    exact h w' _ (I.tok _) rw'
end
section
variable {X:Cx} {pins:List (Addr×Obj)} {σ:St} {H:Hp} {s:Shared} {a:Addr} {kvs:List (Key×V)} {k:Key} {u:Value} {A:Around} {E:Value→Shared→Prop}
end
theorem dict_typeIs {X:Cx} {pins:List (Addr×Obj)} {σ:St} {H:Hp} {s:Shared} {a:Addr} {y:V} {o:Option V} (I:Inv X pins σ H s) (g:DGet H a y o):s.TypeIs (.ref a) "dict":=by
  rcases g with ⟨kvs,k,e,_,_⟩ | ⟨kvs,k,b,e,_,_,_⟩
  · obtain ⟨_,_,vs,_,dd⟩:=dk_rd I.hok e
    exact dd.typeIs
  · obtain ⟨_,_,xs,_,dd⟩:=dt_rd I.hok e
    exact dd.typeIs
section
variable {X:Cx} {o i e value:Expr} {pos pos' tpos:Pos} {td ty tv:TE}
end
section
variable {X:Cx} {pos:Pos}
end
noncomputable abbrev VV:List (V×V)→List (Value×Value)→Prop:=Paired fun p q=>RelV p.1 q.1∧RelV p.2 q.2
end L2
namespace L2
open PySem PySem.Spec PyProof.Rows
noncomputable abbrev TD:=St→Hp→(List (V×V)→Hp→Prop)→Prop
noncomputable def PD (X:Cx) (pos:Pos) (keys:List (Option Expr)) (values:List Expr) (t:TD):Prop :=
  ∀ (pins:List (Addr×Obj)) (s:Shared) (σ:St) (H:Hp) (Q:List (V×V)→Hp→Prop),Inv X pins σ H s→t σ H Q→
    wpAny (model X.prog X.w) X.A (evalPairs (pairTrees keys values X.env pos)) (fun vs s'=>∃ ps H',Inv X pins σ H' s'∧VV ps vs∧Q ps H') X.xe s
theorem pd_nil {X:Cx} {pos:Pos}:PD X pos [] [] (fun _ H Q=>Q [] H):=fun pins s σ H Q I h=>pairTrees_nil_walk ⟨[],H,I,.nil,h⟩
theorem pd_cons {X:Cx} {pos:Pos} {k v:Expr} {ks:List (Option Expr)} {vs:List Expr} {tk tv:TE} {tr:TD} (hk:PE X k tk) (hv:PE X v tv) (hr:PD X pos ks vs tr) :
    PD X pos (some k :: ks) (v :: vs) (fun σ H Q=>tk σ H fun x H1=>tv σ H1 fun y H2=>tr σ H2 fun ps H3=>Q ((x,y) :: ps) H3):=fun pins s σ H Q I h =>
  pairTrees_cons_walk (thn (hk pins s σ H _ I h) fun u s1 ⟨x,H1,I1,rx,q1⟩=>thn (hv pins s1 σ H1 _ I1 q1) fun w2 s2 ⟨y,H2,I2,ry,q2⟩ =>
    thn (hr pins s2 σ H2 _ I2 q2) fun ws s3 ⟨ps,H3,I3,rel,q3⟩=>⟨(x,y) :: ps,H3,I3,.cons ⟨rx,ry⟩ rel,q3⟩)
theorem PD.imp {X:Cx} {pos:Pos} {ks:List (Option Expr)} {vs:List Expr} {t t':TD} (h:PD X pos ks vs t) (g:∀ σ H Q,t' σ H Q→t σ H Q):PD X pos ks vs t':=fun pins s σ H Q I q=>h pins s σ H Q I (g _ _ _ q)
noncomputable def rIxD:R2:=fun x y H Q=>∃ a v,x= .ref a∧DGet H a y (some v)∧Q v H
theorem ix_dict {X:Cx} {k:Nat} (hr:Room k X.A):IxR X rIxD:=by
  intro value slice pins s σ H x y v u Q I rx ry ⟨a,z,ex,g,q⟩ hs
  subst ex
  cases rx
  exact tail_any (dict_typeIs I g) slot_dict_getitem.lookup (d_getItem (by have:=hr.units; omega) I g ry fun w' s' I' r'=>⟨z,H,I',r',q⟩) hs
end L2
namespace LE
open PySem PySem.W PySem.Calls PyProof.Rows Builtin
section
variable {prog:Program} {w:World} {A:Around} {E:Value→Shared→Prop} {s:Shared} {K:Frag} {x C L f:Addr} {h₀:Heap} {m:Str→Option Value} {ox:Obj} {od:Option Obj} {b tb:Value}
theorem ifBound_B {M:Model} {T id:String} {name:Str} {args:List Value} {Q:Option Value→Shared→Prop} (X:K.In s.heap) (I:InstAt s.heap x ox C od) (hs:findIn K (.ref C) name=some (some (.builtin id))) (S:Slot T name id)
    (h:wpAny M A (call (.builtin id) (.ref x :: args)) (fun v=>Q (some v)) E s):wpAny M A (callSpecialIfBound? (.ref x) name args) Q E s:=by
  simp only [callSpecialIfBound?,bindSpecialIfBound?]
  refine wpAny_holding (wpAny_bind (wpAny_bind (wpAny_bind (I.type.here ((looks_findIn X hs).here ?_)))))
  simp only [S.bind]
  refine wpAny_bind (wpAny_askSetting (wpAny_ite ?_))
  have fin:wpAny M A (call (.builtin id) ([.ref x] ++ args) >>= fun v=>pure (some v)) Q E s:=wpAny_bind (wpAny_mono h (fun v s' h'=>wpAny_pure h') fun _ _ h'=>h')
  split
  · exact wpAny_bind (wpAny_pure (wpAny_pure fin))
  · exact wpAny_tryCatch (wpAny_bind (wpAny_pure (wpAny_pure fin)))
theorem check_ne {M:Model} {Q:Unit→Shared→Prop} (X:K.In s.heap) (I:InstAt s.heap x ox C od) (hob:subIn K (.ref C) (.type "object")=some true) (hq:Q () s) :
    wpAny M A (checkBuiltinCall "object.__ne__" ⟨[.ref x,b],[]⟩) Q E s:=by
  have ha:=PySem.F.cmpArgs_ne (.ref x) b
  simp only [checkBuiltinCall,PySem.F.cmpKind_ne,PySem.F.cmpSplit_ne]
  refine wpAny_bind ?_
  unfold isInstance
  refine wpAny_bind (I.type.here ((looks_subIn X hob).here ?_))
  simp only [Bool.not_true,Bool.false_eq_true,if_false]
  cases hsig:Manifest.signature? "object.__ne__" with
  | none=>exact wpAny_pure hq
  | some sig =>
    simp only [argsOk,hsig] at ha
    have h2:Bind.checkArgs "object.__ne__" sig ⟨[.ref x,b],[]⟩=pure ():=ha
    show wpAny M A (Bind.checkArgs "object.__ne__" sig ⟨[.ref x,b],[]⟩) Q E _
    rw [h2]; exact wpAny_pure hq
theorem ne_K {Q:Value→Shared→Prop} (hu:A.units + 1 < cLine) (X:K.In s.heap) (I:InstAt s.heap x ox C od) (hb:Looks (model prog w) s.heap (typeOf b) tb) (hn:notFirst K C tb=true) (hne:findIn K (.ref C) "__ne__"=some (some (.builtin "object.__ne__")))
    (hob:subIn K (.ref C) (.type "object")=some true) (hs:findIn K (.ref C) "__eq__"=some (some (.ref f))) (hf:isFn K (.ref f)=true)
    (h:wpAny (model prog w) A.in1 (call (.ref f) [.ref x,b]) (fun v s'=>∃ r,v= .bool r∧Q (.bool (!r)) s') E s):wpAny (model prog w) A (richCompare .NotEq (.ref x) b) Q E s:=by
  have one:wpAny (model prog w) A (tryCompare (.ref x) (cmpInfo .NotEq).2.1 b) (fun r s'=>∃ v,r=some v∧Q v s') E s:=by
    unfold tryCompare
    refine wpAny_bind (ifBound_B (T:="object") X I hne PySem.F.cmp_object.ne ?_)
    refine wpAny_call (codeAny_call_builtin PySem.F.cmp_object.ne.plain PySem.F.cmpEntry_ne (check_ne X I hob ?_))
    unfold Builtin.«object.__ne__»
    refine wpAny_bind (m:=slotArgs "__ne__" 1 _) (wpAny_pure ?_)
    refine wpAny_bind (wpAny_cRoomFor (by show A.units + 1 < cLine; exact hu) ?_)
    refine wpAny_bind (ifBound_K X I hs hf (wpAny_mono h (fun v s' hv=>?_) fun _ _ e=>e))
    obtain ⟨r,rfl,q⟩:=hv
    refine wpAny_bind (wpAny_truthy_bool ?_)
    refine wpAny_pure ?_
    exact wpAny_pure ⟨_,rfl,q⟩
  unfold richCompare
  simp only [oneThing_ref]
  refine wpAny_holding (wpAny_bind (wpAny_cRoomFor (by omega) ?_))
  refine wpAny_bind (I.type.here (wpAny_bind (hb.here ?_)))
  split
  · rename_i q
    have e:subIn K tb (.ref C)=some false:=by
      rcases Bool.or_eq_true_iff.mp hn with e | e
      · rw [beq_iff_eq.mp e] at q; simp at q
      · exact beq_iff_eq.mp e
    refine wpAny_bind ((looks_subIn X e).here ?_)
    simp only [Bool.false_eq_true,if_false]
    refine wpAny_bind (wpAny_mono one (fun r s' z=>?_) fun _ _ e=>e)
    obtain ⟨v,rfl,hq⟩:=z
    exact wpAny_pure hq
  · refine wpAny_bind (wpAny_pure ?_)
    simp only [Bool.false_eq_true,if_false]
    refine wpAny_bind (wpAny_mono one (fun r s' z=>?_) fun _ _ e=>e)
    obtain ⟨v,rfl,hq⟩:=z
    exact wpAny_pure hq
end
end LE
namespace L2
open PySem PySem.Spec PyProof.Rows
section
variable {X:Cx}
structure NeC (K:PySem.W.Frag) (C:Addr):Prop where
  ne:PySem.W.findIn K (.ref C) "__ne__"=some (some (.builtin "object.__ne__"))
  ob:PySem.W.subIn K (.ref C) (.type "object")=some true
  bo:PySem.W.findIn K (.ref C) "__bool__"=some none
noncomputable def rNeO (C:Addr) (sp:Sp):R2:=fun x y H Q=>∃ p dx fs p' dx' fs',x= .ref p∧y= .ref p'∧H p=some (.ins C dx fs)∧H p'=some (.ins C dx' fs')∧sp [.ref p,.ref p'] H (fun v H'=>∃ b,v= .bl b∧Q (.bl (!b)) H') E0
theorem op_neO {k:Nat} {f C:Addr} {fd:FuncData} {sp:Sp} (N:NeC X.K C) (M:Meth X.K C "__eq__" f) (F:FnOk X.prog X.w X.K X.mg X.base CX0 k f fd ["self","other"] sp) (hr:Room (k + 1) X.A) (hb:Binds X.K fd ["self","other"] []) :
    OpR X (compareOp .NotEq) (rNeO C sp):=by
  intro pins s σ H x y v u Q I rx ry ⟨p,dx,fs,p',dx',fs',e1,e2,ea,eb,q⟩
  subst e1 e2
  cases rx
  cases ry
  obtain ⟨od,J⟩:=inst_at I ea
  obtain ⟨od',J'⟩:=inst_at I eb
  refine PySem.W.cmp_ofNotEq (LE.ne_K (by have:=hr.units; omega) I.kIn J J'.type (by unfold PySem.W.notFirst; simp) N.ne N.ob M.at_ M.fn
    (thn (run_at (dvs:=[]) (ds:=[]) (vs:=[.ref p,.ref p']) F hr.in1 I.env0.in1 hb .nil pass0 I (.cons rfl (.cons rfl .nil)) q) fun v s' ⟨x,H',I',rx,b,e,q'⟩=>?_))
  subst e
  cases rx
  exact ⟨b,rfl,.bl (!b),H',I',rfl,q'⟩
end
end L2
namespace LE
open PySem PyProof.Rows
open AutoSeq1 (wpAny_loadPart')
open MeetsSeq MeetsSeq2 MeetsSeq3 SeqRoads2 SeqAt
end LE
namespace HT
open PySem PySem.Spec PyProof.Rows
section
variable {prog:Program} {w:World} {A:Around} {E:Value→Shared→Prop} {s:Shared}
theorem sliceApplied_rev {sl:Addr} {vs:Value} {n:Nat} {Q:Int×Int×Nat→Shared→Prop} (hs:s.heap.IsSliceOf sl .none .none vs) (ps:IsPart vs (some (-1)))
    (h:Q ((n:Int) - 1,-1,n) s):wpAny (model prog w) A (Builtin.Slice.sliceApplied (.ref sl) (pure (n:Int))) Q E s:=by
  obtain ⟨os,hos,hcs,hds⟩:=id hs
  unfold Builtin.Slice.sliceApplied Builtin.Slice.sliceFields
  refine wpAny_bind (wpAny_bind (wpAny_field hos hds (x:=.none) rfl (wpAny_bind (wpAny_field hos hds (x:=.none) rfl (wpAny_bind (wpAny_field hos hds (x:=vs) rfl (wpAny_pure ?_)))))))
  refine wpAny_bind (slicePart_ ps ?_)
  show wpAny _ _ (if ((-1:Int) == 0)=true then _ else _) _ _ s
  rw [if_neg (by decide)]
  refine wpAny_bind (slicePart_none (wpAny_bind (slicePart_none (wpAny_bind (wpAny_pure ?_)))))
  have e1:Builtin.Slice.sliceAdjust none none (-1) (n:Int)=((n:Int) - 1,-1):=rfl
  have e2:Builtin.Slice.slicePlaces ((n:Int) - 1) (-1) (-1)=n:=by
    unfold Builtin.Slice.slicePlaces
    rw [if_neg (by decide)]
    split
    · rw [show (- -1:Int)=1 from rfl,Int.ediv_one]; omega
    · omega
  show wpAny _ _ (match Builtin.Slice.sliceAdjust none none (-1) (n:Int) with | (lo,hi)=>pure (lo,(-1:Int),Builtin.Slice.slicePlaces lo hi (-1))) _ _ s
  rw [e1]
  show wpAny _ _ (pure ((n:Int) - 1,(-1:Int),Builtin.Slice.slicePlaces ((n:Int) - 1) (-1) (-1))) _ _ s
  rw [e2]
  exact wpAny_pure h
theorem pick_back (its:List Value):((List.range its.toArray.size).filterMap fun (m:Nat)=>its.toArray[((its.toArray.size:Int) - 1 + (m:Int) * -1).toNat]?).toArray=its.reverse.toArray:=by
  congr 1
  have e2:(List.range its.toArray.size).filterMap (fun (m:Nat)=>its.toArray[((its.toArray.size:Int) - 1 + (m:Int) * -1).toNat]?)=(List.range its.reverse.length).filterMap (fun k=>its.reverse[k]?):=by
    rw [List.length_reverse,List.size_toArray]
    refine L2.fm_congr _ fun k hk=>?_
    have hk':k < its.length:=List.mem_range.mp hk
    rw [List.getElem?_reverse hk']
    have:((its.length:Int) - 1 + (k:Int) * -1).toNat=its.length - 1 - k:=by omega
    rw [this]; simp
  rw [e2,L2.range_pick]
theorem getItem_tuple_rev {t sl:Addr} {its:List Value} {vs:Value} {Q:Value→Shared→Prop} (ht:IsTup s.heap t its.toArray) (hs:s.heap.IsSliceOf sl .none .none vs) (ps:IsPart vs (some (-1)))
    (h:Q (.ref s.heap.objs.size) { s with heap:=s.heap.push { cls:=.type "tuple",data:=.seq its.reverse.toArray } })
    (hsz:its.length≤sizeLine):wpAny (model prog w) A (getItem (.ref t) (.ref sl)) Q E s:=by
  have htake:sizeOk (.seq its.reverse.toArray):=by
    show its.reverse.toArray.size≤sizeLine
    rw [List.size_toArray,List.length_reverse]; exact hsz
  obtain ⟨os,hos,hcs,hds⟩:=id hs
  have hTs:s.TypeIs (.ref sl) "slice":=⟨os,hos,hcs⟩
  unfold getItem
  try with_reducible refine wpAny_holding ?_
  first | refine wpAny_bind (wpAny_pure ?_) | skip
  refine wpAny_bind (wpAny_sequenceKey ht.typeIs (by decide) ?_)
  refine wpAny_bind (wpAny_callSpecial?_slot (name:=Str.ofString "__getitem__") ht.typeIs PyProof.Rows.slot_tuple_getitem
    (wpAny_call_entry PyProof.Rows.slot_tuple_getitem ht.typeIs entry_tuple_getitem ?_ (args_tuple_getitem _ _)))
  show wpAny _ _ (Builtin.Tuple.tupleItemsOf (.ref t) >>= _) _ _ s
  refine wpAny_bind (tupleItemsOf_ ht ?_)
  refine wpAny_bind (wpAny_typeOf hTs ?_)
  rw [if_pos (by decide)]
  refine wpAny_bind (sliceApplied_rev hs ps ?_)
  have hno:¬((((its.toArray.size:Int) - 1 == 0) && (-1:Int) == 1 && its.toArray.size == its.toArray.size)=true):=by
    rw [show ((-1:Int) == 1)=false from rfl,Bool.and_false,Bool.false_and]; exact Bool.false_ne_true
  show wpAny _ _ (if (((its.toArray.size:Int) - 1 == 0) && (-1:Int) == 1 && its.toArray.size == its.toArray.size)=true then _ else _) _ _ s
  rw [if_neg hno,pick_back]
  first
    | exact wpAny_bind (m:=Builtin.Tuple.tupleExact _) (wpAny_newObj_type (wpAny_pure ⟨_,rfl,wpAny_pure h⟩) htake)
    | exact wpAny_bind (m:=Builtin.Tuple.tupleExact _) (wpAny_newObj_type (wpAny_bind (wpAny_pure (wpAny_pure ⟨_,rfl,wpAny_pure h⟩))) htake)
    | exact wpAny_bind (wpAny_bind (m:=Builtin.Tuple.tupleExact _) (wpAny_newObj_type (wpAny_pure (wpAny_pure ⟨_,rfl,wpAny_pure h⟩)) htake))
    | exact wpAny_bind (wpAny_bind (m:=Builtin.Tuple.tupleExact _) (wpAny_newObj_type (wpAny_pure ⟨_,rfl,wpAny_pure h⟩) htake))
end
end HT
namespace L2
open PySem PySem.Spec PyProof.Rows
section
variable {X:Cx} {pins:List (Addr×Obj)} {σ:St} {H:Hp} {s:Shared} {a:Addr} {xs:List V}
end
section
variable {X:Cx} {o e:Expr} {to te:TE} {pos apos:Pos}
noncomputable def tRev2 (K:PySem.W.Frag) (te:TE):TE:=fun σ H Q=>te σ H fun x H1=>∃ p xs,x= .ref p∧((H1 p=some (.lst xs)∧∀ q,H1 q=none→Q (.ref q) (upd H1 q (.lst xs.reverse)))∨(SqT K H1 p xs∧∀ q,H1 q=none→Q (.ref q) (upd H1 q (.tup xs.reverse))))
theorem pe_rev2 {p1 p2 p3:Pos} {k1} (he:PE X e te):PE X (.Subscript e (.Slice none none (some (.UnaryOp .USub (.Constant (.int 1) k1 p1) p2)) p3) pos) (tRev2 X.K te):=by
  intro pins s σ H Q I h
  refine Subscript_ (thn (he pins s σ H _ I h) fun v s1 ⟨x,H1,I1,r1,p,xs,ex,hq⟩=>?_)
  subst ex
  cases r1
  refine wpAny_Slice ?_
  rw [evalPart_none]
  refine wpAny_pure ?_
  refine wpAny_pure ?_
  refine thn ((po_some (pe_un un_neg (pe_int (X:=X)))) pins s1 σ H1 (fun o H2=>o=some (-1)∧H2=H1) I1 ⟨_,rfl,_,rfl,rfl,rfl⟩) fun vs s2 ⟨o,H2,I2,ps,eo,eH⟩=>?_
  subst eo eH
  have I3:Inv X pins σ H2 { s2 with heap:=s2.heap.push { cls:=.type "slice",data:=.fields #[.none,.none,vs] } }:=I2.kept (t':=s2.toks) fun b ob q=>Heap.get?_push_of_some _ q
  rcases hq with ⟨hp,q⟩ | ⟨hp,q⟩
  · obtain ⟨its,rv,ht,hz⟩:=I3.list (SqL.of hp)
    have hlen:=rv.length
    refine tail_any (ops:=[.ref p,.ref s2.heap.objs.size]) ht.isList.typeIs slot_list_getitem.lookup ?_ (by with_unfolding_all rfl)
    refine wpAny_getItem_list_slice (lo:=none) (hi:=none) ht.isList (Heap.IsSliceOf.new ..) .none .none ps (by decide) ?_ (by rw [List.size_toArray] <;> omega)
    rw [pick_rev]
    refine ⟨.ref _,_,I3.laid (t':=s2.toks) (o:=.lst xs.reverse) (fun b ob q=>Heap.get?_push_of_some _ q) (Nat.le_refl _) ?_,rfl,q _ (I3.hok.fresh (Nat.le_refl _))⟩
    exact ⟨by rw [List.length_reverse]; exact hz,_,0,rv.reverse,Heap.get?_push_size _ rfl⟩
  · obtain ⟨its,rv,ht,hz⟩:=I3.tuple hp
    have hlen:=rv.length
    refine tail_any (ops:=[.ref p,.ref s2.heap.objs.size]) ht.typeIs PyProof.Rows.slot_tuple_getitem.lookup ?_ (by with_unfolding_all rfl)
    refine HT.getItem_tuple_rev ht (Heap.IsSliceOf.new ..) ps ?_ (by omega)
    refine ⟨.ref _,_,I3.laid (t':=s2.toks) (o:=.tup xs.reverse) (fun b ob q=>Heap.get?_push_of_some _ q) (Nat.le_refl _) ?_,rfl,q _ (I3.hok.fresh (Nat.le_refl _))⟩
    exact ⟨by rw [List.length_reverse]; exact hz,_,rv.reverse,IsTupN.new _ _⟩
end
end L2
namespace L3
open PySem PySem.Spec
open PyProof.Rows hiding St
open L2
inductive PV where
  | non | bl (b:Bool) | int (i:Int) | str (x:Str) | tup (xs:List PV) | lst (xs:List PV) | scr (ns:List Int)
  | ob (c:String) (ns:List Str) (xs:List PV) | ref (a:Addr) | ty (n:String) | cl (c:String) | emp | dct (ks:List Key) (xs:List PV)
structure Ev where
  K:PySem.W.Frag
  cls:String→Addr
mutual
noncomputable def RP (E:Ev) (Z:Hp):PV→V→Prop
  | .non=>fun v=>v= .non
  | .bl b=>fun v=>v= .bl b
  | .int i=>fun v=>v= .int i
  | .str x=>fun v=>v= .str x
  | .ty n=>fun v=>v= .ty n
  | .ref a=>fun v=>v= .ref a
  | .cl c=>fun v=>v= .ref (E.cls c)
  | .emp=>fun v=>∃ a,v= .ref a∧Z a=some (.dK [])
  | .scr ns=>fun v=>∃ a,v= .ref a∧SqL E.K Z a (ns.map V.int)
  | .tup xs=>fun v=>∃ a vs,v= .ref a∧SqT E.K Z a vs∧RPs E Z xs vs
  | .lst xs=>fun v=>∃ a vs,v= .ref a∧Z a=some (.lst vs)∧RPs E Z xs vs
  | .dct ks xs=>fun v=>∃ a vs,v= .ref a∧Z a=some (.dK (ks.zip vs))∧ks.length=vs.length∧RPs E Z xs vs
  | .ob c ns xs=>fun v=>∃ a dx vs,v= .ref a∧Z a=some (.ins (E.cls c) dx (ns.zip vs))∧ns.length=vs.length∧RPs E Z xs vs
noncomputable def RPs (E:Ev) (Z:Hp):List PV→List V→Prop
  | []=>fun vs=>vs=[]
  | x :: xs=>fun vs=>∃ v r,vs=v :: r∧RP E Z x v∧RPs E Z xs r
end
theorem sqT_mono {K:PySem.W.Frag} {Z Z':Hp} {a:Addr} {xs:List V} (e:Same Z Z') (h:SqT K Z a xs):SqT K Z' a xs:=by
  rcases h with (h | ⟨o,h⟩) | h
  · exact .inl (.inl (e _ _ h))
  · exact .inl (.inr ⟨o,e _ _ h⟩)
  · exact .inr h
section
variable {E:Ev} {Z Z' Z1 Z2 H H':Hp}
mutual
theorem RP.mono (e:Same Z Z'):∀ {x:PV} {v:V},RP E Z x v→RP E Z' x v
  | .non,_,h=>h
  | .bl _,_,h=>h
  | .int _,_,h=>h
  | .str _,_,h=>h
  | .ty _,_,h=>h
  | .ref _,_,h=>h
  | .cl _,_,h=>h
  | .emp,_,⟨a,e1,h⟩=>⟨a,e1,e _ _ h⟩
  | .scr _,_,⟨a,e1,h⟩=>⟨a,e1,e.seq h⟩
  | .tup _,_,⟨a,vs,e1,h,r⟩=>⟨a,vs,e1,sqT_mono e h,RPs.mono e r⟩
  | .lst _,_,⟨a,vs,e1,h,r⟩=>⟨a,vs,e1,e _ _ h,RPs.mono e r⟩
  | .dct _ _,_,⟨a,vs,e1,h,l,r⟩=>⟨a,vs,e1,e _ _ h,l,RPs.mono e r⟩
  | .ob _ _ _,_,⟨a,dx,vs,e1,h,l,r⟩=>⟨a,dx,vs,e1,e _ _ h,l,RPs.mono e r⟩
theorem RPs.mono (e:Same Z Z'):∀ {xs:List PV} {vs:List V},RPs E Z xs vs→RPs E Z' xs vs
  | [],_,h=>h
  | _ :: _,_,⟨v,r,e1,h,t⟩=>⟨v,r,e1,RP.mono e h,RPs.mono e t⟩
end
theorem RPs.length:∀ {xs:List PV} {vs:List V},RPs E Z xs vs→xs.length=vs.length
  | [],_,h=>by cases h; rfl
  | _ :: _,_,⟨v,r,e1,_,t⟩=>by subst e1; rw [List.length_cons,List.length_cons,RPs.length t]
theorem RPs.get:∀ {xs:List PV} {vs:List V} {i:Nat} {x:PV},RPs E Z xs vs→xs[i]? =some x→∃ v,vs[i]? =some v∧RP E Z x v
  | [],_,_,_,_,e=>by simp at e
  | y :: _,_,0,x,⟨v,r,e1,h,t⟩,e=>by
    subst e1
    have:y=x:=by simpa using e
    subst this
    exact ⟨v,rfl,h⟩
  | _ :: _,_,i + 1,x,⟨v,r,e1,h,t⟩,e=>by
    subst e1
    obtain ⟨u,a,b⟩:=RPs.get (i:=i) t (by simpa using e)
    exact ⟨u,by simpa using a,b⟩
theorem RPs.append:∀ {xs ys:List PV} {vs us:List V},RPs E Z xs vs→RPs E Z ys us→RPs E Z (xs ++ ys) (vs ++ us)
  | [],_,_,_,h,q=>by cases h; exact q
  | _ :: _,_,_,us,⟨v,r,e1,h,t⟩,q=>by subst e1; exact ⟨v,r ++ us,rfl,h,RPs.append t q⟩
theorem RPs.set {y:PV} {u:V} (q:RP E Z y u):∀ {xs:List PV} {vs:List V} (i:Nat),RPs E Z xs vs→RPs E Z (xs.set i y) (vs.set i u)
  | [],_,_,h=>by cases h; exact rfl
  | _ :: _,_,0,⟨v,r,e1,h,t⟩=>by subst e1; exact ⟨u,r,rfl,q,t⟩
  | _ :: _,_,i + 1,⟨v,r,e1,h,t⟩=>by subst e1; exact ⟨v,r.set i u,rfl,h,RPs.set q i t⟩
theorem RPs.take:∀ {xs:List PV} {vs:List V} (n:Nat),RPs E Z xs vs→RPs E Z (xs.take n) (vs.take n)
  | _,_,0,_=>rfl
  | [],_,_ + 1,h=>by cases h; exact rfl
  | _ :: _,_,n + 1,⟨v,r,e1,h,t⟩=>by subst e1; exact ⟨v,r.take n,rfl,h,RPs.take n t⟩
theorem RPs.drop:∀ {xs:List PV} {vs:List V} (n:Nat),RPs E Z xs vs→RPs E Z (xs.drop n) (vs.drop n)
  | _,_,0,h=>h
  | [],_,_ + 1,h=>by cases h; exact rfl
  | _ :: _,_,n + 1,⟨v,r,e1,h,t⟩=>by subst e1; exact RPs.drop n t
theorem RPs.ints:∀ {ns:List Int} {vs:List V},RPs E Z (ns.map PV.int) vs→vs=ns.map V.int
  | [],_,h=>h
  | _ :: _,_,⟨v,r,e1,h,t⟩=>by
    have h':v=V.int _:=h
    subst e1 h'; rw [RPs.ints t]; rfl
theorem RPs.ofInts:∀ (ns:List Int),RPs E Z (ns.map PV.int) (ns.map V.int)
  | []=>rfl
  | n :: r=>⟨.int n,r.map V.int,rfl,rfl,RPs.ofInts r⟩
theorem RPs.reverse:∀ {xs:List PV} {vs:List V},RPs E Z xs vs→RPs E Z xs.reverse vs.reverse
  | [],_,h=>by cases h; exact rfl
  | x :: xs,_,⟨v,r,e1,h,t⟩=>by
    subst e1
    rw [List.reverse_cons,List.reverse_cons]
    exact RPs.append (RPs.reverse t) ⟨v,[],rfl,h,rfl⟩
end
inductive GO where
  | lst (xs:List PV) | ins (c:String) (ns:List Str) (xs:List PV)
noncomputable abbrev Gh:=Addr→Option GO
noncomputable def gup (G:Gh) (a:Addr) (o:GO):Gh:=fun b=>if b=a then some o else G b
noncomputable def gdel (G:Gh) (a:Addr):Gh:=fun b=>if b=a then none else G b
theorem gup_same {G:Gh} {a:Addr} {o:GO}:gup G a o a=some o:=if_pos rfl
theorem gup_ne {G:Gh} {a b:Addr} {o:GO} (h:b≠a):gup G a o b=G b:=if_neg h
theorem gup_gup {G:Gh} {a:Addr} {o u:GO}:gup (gup G a o) a u=gup G a u:=by funext b; unfold gup; split <;> rfl
theorem gdel_ne {G:Gh} {a b:Addr} (h:b≠a):gdel G a b=G b:=if_neg h
theorem gdel_same {G:Gh} {a:Addr}:gdel G a a=none:=if_pos rfl
theorem gdel_gup {G:Gh} {a:Addr} {o:GO} (h:G a=none):gdel (gup G a o) a=G:=by
  funext b; unfold gdel gup
  split
  · rename_i e; rw [e]; exact h.symm
  · rfl
noncomputable def RO (E:Ev) (Z:Hp):GO→HO→Prop
  | .lst xs,o=>∃ vs,o= .lst vs∧RPs E Z xs vs
  | .ins c ns xs,o=>∃ dx vs,o= .ins (E.cls c) dx (ns.zip vs)∧ns.length=vs.length∧RPs E Z xs vs
theorem RO.mono {E:Ev} {Z Z':Hp} (e:Same Z Z'):∀ {o:GO} {o':HO},RO E Z o o'→RO E Z' o o'
  | .lst _,_,⟨vs,a,b⟩=>⟨vs,a,b.mono e⟩
  | .ins _ _ _,_,⟨dx,vs,a,l,b⟩=>⟨dx,vs,a,l,b.mono e⟩
structure Sim (E:Ev) (F H Z:Hp) (G:Gh):Prop where
  z:Same Z H
  f:∀ a o,F a=some o→H a=some o∧Z a=none∧G a=none
  g:∀ a o,G a=some o→Z a=none∧∃ o',H a=some o'∧RO E Z o o'
section
variable {E:Ev} {F H Z:Hp} {G G':Gh} {p:Addr} {o:HO} {go:GO}
theorem Sim.zn (S:Sim E F H Z G) (n:H p=none):Z p=none:=by
  cases e:Z p with
  | none=>rfl
  | some u=>rw [S.z _ _ e] at n; cases n
theorem Sim.gn (S:Sim E F H Z G) (n:H p=none):G p=none:=by
  cases e:G p with
  | none=>rfl
  | some u=>obtain ⟨_,o',e',_⟩:=S.g _ _ e; rw [e'] at n; cases n
theorem Sim.fn (S:Sim E F H Z G) (n:H p=none):F p=none:=by
  cases e:F p with
  | none=>rfl
  | some u=>rw [(S.f _ _ e).1] at n; cases n
theorem Sim.fz (S:Sim E F H Z G) (n:H p=none):Sim E F (upd H p o) (upd Z p o) G:=by
  have zn:=S.zn n
  have sub:Same Z (upd Z p o):=same_new zn o
  refine ⟨fun a u q=>?_,fun a u q=>?_,fun a u q=>?_⟩
  · by_cases e:a=p
    · subst e; rw [upd_same] at q ⊢; exact q
    · rw [upd_ne e] at q ⊢; exact S.z _ _ q
  · obtain ⟨h1,h2,h3⟩:=S.f a u q
    have e:a≠p:=ne_of_none h1 n
    exact ⟨by rw [upd_ne e]; exact h1,by rw [upd_ne e]; exact h2,h3⟩
  · obtain ⟨a1,o',a2,r⟩:=S.g a u q
    have e:a≠p:=ne_of_none a2 n
    exact ⟨by rw [upd_ne e]; exact a1,o',by rw [upd_ne e]; exact a2,r.mono sub⟩
theorem Sim.new (S:Sim E F H Z G) (n:H p=none) (r:RO E Z go o):Sim E F (upd H p o) Z (gup G p go):=by
  refine ⟨fun a u q=>upd_some (S.z _ _ q) n,fun a u q=>?_,fun a u q=>?_⟩
  · obtain ⟨h1,h2,h3⟩:=S.f a u q
    have e:a≠p:=ne_of_none h1 n
    exact ⟨by rw [upd_ne e]; exact h1,h2,by rw [gup_ne e]; exact h3⟩
  by_cases e:a=p
  · subst e; rw [gup_same] at q; cases q; exact ⟨S.zn n,o,upd_same,r⟩
  · rw [gup_ne e] at q
    obtain ⟨a1,o',a2,r'⟩:=S.g a u q
    exact ⟨a1,o',by rw [upd_ne e]; exact a2,r'⟩
theorem Sim.other (S:Sim E F H Z G) (n:H p=none):Sim E F (upd H p o) Z G:=by
  refine ⟨fun a u q=>upd_some (S.z _ _ q) n,fun a u q=>⟨upd_some (S.f a u q).1 n,(S.f a u q).2⟩,fun a u q=>?_⟩
  obtain ⟨a1,o',a2,r'⟩:=S.g a u q
  exact ⟨a1,o',upd_some a2 n,r'⟩
theorem Sim.set {u:GO} (S:Sim E F H Z G) (n:G p=some u) (r:RO E Z go o):Sim E F (upd H p o) Z (gup G p go):=by
  obtain ⟨z,_,_,_⟩:=S.g _ _ n
  refine ⟨fun a u q=>?_,fun a u' q=>?_,fun a u q=>?_⟩
  · have e:a≠p:=ne_of_none q z
    rw [upd_ne e]; exact S.z _ _ q
  · obtain ⟨h1,h2,h3⟩:=S.f a u' q
    have e:a≠p:=fun e=>by subst e; rw [n] at h3; cases h3
    exact ⟨by rw [upd_ne e]; exact h1,h2,by rw [gup_ne e]; exact h3⟩
  · by_cases e:a=p
    · subst e; rw [gup_same] at q; cases q; exact ⟨z,o,upd_same,r⟩
    · rw [gup_ne e] at q
      obtain ⟨a1,o',a2,r'⟩:=S.g a u q
      exact ⟨a1,o',by rw [upd_ne e]; exact a2,r'⟩
theorem Sim.frz {u:GO} (S:Sim E F H Z G) (n:G p=some u) (h:H p=some o):Sim E F H (upd Z p o) (gdel G p):=by
  obtain ⟨z,_,_,_⟩:=S.g _ _ n
  refine ⟨fun a u q=>?_,fun a u' q=>?_,fun a u q=>?_⟩
  · by_cases e:a=p
    · subst e; rw [upd_same] at q; rw [←q]; exact h
    · rw [upd_ne e] at q; exact S.z _ _ q
  · obtain ⟨h1,h2,h3⟩:=S.f a u' q
    have e:a≠p:=fun e=>by subst e; rw [n] at h3; cases h3
    exact ⟨h1,by rw [upd_ne e]; exact h2,by rw [gdel_ne e]; exact h3⟩
  · by_cases e:a=p
    · subst e; rw [gdel_same] at q; cases q
    · rw [gdel_ne e] at q
      obtain ⟨a1,o',a2,r'⟩:=S.g a u q
      exact ⟨by rw [upd_ne e]; exact a1,o',a2,r'.mono (same_new z o)⟩
theorem Sim.weak (S:Sim E F H Z G) (h:∀ a o,G' a=some o→G a=some o):Sim E F H Z G':=⟨S.z,fun a o q=>⟨(S.f a o q).1,(S.f a o q).2.1,by
  cases e:G' a with
  | none=>rfl
  | some u=>exact absurd (h _ _ e) (by rw [(S.f a o q).2.2]; intro z; cases z)⟩,fun a o q=>S.g a o (h a o q)⟩
theorem Sim.mine (S:Sim E F H Z G) (n:H p=none):Sim E (upd F p o) (upd H p o) Z G:=by
  refine ⟨fun a u q=>upd_some (S.z _ _ q) n,fun a u q=>?_,fun a u q=>?_⟩
  · by_cases e:a=p
    · subst e; rw [upd_same] at q ⊢; exact ⟨q,S.zn n,S.gn n⟩
    · rw [upd_ne e] at q ⊢; exact S.f a u q
  · obtain ⟨a1,o',a2,r'⟩:=S.g a u q
    exact ⟨a1,o',upd_some a2 n,r'⟩
theorem Sim.turn {u:HO} (S:Sim E (upd F p u) H Z G):Sim E (upd F p o) (upd H p o) Z G:=by
  obtain ⟨h1,h2,h3⟩:=S.f p u upd_same
  refine ⟨fun a v q=>?_,fun a v q=>?_,fun a v q=>?_⟩
  · have e:a≠p:=ne_of_none q h2
    rw [upd_ne e]; exact S.z _ _ q
  · by_cases e:a=p
    · subst e; rw [upd_same] at q ⊢; exact ⟨q,h2,h3⟩
    · rw [upd_ne e] at q ⊢
      exact S.f a v (by rw [upd_ne e]; exact q)
  · obtain ⟨a1,o',a2,r'⟩:=S.g a v q
    have e:a≠p:=fun e=>by subst e; rw [h3] at q; cases q
    exact ⟨a1,o',by rw [upd_ne e]; exact a2,r'⟩
theorem Sim.mineZ (S:Sim E (upd F p o) H Z G) (n:F p=none):Sim E F H (upd Z p o) G:=by
  obtain ⟨h1,h2,h3⟩:=S.f p o upd_same
  have sub:Same Z (upd Z p o):=same_new h2 o
  refine ⟨fun a v q=>?_,fun a v q=>?_,fun a v q=>?_⟩
  · by_cases e:a=p
    · subst e; rw [upd_same] at q; rw [←q]; exact h1
    · rw [upd_ne e] at q; exact S.z _ _ q
  · have e:a≠p:=ne_of_none q n
    obtain ⟨b1,b2,b3⟩:=S.f a v (by rw [upd_ne e]; exact q)
    exact ⟨b1,by rw [upd_ne e]; exact b2,b3⟩
  · obtain ⟨a1,o',a2,r'⟩:=S.g a v q
    have e:a≠p:=fun e=>by subst e; rw [h3] at q; cases q
    exact ⟨by rw [upd_ne e]; exact a1,o',a2,r'.mono sub⟩
theorem Sim.mineG (S:Sim E (upd F p o) H Z G) (n:F p=none) (r:RO E Z go o):Sim E F H Z (gup G p go):=by
  obtain ⟨h1,h2,h3⟩:=S.f p o upd_same
  refine ⟨S.z,fun a v q=>?_,fun a v q=>?_⟩
  · have e:a≠p:=ne_of_none q n
    obtain ⟨b1,b2,b3⟩:=S.f a v (by rw [upd_ne e]; exact q)
    exact ⟨b1,b2,by rw [gup_ne e]; exact b3⟩
  · by_cases e:a=p
    · subst e; rw [gup_same] at q; cases q; exact ⟨h2,o,h1,r⟩
    · rw [gup_ne e] at q; exact S.g a v q
end
noncomputable abbrev PSt:=List (Option PV)
noncomputable def RSl (E:Ev) (Z:Hp):Option PV→Option V→Prop
  | none,_=>True
  | some x,o=>∃ v,o=some v∧RP E Z x v
inductive RSt (E:Ev) (Z:Hp):PSt→St→Prop
  | nil:RSt E Z [] []
  | cons {o:Option PV} {u:Option V} {σ':PSt} {σ:St}:RSl E Z o u→RSt E Z σ' σ→RSt E Z (o :: σ') (u :: σ)
section
variable {E:Ev} {Z Z':Hp}
theorem RSl.mono (e:Same Z Z'):∀ {o:Option PV} {u:Option V},RSl E Z o u→RSl E Z' o u
  | none,_,_=>trivial
  | some _,_,⟨v,a,r⟩=>⟨v,a,r.mono e⟩
theorem RSt.mono (e:Same Z Z'):∀ {σ':PSt} {σ:St},RSt E Z σ' σ→RSt E Z' σ' σ
  | _,_,.nil=>.nil
  | _,_,.cons a b=>.cons (a.mono e) (RSt.mono e b)
theorem RSt.get:∀ {σ':PSt} {σ:St} {i:Nat} {x:PV},RSt E Z σ' σ→σ'[i]? =some (some x)→∃ v,σ[i]? =some (some v)∧RP E Z x v
  | _,_,_,_,.nil,e=>by simp at e
  | _,_,0,x,.cons a _,e=>by
    simp at e; subst e
    obtain ⟨v,e1,r⟩:=a
    subst e1
    exact ⟨v,rfl,r⟩
  | _,_,i + 1,x,.cons _ b,e=>by
    obtain ⟨v,e1,r⟩:=RSt.get (i:=i) b (by simpa using e)
    exact ⟨v,by simpa using e1,r⟩
theorem RSt.set {x:PV} {v:V} (r:RP E Z x v):∀ {σ':PSt} {σ:St} (i:Nat),RSt E Z σ' σ→RSt E Z (σ'.set i (some x)) (σ.set i (some v))
  | _,_,_,.nil=>.nil
  | _,_,0,.cons _ b=>.cons ⟨v,rfl,r⟩ b
  | _,_,i + 1,.cons a b=>.cons a (RSt.set r i b)
theorem RSt.nones:∀ (n:Nat),RSt E Z (List.replicate n none) (List.replicate n none)
  | 0=>.nil
  | n + 1=>.cons trivial (RSt.nones n)
theorem RSt.append:∀ {a b:PSt} {c d:St},RSt E Z a c→RSt E Z b d→RSt E Z (a ++ b) (c ++ d)
  | _,_,_,_,.nil,h=>h
  | _,_,_,_,.cons r t,h=>.cons r (RSt.append t h)
theorem RSt.vals:∀ {xs:List PV} {vs:List V},RPs E Z xs vs→RSt E Z (xs.map some) (vs.map some)
  | [],_,h=>by cases h; exact .nil
  | _ :: _,_,⟨v,r,e,h,t⟩=>by subst e; exact .cons ⟨v,rfl,h⟩ (RSt.vals t)
noncomputable def startP (n:Nat) (xs:List PV):PSt:=xs.map some ++ List.replicate (n - xs.length) none
theorem RSt.start {N:List Str} {xs:List PV} {vs:List V} (r:RPs E Z xs vs):RSt E Z (startP N.length xs) (L2.start N vs):=by
  unfold startP L2.start
  rw [r.length]
  exact RSt.append (RSt.vals r) (RSt.nones _)
end
noncomputable abbrev PK1:=PV→Gh→Prop
noncomputable abbrev PTE:=PSt→Gh→PK1→Prop
noncomputable abbrev PTT:=PSt→Gh→(Bool→Gh→Prop)→Prop
noncomputable abbrev PTA:=PSt→Gh→(List PV→Gh→Prop)→Prop
structure PEnds where
  nx:PSt→Gh→Prop
  rt:PK1
  bk:PSt→Gh→Prop
  ct:PSt→Gh→Prop
noncomputable abbrev PTS:=PEnds→PSt→Gh→Prop
noncomputable def Kq (E:Ev) (F Z:Hp) (Q':PK1) (Q:VK):Prop:= ∀ x v Z1 G1 H1,Same Z Z1→Sim E F H1 Z1 G1→RP E Z1 x v→Q' x G1→Q v H1
noncomputable def KA (E:Ev) (F:Hp) (n:Nat) (Z:Hp) (Q':List PV→Gh→Prop) (Q:List V→Hp→Prop):Prop:= ∀ xs vs Z1 G1 H1,xs.length=n→Same Z Z1→Sim E F H1 Z1 G1→RPs E Z1 xs vs→Q' xs G1→Q vs H1
noncomputable def KT (E:Ev) (F Z:Hp) (Q':Bool→Gh→Prop) (Q:Bool→Hp→Prop):Prop:= ∀ b Z1 G1 H1,Same Z Z1→Sim E F H1 Z1 G1→Q' b G1→Q b H1
noncomputable def KSt (E:Ev) (F Z:Hp) (Q':PSt→Gh→Prop) (Q:St→Hp→Prop):Prop:= ∀ σ' σ Z1 G1 H1,Same Z Z1→Sim E F H1 Z1 G1→RSt E Z1 σ' σ→Q' σ' G1→Q σ H1
structure KD (E:Ev) (F Z:Hp) (D':PEnds) (D:Ends):Prop where
  nx:KSt E F Z D'.nx D.nx
  rt:Kq E F Z D'.rt D.rt
  bk:KSt E F Z D'.bk D.bk
  ct:KSt E F Z D'.ct D.ct
theorem Kq.mono {E:Ev} {F Z Z2:Hp} {Q':PK1} {Q:VK} (e:Same Z Z2) (k:Kq E F Z Q' Q):Kq E F Z2 Q' Q:=fun x v Z1 G1 H1 s=>k x v Z1 G1 H1 (e.trans s)
theorem KA.mono {E:Ev} {F Z Z2:Hp} {n:Nat} {Q':List PV→Gh→Prop} {Q:List V→Hp→Prop} (e:Same Z Z2) (k:KA E F n Z Q' Q):KA E F n Z2 Q' Q:=fun x v Z1 G1 H1 l s=>k x v Z1 G1 H1 l (e.trans s)
theorem KT.mono {E:Ev} {F Z Z2:Hp} {Q':Bool→Gh→Prop} {Q:Bool→Hp→Prop} (e:Same Z Z2) (k:KT E F Z Q' Q):KT E F Z2 Q' Q:=fun x Z1 G1 H1 s=>k x Z1 G1 H1 (e.trans s)
theorem KSt.mono {E:Ev} {F Z Z2:Hp} {Q':PSt→Gh→Prop} {Q:St→Hp→Prop} (e:Same Z Z2) (k:KSt E F Z Q' Q):KSt E F Z2 Q' Q:=fun x v Z1 G1 H1 s=>k x v Z1 G1 H1 (e.trans s)
theorem KD.mono {E:Ev} {F Z Z2:Hp} {D':PEnds} {D:Ends} (e:Same Z Z2) (k:KD E F Z D' D):KD E F Z2 D' D:=⟨k.nx.mono e,k.rt.mono e,k.bk.mono e,k.ct.mono e⟩
noncomputable def low (E:Ev) (F:Hp) (t:PTE):TE:=fun σ H Q=>∃ σ' Z G Q',RSt E Z σ' σ∧Sim E F H Z G∧t σ' G Q'∧Kq E F Z Q' Q
noncomputable def lowT (E:Ev) (F:Hp) (t:PTT):TT:=fun σ H Q=>∃ σ' Z G Q',RSt E Z σ' σ∧Sim E F H Z G∧t σ' G Q'∧KT E F Z Q' Q
noncomputable def lowA (E:Ev) (F:Hp) (n:Nat) (t:PTA):TA:=fun σ H Q=>∃ σ' Z G Q',RSt E Z σ' σ∧Sim E F H Z G∧t σ' G Q'∧KA E F n Z Q' Q
noncomputable def lowS (E:Ev) (F:Hp) (t:PTS):TS:=fun D σ H=>∃ σ' Z G D',RSt E Z σ' σ∧Sim E F H Z G∧t D' σ' G∧KD E F Z D' D
end L3
namespace L3
open PySem PySem.Spec
open PyProof.Rows hiding St
open L2
noncomputable def lstOf (G:Gh):PV→Option (List PV)
  | .lst xs=>some xs
  | .ref a=>match G a with
    | some (.lst xs)=>some xs
    | _=>none
  | _=>none
section
variable {E:Ev} {F H Z:Hp} {G:Gh} {x:PV} {v:V} {xs:List PV}
theorem lst_at (S:Sim E F H Z G) (r:RP E Z x v) (h:lstOf G x=some xs):∃ a vs,v= .ref a∧H a=some (.lst vs)∧RPs E Z xs vs:=by
  cases x with
  | lst ys =>
    cases h
    obtain ⟨a,vs,e,q,t⟩:=r
    exact ⟨a,vs,e,S.z _ _ q,t⟩
  | ref a =>
    have e:v= .ref a:=r
    subst e
    unfold lstOf at h
    dsimp only at h
    split at h
    · rename_i ys e
      cases h
      obtain ⟨_,o',q,vs,e',t⟩:=S.g _ _ e
      subst e'
      exact ⟨a,vs,rfl,q,t⟩
    · cases h
  | _=>cases h
theorem tup_at (S:Sim E F H Z G) (r:RP E Z (.tup xs) v):∃ a vs,v= .ref a∧SqT E.K H a vs∧RPs E Z xs vs:=by
  obtain ⟨a,vs,e,q,t⟩:=r
  exact ⟨a,vs,e,sqT_mono S.z q,t⟩
theorem Kq.here {Q':PK1} {Q:VK} (k:Kq E F Z Q' Q) (S:Sim E F H Z G) (q:Q' x G) (r:RP E Z x v):Q v H:=k x v Z G H (Same.refl Z) S r q
theorem rp_int {i:Int}:RP E Z (.int i) (.int i):=rfl
theorem rp_str {i:Str}:RP E Z (.str i) (.str i):=rfl
theorem rp_bl {i:Bool}:RP E Z (.bl i) (.bl i):=rfl
theorem rp_non:RP E Z .non .non:=rfl
theorem Kq.newZ {Q':PK1} {Q:VK} {p:Addr} {o:HO} (k:Kq E F Z Q' Q) (S:Sim E F H Z G) (n:H p=none) (r:RP E (upd Z p o) x (.ref p)) (q:Q' x G):Q (.ref p) (upd H p o) :=
  k x (.ref p) (upd Z p o) G _ (same_new (S.zn n) o) (S.fz n) r q
theorem rp_newT {vs:List V} {p:Addr} (n:Z p=none) (r:RPs E Z xs vs):RP E (upd Z p (.tup vs)) (.tup xs) (.ref p):=⟨p,vs,rfl,SqT.of upd_same,r.mono (same_new n _)⟩
theorem rp_newL {vs:List V} {p:Addr} (n:Z p=none) (r:RPs E Z xs vs):RP E (upd Z p (.lst vs)) (.lst xs) (.ref p):=⟨p,vs,rfl,upd_same,r.mono (same_new n _)⟩
end
noncomputable abbrev P2:=PV→PV→Gh→PK1→Prop
noncomputable def lowOp (E:Ev) (F:Hp) (p:P2):R2:=fun v u H Q=>∃ x y Z G Q',RP E Z x v∧RP E Z y u∧Sim E F H Z G∧p x y G Q'∧Kq E F Z Q' Q
noncomputable def pI (C:Int→Int→Prop) (g:Int→Int→PV):P2:=fun x y G Q=>match x,y with
  | .int i,.int j=>C i j∧Q (g i j) G
  | _,_=>False
theorem low_pI {E:Ev} {F:Hp} {C:Int→Int→Prop} {g:Int→Int→V} {g':Int→Int→PV} (hg:∀ Z i j,RP E Z (g' i j) (g i j)) {v u:V} {H:Hp} {Q:VK} (h:lowOp E F (pI C g') v u H Q):rI C g v u H Q:=by
  obtain ⟨x,y,Z,G,Q',r1,r2,S,q,k⟩:=h
  unfold pI at q
  split at q
  · obtain ⟨c,q⟩:=q
    exact ⟨_,_,r1,r2,c,k.here S q (hg _ _ _)⟩
  · exact q.elim
noncomputable def pAdd (x y:PV) (G:Gh) (Q:PK1):Prop:=match x,y with
  | .int i,.int j=>Q (.int (i + j)) G
  | .str i,.str j=>i.length + j.length≤sizeLine∧Q (.str (i ++ j)) G
  | .tup xs,.tup ys=>xs≠ []∧ys≠ []∧xs.length + ys.length≤sizeLine∧Q (.tup (xs ++ ys)) G
  | x,y=>∃ xs ys,lstOf G x=some xs∧lstOf G y=some ys∧xs.length + ys.length≤sizeLine∧Q (.lst (xs ++ ys)) G
theorem low_cat {E:Ev} {x y:PV} {xs ys:List PV} {v u:V} {F H Z:Hp} {G:Gh} {Q':PK1} {Q:VK} (r1:RP E Z x v) (r2:RP E Z y u) (S:Sim E F H Z G) (hx:lstOf G x=some xs) (hy:lstOf G y=some ys) (hz:xs.length + ys.length≤sizeLine) (q:Q' (.lst (xs ++ ys)) G) (k:Kq E F Z Q' Q):rCat v u H Q:=by
  obtain ⟨a,vs,rfl,ha,ta⟩:=lst_at S r1 hx
  obtain ⟨b,us,rfl,hb,tb⟩:=lst_at S r2 hy
  exact ⟨a,b,vs,us,rfl,rfl,ha,hb,by rw [←ta.length,←tb.length]; exact hz,fun p n=>k.newZ S n (rp_newL (S.zn n) (ta.append tb)) q⟩
section
variable {X:Cx} {E:Ev} {F:Hp}
theorem low_add (hK:E.K=X.K):OpR X (binaryOp .Add) (lowOp E F pAdd):=by
  refine (op_add.or (op_add_str.or (op_catT.or op_cat))).imp fun v u H Q h=>?_
  obtain ⟨x,y,Z,G,Q',r1,r2,S,q,k⟩:=h
  unfold pAdd at q
  split at q
  · exact .inl ⟨_,_,r1,r2,k.here S q rp_int⟩
  · exact .inr (.inl ⟨_,_,r1,r2,q.1,k.here S q.2 rp_str⟩)
  · obtain ⟨a,vs,rfl,ha,ta⟩:=tup_at S r1
    obtain ⟨b,us,rfl,hb,tb⟩:=tup_at S r2
    obtain ⟨ne,ne2,hz,q⟩:=q
    refine .inr (.inr (.inl ⟨a,b,vs,us,rfl,rfl,hK▸ha,hK▸hb, ?_,by rw [←ta.length,←tb.length]; exact hz,fun e=>?_,fun _ p n=>k.newZ S n (rp_newT (S.zn n) (ta.append tb)) q⟩))
    · intro e
      subst e
      have:=ta.length
      exact ne (List.eq_nil_of_length_eq_zero this)
    · subst e
      have:=tb.length
      exact absurd (List.eq_nil_of_length_eq_zero this) ne2
  · obtain ⟨xs,ys,hx,hy,hz,q⟩:=q
    exact .inr (.inr (.inr (low_cat r1 r2 S hx hy hz q k)))
noncomputable def CModG (_ j:Int):Prop:=0 < j
noncomputable def pMul (x y:PV) (G:Gh) (Q:PK1):Prop:=match x,y with
  | .int i,.int j=>CMulG i j∧Q (.int (i * j)) G
  | _,_=>False
noncomputable def pBin:Operator→P2
  | .Add=>pAdd
  | .Sub=>pI (fun _ _=>True) fun i j=>.int (i - j)
  | .Mult=>pMul
  | .FloorDiv=>pI CDivG fun i j=>.int (i / j)
  | .Mod=>pI CModG fun i j=>.int (i % j)
  | .Pow=>pI CPow fun i j=>.int (i ^ j.toNat)
  | .LShift=>pI CPow fun i j=>.int (i * 2 ^ j.toNat)
  | _=>fun _ _ _ _=>False
theorem rI0_of {g:Int→Int→V} {v u:V} {H:Hp} {Q:VK} (h:rI (fun _ _=>True) g v u H Q):rI0 g v u H Q:=by
  obtain ⟨i,j,a,b,_,q⟩:=h
  exact ⟨i,j,a,b,q⟩
theorem low_bin (hK:E.K=X.K):∀ (op:Operator),OpR X (binaryOp op) (lowOp E F (pBin op))
  | .Add=>low_add hK
  | .Sub=>op_sub.imp fun _ _ _ _ h=>rI0_of (low_pI (fun _ _ _=>rp_int) h)
  | .Mult=>op_mulG.imp fun v u H Q h=>by
    obtain ⟨x,y,Z,G,Q',r1,r2,S,q,k⟩:=h
    replace q:pMul x y G Q':=q
    unfold pMul at q
    split at q
    · exact ⟨_,_,r1,r2,q.1,k.here S q.2 rp_int⟩
    · exact q.elim
  | .FloorDiv=>op_fdivG.imp fun _ _ _ _ h=>low_pI (fun _ _ _=>rp_int) h
  | .Mod=>op_mod.imp fun _ _ _ _ h=>low_pI (fun _ _ _=>rp_int) h
  | .Pow=>op_pow.imp fun _ _ _ _ h=>low_pI (fun _ _ _=>rp_int) h
  | .LShift=>op_shl.imp fun _ _ _ _ h=>low_pI (fun _ _ _=>rp_int) h
  | .Div=>fun _ _ _ _ _ _ _ _ _ _ _ _ h=>(by obtain ⟨_,_,_,_,_,_,_,_,q,_⟩:=h; exact q.elim)
  | .RShift=>fun _ _ _ _ _ _ _ _ _ _ _ _ h=>(by obtain ⟨_,_,_,_,_,_,_,_,q,_⟩:=h; exact q.elim)
  | .BitOr=>fun _ _ _ _ _ _ _ _ _ _ _ _ h=>(by obtain ⟨_,_,_,_,_,_,_,_,q,_⟩:=h; exact q.elim)
  | .BitXor=>fun _ _ _ _ _ _ _ _ _ _ _ _ h=>(by obtain ⟨_,_,_,_,_,_,_,_,q,_⟩:=h; exact q.elim)
  | .BitAnd=>fun _ _ _ _ _ _ _ _ _ _ _ _ h=>(by obtain ⟨_,_,_,_,_,_,_,_,q,_⟩:=h; exact q.elim)
  | .MatMult=>fun _ _ _ _ _ _ _ _ _ _ _ _ h=>(by obtain ⟨_,_,_,_,_,_,_,_,q,_⟩:=h; exact q.elim)
end
mutual
noncomputable def peq:PV→PV→Bool
  | .non,y=>match y with | .non=>true | _=>false
  | .bl a,y=>match y with | .bl b=>a == b | .int j=>(if a then 1 else 0) == j | _=>false
  | .int i,y=>match y with | .int j=>i == j | .bl b=>i == (if b then 1 else 0) | _=>false
  | .str a,y=>match y with | .str b=>a == b | _=>false
  | .tup xs,y=>match y with | .tup ys=>peqs xs ys | _=>false
  | .lst xs,y=>match y with | .lst ys=>peqs xs ys | _=>false
  | _,_=>false
noncomputable def peqs:List PV→List PV→Bool
  | [],ys=>match ys with | []=>true | _=>false
  | x :: xs,ys=>match ys with | y :: r=>peq x y && peqs xs r | []=>false
end
mutual
noncomputable def dat:PV→Option PyData
  | .non=>some .none
  | .bl b=>some (.bool b)
  | .int i=>some (.int i)
  | .str x=>some (.str x)
  | .tup xs=>match dats xs with | some ds=>some (.tuple ds) | none=>none
  | .lst xs=>match dats xs with | some ds=>some (.list ds) | none=>none
  | _=>none
noncomputable def dats:List PV→Option (List PyData)
  | []=>some []
  | x :: xs=>match dat x,dats xs with | some d,some ds=>some (d :: ds) | _,_=>none
end
mutual
theorem peq_ok:∀ {x y:PV} {d e:PyData},dat x=some d→dat y=some e→PyData.eqv d e=peq x y
  | .non,y,d,e,h,q=>by
    simp only [dat] at h; cases h
    cases y <;> simp only [dat] at q <;> (try split at q) <;> cases q <;> simp only [PyData.eqv,peq]
  | .bl _,y,d,e,h,q=>by
    simp only [dat] at h; cases h
    cases y <;> simp only [dat] at q <;> (try split at q) <;> cases q <;> simp only [PyData.eqv,peq]
  | .int _,y,d,e,h,q=>by
    simp only [dat] at h; cases h
    cases y <;> simp only [dat] at q <;> (try split at q) <;> cases q <;> simp only [PyData.eqv,peq]
  | .str _,y,d,e,h,q=>by
    simp only [dat] at h; cases h
    cases y <;> simp only [dat] at q <;> (try split at q) <;> cases q <;> simp only [PyData.eqv,peq]
  | .tup xs,y,d,e,h,q=>by
    simp only [dat] at h
    split at h
    · rename_i ds hd
      cases h
      cases y with
      | tup ys =>
        simp only [dat] at q
        split at q
        · rename_i es he
          cases q
          simp only [PyData.eqv,peq]; exact peqs_ok hd he
        · cases q
      | _=>simp only [dat] at q <;> (try split at q) <;> cases q <;> simp only [PyData.eqv,peq]
    · cases h
  | .lst xs,y,d,e,h,q=>by
    simp only [dat] at h
    split at h
    · rename_i ds hd
      cases h
      cases y with
      | lst ys =>
        simp only [dat] at q
        split at q
        · rename_i es he
          cases q
          simp only [PyData.eqv,peq]; exact peqs_ok hd he
        · cases q
      | _=>simp only [dat] at q <;> (try split at q) <;> cases q <;> simp only [PyData.eqv,peq]
    · cases h
  | .scr _,y,d,e,h,q=>by simp [dat] at h
  | .ob _ _ _,y,d,e,h,q=>by simp [dat] at h
  | .ref _,y,d,e,h,q=>by simp [dat] at h
  | .ty _,y,d,e,h,q=>by simp [dat] at h
  | .cl _,y,d,e,h,q=>by simp [dat] at h
  | .emp,y,d,e,h,q=>by simp [dat] at h
  | .dct _ _,y,d,e,h,q=>by simp [dat] at h
theorem peqs_ok:∀ {xs ys:List PV} {ds es:List PyData},dats xs=some ds→dats ys=some es→PyData.eqvAll ds es=peqs xs ys
  | [],[],_,_,h,q=>by simp only [dats] at h q; cases h; cases q; simp only [PyData.eqvAll,peqs]
  | [],y :: ys,_,_,h,q=>by
    simp only [dats] at h q; cases h
    split at q <;> cases q
    simp only [PyData.eqvAll,peqs]
  | x :: xs,[],_,_,h,q=>by
    simp only [dats] at h q; cases q
    split at h <;> cases h
    simp only [PyData.eqvAll,peqs]
  | x :: xs,y :: ys,_,_,h,q=>by
    simp only [dats] at h q
    split at h <;> cases h
    rename_i hd hds
    split at q <;> cases q
    rename_i he hes
    simp only [PyData.eqvAll,peqs]
    rw [peq_ok hd he,peqs_ok hds hes]
end
section
variable {X:Cx} {E:Ev} {pins:List (Addr×Obj)} {σ:L2.St} {F H Z:Hp} {s:Shared}
mutual
theorem dat_reads (I:Inv X pins σ H s) (hK:E.K=X.K) (hz:Same Z H):∀ {x:PV} {v:V} {u:Value} {d:PyData},RP E Z x v→RelV v u→dat x=some d→∃ as,Reads s.heap u d as
  | .non,v,u,d,r,rv,h=>by
    simp only [dat] at h; cases h
    cases (show v= .non from r); cases rv; exact ⟨[],.none⟩
  | .bl b,v,u,d,r,rv,h=>by
    simp only [dat] at h; cases h
    cases (show v= .bl b from r); cases rv; exact ⟨[],.bool b⟩
  | .int i,v,u,d,r,rv,h=>by
    simp only [dat] at h; cases h
    cases (show v= .int i from r); obtain ⟨t,rfl⟩:=rv; exact ⟨[],.int i t⟩
  | .str x,v,u,d,r,rv,h=>by
    simp only [dat] at h; cases h
    cases (show v= .str x from r); obtain ⟨t,rfl⟩:=rv; exact ⟨[],.str x t⟩
  | .tup xs,v,u,d,r,rv,h=>by
    simp only [dat] at h
    split at h <;> cases h
    rename_i ds hd
    obtain ⟨a,vs,rfl,q,t⟩:=r
    cases rv
    obtain ⟨its,rv,ht,_⟩:=I.tuple (hK▸sqT_mono hz q)
    obtain ⟨o,ho,hc,n,hd'⟩:=ht
    obtain ⟨as,q'⟩:=dats_reads I hK hz t rv hd
    exact ⟨as,.tuple ho hc hd' (by simpa using q')⟩
  | .lst xs,v,u,d,r,rv,h=>by
    simp only [dat] at h
    split at h <;> cases h
    rename_i ds hd
    obtain ⟨a,vs,rfl,q,t⟩:=r
    cases rv
    obtain ⟨_,its,n,rv,ho⟩:=I.hok _ _ (hz _ _ q)
    obtain ⟨as,q'⟩:=dats_reads I hK hz t rv hd
    exact ⟨_ :: as,.list ho rfl rfl (by simpa using q')⟩
  | .scr _,v,u,d,r,rv,h=>by simp [dat] at h
  | .ob _ _ _,v,u,d,r,rv,h=>by simp [dat] at h
  | .ref _,v,u,d,r,rv,h=>by simp [dat] at h
  | .ty _,v,u,d,r,rv,h=>by simp [dat] at h
  | .cl _,v,u,d,r,rv,h=>by simp [dat] at h
  | .emp,v,u,d,r,rv,h=>by simp [dat] at h
  | .dct _ _,v,u,d,r,rv,h=>by simp [dat] at h
theorem dats_reads (I:Inv X pins σ H s) (hK:E.K=X.K) (hz:Same Z H):∀ {xs:List PV} {vs:List V} {us:List Value} {ds:List PyData},RPs E Z xs vs→Vals vs us→dats xs=some ds→∃ as,ReadsAll s.heap us ds as
  | [],_,_,_,r,rv,h=>by
    simp only [dats] at h; cases h
    cases r; cases rv; exact ⟨[],.nil⟩
  | x :: xs,_,_,_,r,rv,h=>by
    simp only [dats] at h
    split at h <;> cases h
    rename_i hd hds
    obtain ⟨v,r',rfl,r1,r2⟩:=r
    cases rv with
    | cons q1 q2 =>
      obtain ⟨as,a⟩:=dat_reads I hK hz r1 q1 hd
      obtain ⟨bs,b⟩:=dats_reads I hK hz r2 q2 hds
      exact ⟨as ++ bs,.cons a b⟩
end
noncomputable def pur (G:Gh):PV→PV
  | .ref a=>match G a with
    | some (.lst xs)=>.lst xs
    | _=>.ref a
  | x=>x
noncomputable def shp (x:PV):Bool:=match dat x with | some d=>SeqAt.shaped d | none=>false
theorem pur_reads {G:Gh} (I:Inv X pins σ H s) (hK:E.K=X.K) (S:Sim E F H Z G) {x:PV} {v:V} {u:Value} {d:PyData} (r:RP E Z x v) (rv:RelV v u) (h:dat (pur G x)=some d):∃ as,Reads s.heap u d as:=by
  by_cases hx:∃ a,x= .ref a
  · obtain ⟨a,rfl⟩:=hx
    have e:v= .ref a:=r
    subst e
    cases rv
    unfold pur at h
    dsimp only at h
    split at h
    · rename_i xs e
      obtain ⟨_,o',q,vs,e',t⟩:=S.g _ _ e
      subst e'
      simp only [dat] at h
      split at h <;> cases h
      rename_i ds hd
      obtain ⟨_,its,n,rv,ho⟩:=I.hok _ _ q
      obtain ⟨as,q'⟩:=dats_reads I hK S.z t rv hd
      exact ⟨_ :: as,.list ho rfl rfl (by simpa using q')⟩
    · simp [dat] at h
  · have e:pur G x=x:=by
      unfold pur
      split
      · rename_i a; exact absurd ⟨a,rfl⟩ hx
      · rfl
    rw [e] at h
    exact dat_reads I hK S.z r rv h
noncomputable def pEq (neg:Bool) (x y:PV) (G:Gh) (Q:PK1):Prop:=shp (pur G x)=true∧shp (pur G y)=true∧Q (.bl (if neg then !peq (pur G x) (pur G y) else peq (pur G x) (pur G y))) G
theorem shp_of {x:PV} (h:shp x=true):∃ d,dat x=some d∧SeqAt.shaped d=true:=by
  unfold shp at h
  split at h
  · rename_i d e; exact ⟨d,e,h⟩
  · cases h
theorem low_eq {k:Nat} (hr:Room k X.A) (hK:E.K=X.K):OpR X (compareOp .Eq) (lowOp E F (pEq false)):=by
  intro pins s σ H v w u u' Q I rx ry ⟨x,y,Z,G,Q',r1,r2,S,⟨hx,hy,q⟩,kq⟩
  obtain ⟨d,e1,a1⟩:=shp_of hx
  obtain ⟨e,e2,a2⟩:=shp_of hy
  obtain ⟨as,q1⟩:=pur_reads I hK S r1 rx e1
  obtain ⟨bs,q2⟩:=pur_reads I hK S r2 ry e2
  refine eq_dataH q1 q2 a1 a2 hr.units ⟨.bl _,H,I,rfl, ?_⟩
  rw [peq_ok e1 e2]
  exact kq.here S q rp_bl
theorem low_ne {k:Nat} (hr:Room k X.A) (hK:E.K=X.K):OpR X (compareOp .NotEq) (lowOp E F (pEq true)):=by
  intro pins s σ H v w u u' Q I rx ry ⟨x,y,Z,G,Q',r1,r2,S,⟨hx,hy,q⟩,kq⟩
  obtain ⟨d,e1,a1⟩:=shp_of hx
  obtain ⟨e,e2,a2⟩:=shp_of hy
  obtain ⟨as,q1⟩:=pur_reads I hK S r1 rx e1
  obtain ⟨bs,q2⟩:=pur_reads I hK S r2 ry e2
  refine ne_dataH q1 q2 a1 a2 hr.units ⟨.bl _,H,I,rfl, ?_⟩
  rw [peq_ok e1 e2]
  exact kq.here S q rp_bl
noncomputable def pIxo (x y:PV) (G:Gh) (Q:PK1):Prop:= ∃ xs i,(x= .tup xs∨lstOf G x=some xs)∧(∀ z∈xs,shp z=true)∧shp y=true∧xs.findIdx? (fun z=>peq z y)=some i∧Q (.int i) G
end
end L3
namespace L3
open PySem PySem.Spec
open PyProof.Rows hiding St
open L2
section
variable {E:Ev} {F H Z:Hp} {G:Gh} {X:Cx}
theorem atI_rp {xs:List PV} {vs:List V} {i:Int} {x:PV} (r:RPs E Z xs vs) (h:atI xs i=some x):∃ v,atI vs i=some v∧RP E Z x v:=by
  unfold atI at *
  rw [←r.length]
  cases e:ixN xs.length i with
  | none=>rw [e] at h; cases h
  | some j=>rw [e] at h; exact r.get h
noncomputable def lookD:List Key→List PV→Key→Option PV
  | j :: ks,x :: xs,k=>if j=k then some x else lookD ks xs k
  | _,_,_=>none
noncomputable def pIdx (x y:PV) (G:Gh) (Q:PK1):Prop:=match x,y with
  | .tup xs,.int i=>∃ v,atI xs i=some v∧Q v G
  | .scr ns,.int i=>∃ n,atI ns i=some n∧Q (.int n) G
  | .str z,.int i=>z.length≤sizeLine∧∃ c,atI z.cps.toList i=some c∧Q (.str ⟨#[c]⟩) G
  | .dct ks xs,.int i=>∃ v,lookD ks xs (.inl i)=some v∧Q v G
  | .dct ks xs,.str z=>∃ v,lookD ks xs (.inr z)=some v∧Q v G
  | x,.int i=>∃ xs v,lstOf G x=some xs∧atI xs i=some v∧Q v G
  | _,_=>False
theorem lookD_rp {k:Key} {x:PV}:∀ {ks:List Key} {xs:List PV} {vs:List V},RPs E Z xs vs→lookD ks xs k=some x→∃ v,valV (ks.zip vs) k=some v∧RP E Z x v
  | [],_,_,_,h=>by cases h
  | _ :: _,[],_,_,h=>by cases h
  | j :: ks,y :: ys,_,⟨v,r,e,r1,r2⟩,h=>by
    subst e
    unfold lookD at h
    rw [List.zip_cons_cons]
    split at h
    · rename_i ej; cases h; exact ⟨v,valV_pos ej,r1⟩
    · rename_i ej
      rw [valV_neg ej]
      exact lookD_rp (ks:=ks) r2 h
theorem atI_map {α β:Type} {f:α→β} {xs:List α} {i:Int} {x:α} (h:atI xs i=some x):atI (xs.map f) i=some (f x):=by
  unfold atI at *
  rw [List.length_map]
  cases e:ixN xs.length i with
  | none=>rw [e] at h; cases h
  | some j =>
    rw [e] at h
    have h':xs[j]? =some x:=h
    show (xs.map f)[j]? =some (f x)
    rw [List.getElem?_map,h']; rfl
theorem low_ix {k:Nat} (hr:Room k X.A) (hK:E.K=X.K):IxR X (lowOp E F pIdx):=by
  refine (ix_seq.or (ix_dict hr)).imp fun v u H Q h=>?_
  obtain ⟨x,y,Z,G,Q',r1,r2,S,q,k⟩:=h
  unfold pIdx at q
  split at q
  · obtain ⟨y,e,q⟩:=q
    obtain ⟨a,vs,rfl,ha,ta⟩:=tup_at S r1
    obtain ⟨w,e',rw'⟩:=atI_rp ta e
    exact .inl (.inr (.inl ⟨a,vs,_,w,rfl,r2,hK▸ha,e',k.here S q rw'⟩))
  · obtain ⟨n,e,q⟩:=q
    obtain ⟨a,rfl,ha⟩:=r1
    exact .inl (.inl ⟨a,_,_,_,rfl,r2,hK▸S.z.seq ha,atI_map e,k.here S q rp_int⟩)
  · obtain ⟨hz,c,e,q⟩:=q
    exact .inl (.inr (.inr ⟨_,_,c,r1,r2,hz,e,k.here S q rp_str⟩))
  · obtain ⟨y,e,q⟩:=q
    obtain ⟨a,vs,rfl,ha,_,ta⟩:=r1
    obtain ⟨w,e',rw'⟩:=lookD_rp ta e
    have r2:u=kV (.inl _):=r2
    rw [r2]
    refine .inr ⟨a,w,rfl, ?_,k.here S q rw'⟩
    rw [←e']; exact .k (S.z _ _ ha)
  · obtain ⟨y,e,q⟩:=q
    obtain ⟨a,vs,rfl,ha,_,ta⟩:=r1
    obtain ⟨w,e',rw'⟩:=lookD_rp ta e
    have r2:u=kV (.inr _):=r2
    rw [r2]
    refine .inr ⟨a,w,rfl, ?_,k.here S q rw'⟩
    rw [←e']; exact .k (S.z _ _ ha)
  · obtain ⟨xs,y,e0,e,q⟩:=q
    obtain ⟨a,vs,rfl,ha,ta⟩:=lst_at S r1 e0
    obtain ⟨w,e',rw'⟩:=atI_rp ta e
    exact .inl (.inl ⟨a,vs,_,w,rfl,r2,SqL.of ha,e',k.here S q rw'⟩)
  · exact q.elim
noncomputable def pSet (o i v:PV) (G:Gh) (Q:Gh→Prop):Prop:= ∃ a xs k j,o= .ref a∧i= .int k∧G a=some (.lst xs)∧ixN xs.length k=some j∧Q (gup G a (.lst (xs.set j v)))
noncomputable def lowSet (E:Ev) (F:Hp) (p:PV→PV→PV→Gh→(Gh→Prop)→Prop):TSet:=fun o i v H Q=>∃ o' i' v' Z G Q',RP E Z o' o∧RP E Z i' i∧RP E Z v' v∧Sim E F H Z G∧p o' i' v' G Q'∧∀ G1 H1,Sim E F H1 Z G1→Q' G1→Q H1
theorem low_set:PSet X (lowSet E F pSet):=by
  intro pins s σ H o i v ov iv u Q I ro ri rv ⟨o',i',v',Z,G,Q',r1,r2,r3,S,⟨a,xs,k,j,e1,e2,hG,ix,q⟩,kq⟩
  subst e1 e2
  have e1:o= .ref a:=r1
  have e2:i= .int k:=r2
  subst e1 e2
  obtain ⟨_,o',hH,vs,e,t⟩:=S.g _ _ hG
  subst e
  exact set_list pins s σ H (.ref a) (.int k) v ov iv u Q I ro ri rv ⟨a,vs,k,j,rfl,rfl,hH,by rw [←t.length]; exact ix,kq _ _ (S.set (go:=.lst (xs.set j v')) hG ⟨_,rfl,t.set r3 j⟩) q⟩
noncomputable def cutP (xs:List PV) (lo hi:Option Int):List PV:=(xs.drop (HT.sIx xs.length 0 lo)).take (HT.sIx xs.length xs.length hi - HT.sIx xs.length 0 lo)
theorem cut_rp {xs:List PV} {vs:List V} {lo hi:Option Int} (r:RPs E Z xs vs):RPs E Z (cutP xs lo hi) (cutV vs lo hi):=by
  unfold cutP cutV
  rw [r.length]
  exact (r.drop _).take _
noncomputable def pSli (x:PV) (lo hi:Option Int) (G:Gh) (Q:PK1):Prop:=match x with
  | .tup xs=>¬(HT.sIx xs.length 0 lo=0∧HT.sIx xs.length xs.length hi=xs.length)∧Q (.tup (cutP xs lo hi)) G
  | .scr ns=>Q (.lst (cutP (ns.map .int) lo hi)) G
  | x=>∃ xs,lstOf G x=some xs∧Q (.lst (cutP xs lo hi)) G
noncomputable def lowSl (E:Ev) (F:Hp) (p:PV→Option Int→Option Int→Gh→PK1→Prop):V→Option Int→Option Int→Hp→VK→Prop:=fun v lo hi H Q=>∃ x Z G Q',RP E Z x v∧Sim E F H Z G∧p x lo hi G Q'∧Kq E F Z Q' Q
theorem SlR.imp {r r':V→Option Int→Option Int→Hp→VK→Prop} (h:SlR X r) (f:∀ x l u H Q,r' x l u H Q→r x l u H Q):SlR X r':=fun pins s σ H x v vl vu lo hi sl Q I rx hs pl pu q=>h pins s σ H x v vl vu lo hi sl Q I rx hs pl pu (f _ _ _ _ _ q)
theorem low_sl (hK:E.K=X.K):SlR X (lowSl E F pSli):=by
  refine SlR.imp (SlR.or sl_tup sl_list) fun v lo hi H Q h=>?_
  obtain ⟨x,Z,G,Q',r1,S,q,k⟩:=h
  unfold pSli at q
  split at q
  · obtain ⟨nw,q⟩:=q
    obtain ⟨a,vs,rfl,ha,ta⟩:=tup_at S r1
    exact .inl ⟨a,vs,rfl,hK▸ha,by rw [←ta.length]; exact nw,fun p n=>k.newZ S n (rp_newT (S.zn n) (cut_rp ta)) q⟩
  · obtain ⟨a,rfl,ha⟩:=r1
    exact .inr ⟨a,_,rfl,hK▸S.z.seq ha,fun p n=>k.newZ S n (rp_newL (S.zn n) (cut_rp (RPs.ofInts _))) q⟩
  · obtain ⟨xs,e0,q⟩:=q
    obtain ⟨a,vs,rfl,ha,ta⟩:=lst_at S r1 e0
    exact .inr ⟨a,vs,rfl,SqL.of ha,fun p n=>k.newZ S n (rp_newL (S.zn n) (cut_rp ta)) q⟩
noncomputable def pTru (x:PV) (G:Gh) (Q:Bool→Gh→Prop):Prop:=match x with
  | .non=>Q false G
  | .bl b=>Q b G
  | .int i=>Q (i != 0) G
  | .str y=>y.length≤sizeLine∧Q ((y.length:Int) != 0) G
  | .tup xs=>Q (!xs.isEmpty) G
  | x=>∃ xs,lstOf G x=some xs∧Q (!xs.isEmpty) G
theorem rps_empty {xs:List PV} {vs:List V} (r:RPs E Z xs vs):xs.isEmpty=vs.isEmpty:=by
  cases xs with
  | nil=>cases r; rfl
  | cons x xs=>obtain ⟨_,_,e,_,_⟩:=r; subst e; rfl
theorem low_tru {x:PV} {v:V} {Q':Bool→Gh→Prop} (hK:E.K=X.K) (S:Sim E F H Z G) (r:RP E Z x v) (q:pTru x G Q'):∃ b,TruV X.K v H b∧Q' b G:=by
  unfold pTru at q
  split at q
  · cases (show v= .non from r); exact ⟨_,rfl,q⟩
  · cases (show v= .bl _ from r); exact ⟨_,rfl,q⟩
  · cases (show v= .int _ from r); exact ⟨_,rfl,q⟩
  · cases (show v= .str _ from r); exact ⟨_,⟨q.1,rfl⟩,q.2⟩
  · obtain ⟨a,vs,rfl,ha,ta⟩:=tup_at S r
    exact ⟨_,.inr (.inl ⟨vs,hK▸ha,by rw [rps_empty ta]⟩),q⟩
  · obtain ⟨xs,e0,q⟩:=q
    obtain ⟨a,vs,rfl,ha,ta⟩:=lst_at S r e0
    exact ⟨_,.inl ⟨vs,SqL.of ha,by rw [rps_empty ta]⟩,q⟩
inductive Bn where
  | len | abs | max | min | int | str | isi | tuple | list | all | any | sum | bool | repr | divmod
  deriving DecidableEq
noncomputable abbrev Sp3:=List PV→Gh→PK1→Prop
noncomputable def lowC (E:Ev) (F:Hp) (p:List PV→Gh→PK1→Prop):List V→Hp→VK→Prop:=fun vs H Q=>∃ xs Z G Q',RPs E Z xs vs∧Sim E F H Z G∧p xs G Q'∧Kq E F Z Q' Q
noncomputable def bNam:PV→Gh→Option String
  | .non,_=>some "NoneType"
  | .bl _,_=>some "bool"
  | .int _,_=>some "int"
  | .str _,_=>some "str"
  | .tup _,_=>some "tuple"
  | .lst _,_=>some "list"
  | .emp,_=>some "dict"
  | .dct _ _,_=>some "dict"
  | .ref a,G=>match G a with
    | some (.lst _)=>some "list"
    | _=>none
  | _,_=>none
noncomputable def cNam:PV→Gh→Option String
  | .ob c _ _,_=>some c
  | .ref a,G=>match G a with
    | some (.ins c _ _)=>some c
    | _=>none
  | _,_=>none
structure ClsOk (E:Ev) (cs:List String):Prop where
  own:∀ c∈cs,OwnC E.K (E.cls c)
  plain:∀ c∈cs,∀ n∈okNs,PySem.W.kitOne E.K (.type n) (.ref (E.cls c))=some false
  other:∀ c∈cs,∀ T∈okTs,PySem.W.kitOne E.K (.ref (E.cls c)) (.type T)=some false
  apart:∀ c∈cs,∀ c'∈cs,c≠c'→PySem.W.kitOne E.K (.ref (E.cls c)) (.ref (E.cls c'))=some false
noncomputable def allP:List PV→Option Bool
  | []=>some true
  | .bl b :: r=>(allP r).map (b && ·)
  | _ :: _=>none
theorem allP_ok:∀ {xs:List PV} {b:Bool},allP xs=some b→∃ bs:List Bool,xs=bs.map PV.bl∧b=bs.all id
  | [],b,h=>by cases h; exact ⟨[],rfl,rfl⟩
  | x :: r,b,h=>by
    cases x with
    | bl c =>
      unfold allP at h
      cases e:allP r with
      | none=>rw [e] at h; cases h
      | some d =>
        rw [e] at h; cases h
        obtain ⟨bs,e1,e2⟩:=allP_ok e
        exact ⟨c :: bs,by rw [e1]; rfl,by rw [e2]; rfl⟩
    | _=>cases h
theorem RPs.bools:∀ {bs:List Bool} {vs:List V},RPs E Z (bs.map PV.bl) vs→vs=bs.map V.bl
  | [],_,h=>h
  | _ :: _,_,⟨v,r,e1,h,t⟩=>by
    have h':v=V.bl _:=h
    subst e1 h'; rw [RPs.bools t]; rfl
noncomputable def pBlt (cs:List String):Bn→List PV→Gh→PK1→Prop
  | .len,[x],G,Q=>(∃ xs,x= .tup xs∧Q (.int xs.length) G)∨(∃ ns,x= .scr ns∧Q (.int ns.length) G)∨(∃ z,x= .str z∧z.length≤sizeLine∧Q (.int z.length) G)∨∃ xs,lstOf G x=some xs∧Q (.int xs.length) G
  | .abs,[.int i],G,Q=>Q (.int (i.natAbs:Int)) G
  | .max,[.int i,.int j],G,Q=>Q (.int (max i j)) G
  | .max,[.tup xs],G,Q=>∃ ns:List Int,xs=ns.map PV.int∧ns≠ []∧∀ m,m∈ns→(∀ x∈ns,x≤m)→Q (.int m) G
  | .min,[.int i,.int j],G,Q=>Q (.int (min i j)) G
  | .int,[.int i],G,Q=>Q (.int i) G
  | .int,[.bl b],G,Q=>Q (.int (if b then 1 else 0)) G
  | .str,[.int i],G,Q=>i.natAbs.log2 < 1920∧Q (.str (toString i)) G
  | .isi,[x,.ty T],G,Q=>T∈okTs∧((∃ n,bNam x G=some n∧Q (.bl (isTy n T)) G)∨∃ c,cNam x G=some c∧c∈cs∧Q (.bl false) G)
  | .isi,[x,.cl c],G,Q=>c∈cs∧((∃ n,bNam x G=some n∧Q (.bl false) G)∨∃ c',cNam x G=some c'∧c'∈cs∧Q (.bl (decide (c'=c))) G)
  | .tuple,[x],G,Q=>(∃ xs,x= .tup xs∧Q x G)∨∃ xs,lstOf G x=some xs∧Q (.tup xs) G
  | .all,[x],G,Q=>∃ xs b,lstOf G x=some xs∧allP xs=some b∧Q (.bl b) G
  | _,_,_,_=>False
noncomputable def bVal:Bn→Value
  | .len=>.builtin "len"
  | .abs=>.builtin "abs"
  | .max=>.builtin "max"
  | .min=>.builtin "min"
  | .int=>.type "int"
  | .str=>.type "str"
  | .isi=>.builtin "isinstance"
  | .tuple=>.type "tuple"
  | .list=>.type "list"
  | .all=>.builtin "all"
  | .any=>.builtin "any"
  | .sum=>.builtin "sum"
  | .bool=>.type "bool"
  | .repr=>.builtin "repr"
  | .divmod=>.builtin "divmod"
theorem rps1 {x:PV} {vs:List V} (r:RPs E Z [x] vs):∃ v,vs=[v]∧RP E Z x v:=by
  obtain ⟨v,t,e,r1,r2⟩:=r
  have e2:t=[]:=r2
  subst e2
  exact ⟨v,e,r1⟩
theorem rps2 {x y:PV} {vs:List V} (r:RPs E Z [x,y] vs):∃ v u,vs=[v,u]∧RP E Z x v∧RP E Z y u:=by
  obtain ⟨v,t,e,r1,u,t',e',r2,r3⟩:=r
  have e2:t'=[]:=r3
  subst e2 e'
  exact ⟨v,u,e,r1,r2⟩
theorem bNam_ty {x:PV} {v:V} {n:String} (S:Sim E F H Z G) (r:RP E Z x v) (h:bNam x G=some n):n∈okNs∧(tyN H v=some n∨(n="tuple"∧∃ a vs,v= .ref a∧SqT E.K H a vs)):=by
  cases x with
  | non=>cases h; cases (show v= .non from r); exact ⟨by decide,.inl rfl⟩
  | bl b=>cases h; cases (show v= .bl b from r); exact ⟨by decide,.inl rfl⟩
  | int b=>cases h; cases (show v= .int b from r); exact ⟨by decide,.inl rfl⟩
  | str b=>cases h; cases (show v= .str b from r); exact ⟨by decide,.inl rfl⟩
  | tup xs =>
    cases h
    obtain ⟨a,vs,rfl,ha,_⟩:=tup_at S r
    exact ⟨by decide,.inr ⟨rfl,a,vs,rfl,ha⟩⟩
  | lst xs =>
    cases h
    obtain ⟨a,vs,rfl,ha,_⟩:=lst_at (xs:=xs) S r rfl
    exact ⟨by decide,.inl (by simp only [tyN,ha])⟩
  | emp =>
    cases h
    obtain ⟨a,rfl,ha⟩:=r
    exact ⟨by decide,.inl (by simp only [tyN,S.z _ _ ha])⟩
  | dct ks xs =>
    cases h
    obtain ⟨a,vs,rfl,ha,_,_⟩:=r
    exact ⟨by decide,.inl (by simp only [tyN,S.z _ _ ha])⟩
  | ref a =>
    unfold bNam at h
    dsimp only at h
    split at h
    · rename_i xs e
      cases h
      obtain ⟨a',vs,rfl,ha,_⟩:=lst_at (xs:=xs) S r (by unfold lstOf; dsimp only; rw [e])
      exact ⟨by decide,.inl (by simp only [tyN,ha])⟩
    · cases h
  | _=>cases h
theorem isi_low {pins:List (Addr×Obj)} {σ:L2.St} {s:Shared} {x:PV} {v:V} {u c:Value} {n:String} {b:Bool} {Q:VK} (hK:E.K=X.K) (I:Inv X pins σ H s) (S:Sim E F H Z G) (r:RP E Z x v) (rv:RelV v u) (h:bNam x G=some n)
    (e:PySem.W.kitOne X.K (.type n) c=some b) (q:Q (.bl b) H):wpAny (model X.prog X.w) X.A (call (.builtin "isinstance") [u,c]) (EP X pins σ Q) X.xe s:=by
  obtain ⟨_,t | ⟨hn,a,vs,hv,ha⟩⟩:=bNam_ty S r h
  · exact isinst_ok I rv (tyN_of t) e fun tk=>⟨.bl b,H,I.tok tk,rfl,q⟩
  · subst hn hv
    cases rv
    obtain ⟨its,_,⟨o,h1,h2,_⟩,_⟩:=I.tuple (hK▸ha)
    exact PySem.W.kia_one PySem.W.kitx_tuple I.kIn ⟨o,h1,h2⟩ e (fun z=>nomatch z) fun tk=>⟨.bl b,H,I.tok tk,rfl,q⟩
theorem cNam_at {x:PV} {v:V} {c:String} (S:Sim E F H Z G) (r:RP E Z x v) (h:cNam x G=some c):∃ a dx fs,v= .ref a∧H a=some (.ins (E.cls c) dx fs):=by
  cases x with
  | ob c' ns xs =>
    cases h
    obtain ⟨a,dx,vs,rfl,q,_,_⟩:=r
    exact ⟨a,dx,_,rfl,S.z _ _ q⟩
  | ref a =>
    unfold cNam at h
    dsimp only at h
    split at h
    · rename_i c' ns xs e
      cases h
      have e1:v= .ref a:=r
      subst e1
      obtain ⟨_,o',q,dx,vs,e',_,_⟩:=S.g _ _ e
      subst e'
      exact ⟨a,dx,_,rfl,q⟩
    · cases h
  | _=>cases h
theorem isi_cls {pins:List (Addr×Obj)} {σ:L2.St} {s:Shared} {x:PV} {v:V} {u t:Value} {c:String} {b:Bool} {Q:VK} (hK:E.K=X.K) (I:Inv X pins σ H s) (S:Sim E F H Z G) (r:RP E Z x v) (rv:RelV v u) (h:cNam x G=some c) (O:OwnC E.K (E.cls c))
    (e:PySem.W.kitOne X.K (.ref (E.cls c)) t=some b) (q:Q (.bl b) H):wpAny (model X.prog X.w) X.A (call (.builtin "isinstance") [u,t]) (EP X pins σ Q) X.xe s:=by
  obtain ⟨a,dx,fs,rfl,ha⟩:=cNam_at S r h
  have O:OwnC X.K (E.cls c):=hK▸O
  exact isinst_ok I rv (.ins ha O.cl O.ha O.hn O.htk O.hm) e fun tk=>⟨.bl b,H,I.tok tk,rfl,q⟩
theorem CallR.or {f:Value} {r r':List V→Hp→VK→Prop} (h:CallR X f r) (h':CallR X f r'):CallR X f (fun xs H Q=>r xs H Q∨r' xs H Q):=by
  intro pins s σ H xs us Q I rs q
  rcases q with q | q
  · exact h pins s σ H xs us Q I rs q
  · exact h' pins s σ H xs us Q I rs q
theorem noC {f:Value} {p:List PV→Gh→PK1→Prop} (h:∀ xs G Q,¬p xs G Q):CallR X f (lowC E F p):=fun _ _ _ _ _ _ _ _ _ ⟨_,_,_,_,_,_,q,_⟩=>absurd q (h _ _ _)
theorem low_blt {cs:List String} (hK:E.K=X.K) (hc:X.calm=true) (C:ClsOk E cs):∀ b,CallR X (bVal b) (lowC E F (pBlt cs b))
  | .len =>by
    refine (CallR.or call_len_seq call_len_str).imp fun vs H Q h=>?_
    obtain ⟨xs,Z,G,Q',r,S,q,k⟩:=h
    match xs,q with
    | [x],q =>
      obtain ⟨v,rfl,rr⟩:=rps1 r
      rcases q with ⟨ys,rfl,q⟩ | ⟨ns,rfl,q⟩ | ⟨z,rfl,hz,q⟩ | ⟨ys,e,q⟩
      · obtain ⟨a,vs,rfl,ha,ta⟩:=tup_at S rr
        exact .inl ⟨a,vs,rfl,.inr (hK▸ha),k.here S q (by rw [ta.length]; exact rp_int)⟩
      · obtain ⟨a,rfl,ha⟩:=rr
        exact .inl ⟨a,_,rfl,.inl (hK▸S.z.seq ha),k.here S q (by rw [List.length_map]; exact rp_int)⟩
      · exact .inr ⟨z,by rw [show v= .str z from rr],hz,k.here S q rp_int⟩
      · obtain ⟨a,vs,rfl,ha,ta⟩:=lst_at S rr e
        exact .inl ⟨a,vs,rfl,.inl (SqL.of ha),k.here S q (by rw [ta.length]; exact rp_int)⟩
  | .abs=>by
    refine call_absN.imp fun vs H Q h=>?_
    obtain ⟨xs,Z,G,Q',r,S,q,k⟩:=h
    match xs,q with
    | [.int i],q =>
      obtain ⟨v,rfl,rr⟩:=rps1 r
      exact ⟨i,by rw [show v= .int i from rr],k.here S q rp_int⟩
  | .max=>by
    refine (CallR.or (call_max2 hc) (call_maxT hc)).imp fun vs H Q h=>?_
    obtain ⟨xs,Z,G,Q',r,S,q,k⟩:=h
    match xs,q with
    | [.int i,.int j],q =>
      obtain ⟨v,u,rfl,r1,r2⟩:=rps2 r
      have e:max i j=if j > i then j else i:=by split <;> omega
      exact .inl ⟨i,j,by rw [show v= .int i from r1,show u= .int j from r2],k.here S q (by rw [e]; exact rp_int)⟩
    | [.tup ys],q =>
      obtain ⟨v,rfl,rr⟩:=rps1 r
      obtain ⟨ns,rfl,hne,q⟩:=q
      obtain ⟨a,vs,rfl,ha,ta⟩:=tup_at S rr
      exact .inr ⟨a,ns,rfl,by rw [←ta.ints]; exact hK▸ha,hne,fun m h1 h2=>k.here S (q m h1 h2) rp_int⟩
  | .min=>by
    refine (call_min2 hc).imp fun vs H Q h=>?_
    obtain ⟨xs,Z,G,Q',r,S,q,k⟩:=h
    match xs,q with
    | [.int i,.int j],q =>
      obtain ⟨v,u,rfl,r1,r2⟩:=rps2 r
      have e:min i j=if j < i then j else i:=by split <;> omega
      exact ⟨i,j,by rw [show v= .int i from r1,show u= .int j from r2],k.here S q (by rw [e]; exact rp_int)⟩
  | .int=>by
    refine call_int1.imp fun vs H Q h=>?_
    obtain ⟨xs,Z,G,Q',r,S,q,k⟩:=h
    match xs,q with
    | [.int i],q =>
      obtain ⟨v,rfl,rr⟩:=rps1 r
      exact .inl ⟨i,by rw [show v= .int i from rr],k.here S q rp_int⟩
    | [.bl i],q =>
      obtain ⟨v,rfl,rr⟩:=rps1 r
      exact .inr ⟨i,by rw [show v= .bl i from rr],k.here S q rp_int⟩
  | .str=>by
    refine call_str_int.imp fun vs H Q h=>?_
    obtain ⟨xs,Z,G,Q',r,S,q,k⟩:=h
    match xs,q with
    | [.int i],q =>
      obtain ⟨v,rfl,rr⟩:=rps1 r
      exact ⟨i,by rw [show v= .int i from rr],q.1,k.here S q.2 rp_str⟩
  | .isi =>by
    intro pins s σ H vs us Q I rv h
    obtain ⟨xs,Z,G,Q',r,S,q,k⟩:=h
    match xs,q with
    | [x,.ty T],q =>
      obtain ⟨v,w',rfl,r1,r2⟩:=rps2 r
      obtain ⟨u,u',rfl,rv1,rv2⟩:=vals2 rv
      have e:w'= .ty T:=r2
      subst e
      have e2:u'= .type T:=rv2
      subst e2
      obtain ⟨hT,⟨n,hn,q⟩ | ⟨c,hcn,hcs,q⟩⟩:=q
      · exact isi_low hK I S r1 rv1 hn (kit_ok X.K n (bNam_ty S r1 hn).1 T hT) (k.here S q rp_bl)
      · exact isi_cls hK I S r1 rv1 hcn (C.own c hcs) (hK▸C.other c hcs T hT) (k.here S q rp_bl)
    | [x, .cl c],q =>
      obtain ⟨v,w',rfl,r1,r2⟩:=rps2 r
      obtain ⟨u,u',rfl,rv1,rv2⟩:=vals2 rv
      have e:w'= .ref (E.cls c):=r2
      subst e
      have e2:u'= .ref (E.cls c):=rv2
      subst e2
      obtain ⟨hcs,⟨n,hn,q⟩ | ⟨c',hcn,hcs',q⟩⟩:=q
      · exact isi_low hK I S r1 rv1 hn (hK▸C.plain c hcs n (bNam_ty S r1 hn).1) (k.here S q rp_bl)
      · by_cases e:c'=c
        · subst e
          rw [decide_eq_true rfl] at q
          exact isi_cls hK I S r1 rv1 hcn (C.own _ hcs') (by unfold PySem.W.kitOne; rw [if_pos (beq_self_eq_true _)]) (k.here S q rp_bl)
        · rw [decide_eq_false e] at q
          exact isi_cls hK I S r1 rv1 hcn (C.own _ hcs') (hK▸C.apart c' hcs' c hcs e) (k.here S q rp_bl)
  | .tuple=>by
    refine call_tuple_of.imp fun vs H Q h=>?_
    obtain ⟨xs,Z,G,Q',r,S,q,k⟩:=h
    match xs,q with
    | [x],q =>
      obtain ⟨v,rfl,rr⟩:=rps1 r
      rcases q with ⟨ys,rfl,q⟩ | ⟨ys,e,q⟩
      · obtain ⟨a,vs,e,ha,ta⟩:=tup_at S rr
        subst e
        exact ⟨a,vs,rfl,.inr ⟨hK▸ha,k.here S q rr⟩⟩
      · obtain ⟨a,vs,rfl,ha,ta⟩:=lst_at S rr e
        exact ⟨a,vs,rfl,.inl ⟨SqL.of ha,fun l n=>k.newZ S n (rp_newT (S.zn n) ta) q⟩⟩
  | .list=>noC fun xs G Q q=>by unfold pBlt at q; exact q
  | .divmod=>noC fun xs G Q q=>by unfold pBlt at q; exact q
  | .all=>by
    refine (call_allL hc).imp fun vs H Q h=>?_
    obtain ⟨xs,Z,G,Q',r,S,q,k⟩:=h
    match xs,q with
    | [x],q =>
      obtain ⟨v,rfl,rr⟩:=rps1 r
      obtain ⟨ys,b,e,eb,q⟩:=q
      obtain ⟨bs,e1,e2⟩:=allP_ok eb
      subst e1 e2
      obtain ⟨a,vs,rfl,ha,ta⟩:=lst_at S rr e
      exact ⟨a,bs,rfl,by rw [←ta.bools]; exact ha,k.here S q rp_bl⟩
  | .any=>noC fun xs G Q q=>by unfold pBlt at q; exact q
  | .sum=>noC fun xs G Q q=>by unfold pBlt at q; exact q
  | .bool=>noC fun xs G Q q=>by unfold pBlt at q; exact q
  | .repr=>noC fun xs G Q q=>by unfold pBlt at q; exact q
end
end L3
namespace L3
open PySem PySem.Spec
open PyProof.Rows hiding St
open L2
inductive Ar where
  | arg (i:Nat) | non | bl (b:Bool) | int (i:Int) | str (x:Str)
  deriving DecidableEq
noncomputable def Ar.val (xs:List PV):Ar→PV
  | .arg i=>xs.getD i .non
  | .non=>.non
  | .bl b=>.bl b
  | .int i=>.int i
  | .str x=>.str x
inductive CE where
  | var (i:Nat) | int (i:Int) | bl (b:Bool) | non | str (x:Str) | glo (x:Str)
  | bin (op:Operator) (a b:CE) | neg (a:CE) | no (a:CE)
  | cmp (op:CmpOp) (a b:CE) | chn (op op':CmpOp) (a b c:CE)
  | an (a b:CE) | oo (a b:CE) | ite (c a b:CE) | tst (a:CE) | tsb (a:CE)
  | tup (es:CE) | lst (m:Bool) (es:CE) | nil | cons (a b:CE)
  | idx (a i:CE) | sli (a lo hi:CE) | rev (a:CE) | att (a:CE) (f:Str)
  | cal (f:Str) (es:CE) | cak (f:Str) (es ks:CE) (ar:List Ar) | blt (b:Bn) (es:CE) | app (a e:CE)
  | cmpr (m:Bool) (tg it ts el:CE) (js:List (Option Nat))
  | isq (e:CE) | irg (es:CE) | ien (e:CE) | izp (es:CE)
  | gn (i:Nat) | gt (n:Nat) (gs:CE)
  | ch3 (o1 o2 o3:CmpOp) (a b c d:CE) | ceq (eqs:List (String×Str)) (a b:CE) | cin (neg:Bool) (eqs:List (String×Str)) (a b:CE) | emp | dct (es:CE) | ixo (a e:CE) | bow (b:Bn) (ls:List (String×Str)) (es:CE) | joi (a e:CE) | fst (es:CE) | cne (eqs:List (String×Str)) (a b:CE) | noo (ls:List (String×Str)) (a:CE) | lrg (m:Bool) (a:CE) | ladd (a b:CE) | gl (n:Nat) (gs:CE)
  deriving DecidableEq
inductive CS where
  | nil | seq (a b:CS) | ex (e:CE) | asg (g e:CE) | par (i j:Nat) (a b:CE) | sub (o i e:CE) | fld (o:CE) (f:Str) (e:CE)
  | iff (c:CE) (a b:CS) | wh (c:CE) (b:CS) | fr (g it:CE) (b:CS) | ret (e:CE) | retN | nev
  deriving DecidableEq
structure Tb where
  S:Str→Sp3
  gv:Str→PV
  cs:List String
  fl:List (String×Str)
noncomputable def pNeg (x:PV) (G:Gh) (Q:PK1):Prop:=match x with
  | .int i=>Q (.int (-i)) G
  | _=>False
noncomputable def pIs (neg:Bool) (x y:PV) (G:Gh) (Q:PK1):Prop:=match y with
  | .non=>(x= .non∧Q (.bl (!neg)) G)∨(x≠.non∧Q (.bl neg) G)
  | .bl b=>∃ c,x= .bl c∧Q (.bl (if neg then !(c == b) else c == b)) G
  | _=>False
noncomputable def pCmp:CmpOp→P2
  | .Lt=>pI (fun _ _=>True) fun i j=>.bl (decide (i < j))
  | .LtE=>pI (fun _ _=>True) fun i j=>.bl (decide (i≤j))
  | .Gt=>pI (fun _ _=>True) fun i j=>.bl (decide (j < i))
  | .GtE=>pI (fun _ _=>True) fun i j=>.bl (decide (j≤i))
  | .Eq=>pEq false
  | .NotEq=>pEq true
  | .Is=>pIs false
  | .IsNot=>pIs true
  | _=>fun _ _ _ _=>False
noncomputable def pAtt (T:Tb) (x:PV) (f:Str) (G:Gh) (Q:PK1):Prop:= ∃ c ns xs v,(x= .ob c ns xs∨∃ a,x= .ref a∧G a=some (.ins c ns xs))∧(c,f)∈T.fl∧(ns.zip xs).lookup f=some v∧Q v G
noncomputable abbrev PTG:=PV→PSt→Gh→(PSt→Gh→Prop)→Prop
noncomputable abbrev PTI:=PSt→Gh→((Gh→Prop)→List PV→Gh→Prop)→Prop
noncomputable def capP (js:List (Option Nat)) (σ:PSt):PSt:=js.map fun o=>match o with | none=>none | some j=>(σ[j]?).getD none
noncomputable def compP (chk:Gh→Prop) (g:PTG) (ts:PTT) (te:PTE):List PV→List PV→PSt→Gh→(List PV→Gh→Prop)→Prop
  | [],acc,_,G,Q=>chk G∧Q acc G
  | x :: r,acc,σ,G,Q=>chk G∧g x σ G fun σ2 G2=>ts σ2 G2 fun ok G3=>if ok=true then te σ2 G3 fun y G4=>compP chk g ts te r (acc ++ [y]) σ2 G4 Q else compP chk g ts te r acc σ2 G3 Q
noncomputable def forP (chk:Gh→Prop) (g:PTG) (tb:PTS) (D:PEnds):List PV→PSt→Gh→Prop
  | [],σ,G=>chk G∧D.nx σ G
  | x :: r,σ,G=>chk G∧g x σ G fun σ2 G2=>tb { D with nx:=forP chk g tb D r,ct:=forP chk g tb D r,bk:=D.nx } σ2 G2
noncomputable def gupL (m:Bool) (G:Gh) (xs:List PV) (Q:PK1):Prop:=if m=true then ∀ p,G p=none→Q (.ref p) (gup G p (.lst xs)) else Q (.lst xs) G
noncomputable def rngP (lo:Int) (n:Nat):List PV:=(List.range n).map fun (k:Nat)=>PV.int (lo + (k:Int))
noncomputable def enuP (xs:List PV):List PV:=xs.zipIdx.map fun p=>PV.tup [.int (p.2:Int),p.1]
noncomputable def rowOf:PV→Option (List PV)
  | .tup ys=>some ys
  | .lst ys=>some ys
  | _=>none
noncomputable def zipP (n:Nat) (yss:List (List PV)):List PV:=(List.range n).map fun i=>PV.tup (yss.map fun ys=>ys.getD i .non)
noncomputable def seqI (x:PV) (G:Gh) (R:(Gh→Prop)→List PV→Gh→Prop):Prop:=match x with
  | .tup xs=>R (fun _=>True) xs G
  | .lst xs=>R (fun _=>True) xs G
  | .scr ns=>R (fun _=>True) (ns.map .int) G
  | .ref a=>∃ xs,G a=some (.lst xs)∧R (fun G'=>G' a=some (.lst xs)) xs G
  | _=>False
noncomputable def pEqO (T:Tb) (eqs:List (String×Str)) (x y:PV) (G:Gh) (Q:PK1):Prop :=
  (∃ c m ns xs ns' ys,(c,m)∈eqs∧x= .ob c ns xs∧y= .ob c ns' ys∧T.S m [x,y] G fun v G'=>∃ b,v= .bl b∧Q (.bl b) G')∨pEq false x y G Q
noncomputable def pNeO (T:Tb) (eqs:List (String×Str)) (x y:PV) (G:Gh) (Q:PK1):Prop :=
  (∃ c m ns xs ns' ys,(c,m)∈eqs∧x= .ob c ns xs∧y= .ob c ns' ys∧T.S m [x,y] G fun v G'=>∃ b,v= .bl b∧Q (.bl (!b)) G')∨pEq true x y G Q
noncomputable def pNoO (T:Tb) (ls:List (String×Str)) (x:PV) (G:Gh) (Q:PK1):Prop :=
  (∃ c m ns xs,(c,m)∈ls∧x= .ob c ns xs∧T.S m [x] G fun v G'=>∃ n:Int,v= .int n∧0≤n∧n < 2 ^ 63∧Q (.bl (!(n != 0))) G')∨pTru x G fun b G'=>Q (.bl (!b)) G'
noncomputable def bowQ (b:Bn) (v:PV) (G:Gh) (Q:PK1):Prop:=match b with
  | .len=>∃ n:Int,v= .int n∧0≤n∧n < 2 ^ 63∧Q (.int n) G
  | .bool=>∃ n:Int,v= .int n∧0≤n∧n < 2 ^ 63∧Q (.bl (n != 0)) G
  | .str=>∃ x,v= .str x∧Q (.str x) G
  | .repr=>∃ x,v= .str x∧Q (.str x) G
  | _=>False
noncomputable def pBow (T:Tb) (b:Bn) (ls:List (String×Str)) (xs:List PV) (G:Gh) (Q:PK1):Prop :=
  (∃ c m ns ys,(c,m)∈ls∧xs=[.ob c ns ys]∧T.S m xs G fun v G'=>bowQ b v G' Q)∨pBlt T.cs b xs G Q
noncomputable def pInO (T:Tb) (eqs:List (String×Str)) (neg:Bool) (x y:PV) (G:Gh) (Q:PK1):Prop :=
  ∃ c m ns xs ns' ys,(c,m)∈eqs∧x= .ob c ns xs∧y= .lst [.ob c ns' ys]∧Q (.bl (!neg)) G∧T.S m [.ob c ns' ys,x] G fun v G'=>∃ b,v= .bl b∧Q (.bl (if neg=true then !b else b)) G'
noncomputable def pLadd (x y:PV) (G:Gh) (Q:PK1):Prop:= ∃ xs ys,lstOf G x=some xs∧lstOf G y=some ys∧xs.length + ys.length≤sizeLine∧∀ p,G p=none→Q (.ref p) (gup G p (.lst (xs ++ ys)))
noncomputable def kP:Key→PV
  | .inl i=>.int i
  | .inr x=>.str x
noncomputable def flK:List (Key×PV)→List PV
  | []=>[]
  | p :: r=>kP p.1 :: p.2 :: flK r
mutual
noncomputable def wpE (T:Tb):CE→PTE
  | .var i=>fun σ G Q=>∃ v,σ[i]? =some (some v)∧Q v G
  | .int i=>fun _ G Q=>Q (.int i) G
  | .bl b=>fun _ G Q=>Q (.bl b) G
  | .non=>fun _ G Q=>Q .non G
  | .str x=>fun _ G Q=>Q (.str x) G
  | .glo x=>fun _ G Q=>Q (T.gv x) G
  | .bin op a b=>fun σ G Q=>wpE T a σ G fun x G1=>wpE T b σ G1 fun y G2=>pBin op x y G2 Q
  | .neg a=>fun σ G Q=>wpE T a σ G fun x G1=>pNeg x G1 Q
  | .no a=>fun σ G Q=>wpE T a σ G fun x G1=>pTru x G1 fun b G2=>Q (.bl (!b)) G2
  | .cmp op a b=>fun σ G Q=>wpE T a σ G fun x G1=>wpE T b σ G1 fun y G2=>pCmp op x y G2 Q
  | .chn op op' a b c=>fun σ G Q=>wpE T a σ G fun x G1=>wpE T b σ G1 fun y G2=>pCmp op x y G2 fun z G3=>∃ k,z= .bl k∧if k=true then wpE T c σ G3 fun w G4=>pCmp op' y w G4 Q else Q (.bl false) G3
  | .ch3 op op' o2 a b c d=>fun σ G Q=>wpE T a σ G fun x G1=>wpE T b σ G1 fun y G2=>pCmp op x y G2 fun z G3=>∃ k,z= .bl k∧if k=true then wpE T c σ G3 fun w G4=>pCmp op' y w G4 fun z' G5=>∃ k',z'= .bl k'∧if k'=true then wpE T d σ G5 fun w2 G6=>pCmp o2 w w2 G6 Q else Q (.bl false) G5 else Q (.bl false) G3
  | .emp=>fun _ G Q=>Q .emp G
  | .dct es=>fun σ G Q=>wpL T es σ G fun xs G1=>∃ kvs:List (Key×PV),xs=flK kvs∧(kvs.map (·.1)).Nodup∧kvs.length≤15∧Q (.dct (kvs.map (·.1)) (kvs.map (·.2))) G1
  | .ladd a b=>fun σ G Q=>wpE T a σ G fun x G1=>wpE T b σ G1 fun y G2=>pLadd x y G2 Q
  | .ixo a b=>fun σ G Q=>wpE T a σ G fun x G1=>(∃ xs,x= .tup xs∨lstOf G1 x=some xs)∧wpE T b σ G1 fun y G2=>pIxo x y G2 Q
  | .bow b ls es=>fun σ G Q=>wpL T es σ G fun xs G1=>pBow T b ls xs G1 Q
  | .joi a b=>fun σ G Q=>wpE T a σ G fun x G1=>∃ sep,x= .str sep∧wpE T b σ G1 fun y G2=>∃ ys:List Str,lstOf G2 y=some (ys.map PV.str)∧(ys.map (·.length)).sum + ys.length * sep.length≤16777216∧Q (.str (Txt.join sep ys)) G2
  | .fst es=>fun σ G Q=>wpJ T es Str.empty σ G Q
  | .cin neg eqs a b=>fun σ G Q=>wpE T a σ G fun x G1=>wpE T b σ G1 fun y G2=>pInO T eqs neg x y G2 Q
  | .cne eqs a b=>fun σ G Q=>wpE T a σ G fun x G1=>wpE T b σ G1 fun y G2=>pNeO T eqs x y G2 Q
  | .noo ls a=>fun σ G Q=>wpE T a σ G fun x G1=>pNoO T ls x G1 Q
  | .ceq eqs a b=>fun σ G Q=>wpE T a σ G fun x G1=>wpE T b σ G1 fun y G2=>pEqO T eqs x y G2 Q
  | .lrg m a=>fun σ G Q=>wpE T a σ G fun x G1=>∃ j,x= .int j∧ -(2 ^ 62)≤j∧j < 2 ^ 62∧j.toNat≤sizeLine∧gupL m G1 (rngP 0 j.toNat) Q
  | .an a b=>fun σ G Q=>wpE T a σ G fun x G1=>pTru x G1 fun c G2=>if c=true then wpE T b σ G2 Q else Q x G2
  | .oo a b=>fun σ G Q=>wpE T a σ G fun x G1=>pTru x G1 fun c G2=>if c=true then Q x G2 else wpE T b σ G2 Q
  | .ite c a b=>fun σ G Q=>wpT T c σ G fun k G1=>if k=true then wpE T a σ G1 Q else wpE T b σ G1 Q
  | .tup es=>fun σ G Q=>wpL T es σ G fun xs G1=>xs.length≤sizeLine∧Q (.tup xs) G1
  | .lst m es=>fun σ G Q=>wpL T es σ G fun xs G1=>xs.length≤sizeLine∧gupL m G1 xs Q
  | .idx a i=>fun σ G Q=>wpE T a σ G fun x G1=>wpE T i σ G1 fun y G2=>pIdx x y G2 Q
  | .sli a lo hi=>fun σ G Q=>wpE T a σ G fun x G1=>wpO T lo σ G1 fun l G2=>wpO T hi σ G2 fun h G3=>pSli x l h G3 Q
  | .rev a=>fun σ G Q=>wpE T a σ G fun x G1=>(∃ xs,lstOf G1 x=some xs∧Q (.lst xs.reverse) G1)∨∃ xs,x= .tup xs∧Q (.tup xs.reverse) G1
  | .att a f=>fun σ G Q=>wpE T a σ G fun x G1=>pAtt T x f G1 Q
  | .cal f es=>fun σ G Q=>wpL T es σ G fun xs G1=>T.S f xs G1 Q
  | .cak f es ks ar=>fun σ G Q=>wpL T es σ G fun xs G1=>wpL T ks σ G1 fun zs G2=>T.S f (ar.map (Ar.val (xs ++ zs))) G2 Q
  | .blt b es=>fun σ G Q=>wpL T es σ G fun xs G1=>pBlt T.cs b xs G1 Q
  | .app a e=>fun σ G Q=>wpE T a σ G fun x G1=>(∃ ys,lstOf G1 x=some ys)∧wpE T e σ G1 fun y G2=>∃ p xs,x= .ref p∧G2 p=some (.lst xs)∧xs.length < sizeLine∧Q .non (gup G2 p (.lst (xs ++ [y])))
  | .cmpr m tg it ts el js=>fun σ G Q=>wpI T it σ G fun chk xs G1=>xs.length≤sizeLine∧compP chk (wpG T tg) (wpT T ts) (wpE T el) xs [] (capP js σ) G1 fun ys G2=>gupL m G2 ys Q
  | _=>fun _ _ _=>False
noncomputable def wpJ (T:Tb):CE→Str→PTE
  | .nil=>fun out _ G Q=>out.length≤sizeLine∧Q (.str out) G
  | .cons a b=>fun out σ G Q=>wpE T a σ G fun x G1=>∃ y,x= .str y∧y.length≤sizeLine∧(out ++ y).length≤sizeLine∧wpJ T b (out ++ y) σ G1 Q
  | _=>fun _ _ _ _=>False
noncomputable def wpL (T:Tb):CE→PTA
  | .nil=>fun _ G Q=>Q [] G
  | .cons a b=>fun σ G Q=>wpE T a σ G fun x G1=>wpL T b σ G1 fun xs G2=>Q (x :: xs) G2
  | _=>fun _ _ _=>False
noncomputable def wpT (T:Tb):CE→PTT
  | .an a b=>fun σ G Q=>wpT T a σ G fun c G1=>if c=true then wpT T b σ G1 Q else Q false G1
  | .oo a b=>fun σ G Q=>wpT T a σ G fun c G1=>if c=true then Q true G1 else wpT T b σ G1 Q
  | .no a=>fun σ G Q=>wpT T a σ G fun c G1=>Q (!c) G1
  | .tst a=>fun σ G Q=>wpE T a σ G fun x G1=>pTru x G1 Q
  | .tsb a=>fun σ G Q=>wpE T a σ G fun x G1=>∃ k,x= .bl k∧Q k G1
  | .nil=>fun _ G Q=>Q true G
  | _=>fun _ _ _=>False
noncomputable def wpO (T:Tb):CE→PSt→Gh→(Option Int→Gh→Prop)→Prop
  | .nil=>fun _ G Q=>Q none G
  | .tst e=>fun σ G Q=>wpE T e σ G fun x G1=>∃ i,x= .int i∧Q (some i) G1
  | _=>fun _ _ _=>False
noncomputable def wpI (T:Tb):CE→PTI
  | .isq e=>fun σ G R=>wpE T e σ G fun x G1=>seqI x G1 R
  | .irg es=>fun σ G R=>wpL T es σ G fun xs G1=>(∃ j,xs=[.int j]∧ -(2 ^ 62)≤j∧j < 2 ^ 62∧R (fun _=>True) (rngP 0 j.toNat) G1)∨(∃ i j,xs=[.int i,.int j]∧(-(2 ^ 62)≤i∧i < 2 ^ 62∧ -(2 ^ 62)≤j∧j < 2 ^ 62)∧R (fun _=>True) (rngP i (j - i).toNat) G1)
  | .ien e=>fun σ G R=>wpE T e σ G fun x G1=>∃ xs,x= .tup xs∧R (fun _=>True) (enuP xs) G1
  | .izp es=>fun σ G R=>wpL T es σ G fun xs G1=>(xs.length=2∨xs.length=3)∧∃ n yss,xs.map rowOf=yss.map some∧(∀ ys∈yss,ys.length=n)∧R (fun _=>True) (zipP n yss) G1
  | _=>fun _ _ _=>False
noncomputable def wpG (T:Tb):CE→PTG
  | .gn i=>fun x σ G Q=>Q (σ.set i (some x)) G
  | .gt n gs=>fun x σ G Q=>(∃ xs,x= .tup xs∧xs.length=n∧wpGs T gs xs σ G Q)
  | .gl n gs=>fun x σ G Q=>(∃ xs,lstOf G x=some xs∧xs.length=n∧wpGs T gs xs σ G Q)
  | _=>fun _ _ _ _=>False
noncomputable def wpGs (T:Tb):CE→List PV→PSt→Gh→(PSt→Gh→Prop)→Prop
  | .nil=>fun xs σ G Q=>xs=[]∧Q σ G
  | .cons a b=>fun xs σ G Q=>∃ x r,xs=x :: r∧wpG T a x σ G fun σ1 G1=>wpGs T b r σ1 G1 Q
  | _=>fun _ _ _ _=>False
end
noncomputable def putN (f:Str):List Str→List Str
  | []=>[f]
  | n :: r=>if n=f then n :: r else n :: putN f r
noncomputable def putX {α:Type} (f:Str) (v:α):List Str→List α→List α
  | [],_=>[v]
  | n :: r,x :: xs=>if n=f then v :: xs else x :: putX f v r xs
  | _ :: _,[]=>[]
noncomputable def wpS (T:Tb):CS→PTS
  | .nil=>fun D σ G=>D.nx σ G
  | .seq a b=>fun D σ G=>wpS T a { D with nx:=wpS T b D } σ G
  | .ex e=>fun D σ G=>wpE T e σ G fun _ G1=>D.nx σ G1
  | .asg g e=>fun D σ G=>wpE T e σ G fun x G1=>wpG T g x σ G1 D.nx
  | .par i j a b=>fun D σ G=>wpE T a σ G fun x G1=>wpE T b σ G1 fun y G2=>D.nx ((σ.set i (some x)).set j (some y)) G2
  | .sub o i e=>fun D σ G=>wpE T e σ G fun v G1=>wpE T o σ G1 fun x G2=>wpE T i σ G2 fun y G3=>pSet x y v G3 fun G4=>D.nx σ G4
  | .fld o f e=>fun D σ G=>wpE T e σ G fun v G1=>wpE T o σ G1 fun x G2=>∃ p c ns xs,x= .ref p∧G2 p=some (.ins c ns xs)∧(c,f)∈T.fl∧ns.length < 1000∧D.nx σ (gup G2 p (.ins c (putN f ns) (putX f v ns xs)))
  | .iff c a b=>fun D σ G=>wpT T c σ G fun k G1=>if k=true then wpS T a D σ G1 else wpS T b D σ G1
  | .wh c b=>fun D σ G=>∃ W:Nat→PSt→Gh→Prop,(∃ m,W m σ G)∧∀ m σ G,W m σ G→wpT T c σ G fun k G1=>if k=true then wpS T b { D with nx:=fun σ' G'=>∃ m',m' < m∧W m' σ' G',ct:=fun σ' G'=>∃ m',m' < m∧W m' σ' G',bk:=D.nx } σ G1 else D.nx σ G1
  | .fr g it b=>fun D σ G=>wpI T it σ G fun chk xs G1=>forP chk (wpG T g) (wpS T b) D xs σ G1
  | .ret e=>fun D σ G=>wpE T e σ G D.rt
  | .retN=>fun D _ G=>D.rt .non G
  | .nev=>fun _ _ _=>False
end L3
namespace L3
open PySem PySem.Spec
open PyProof.Rows hiding St
open L2
noncomputable def JE (X:Cx) (E:Ev) (e:Expr) (t:PTE):Prop:= ∀ F,PE X e (low E F t)
noncomputable def JT (X:Cx) (E:Ev) (e:Expr) (t:PTT):Prop:= ∀ F,PT X e (lowT E F t)
noncomputable def JW (X:Cx) (E:Ev) (e:Expr) (t:PTT):Prop:= ∀ F,PW X e (lowT E F t)
noncomputable def JA (X:Cx) (E:Ev) (es:List Expr) (t:PTA):Prop:= ∀ F,PA X es (lowA E F es.length t)
noncomputable def JS (X:Cx) (E:Ev) (s:Stmt) (t:PTS):Prop:= ∀ F,PS X s (lowS E F t)
noncomputable def JSs (X:Cx) (E:Ev) (s:List Stmt) (t:PTS):Prop:= ∀ F,PSs X s (lowS E F t)
noncomputable def lowG (E:Ev) (F:Hp) (t:PTG):TG:=fun v σ H Q=>∃ x σ' Z G Q',RP E Z x v∧RSt E Z σ' σ∧Sim E F H Z G∧t x σ' G Q'∧KSt E F Z Q' Q
noncomputable def JG (X:Cx) (E:Ev) (e:Expr) (t:PTG):Prop:= ∀ F,PG X e (lowG E F t)
noncomputable def lowGs (E:Ev) (F:Hp) (t:List PV→PSt→Gh→(PSt→Gh→Prop)→Prop):TGs:=fun vs σ H Q=>∃ xs σ' Z G Q',RPs E Z xs vs∧RSt E Z σ' σ∧Sim E F H Z G∧t xs σ' G Q'∧KSt E F Z Q' Q
noncomputable def JGs (X:Cx) (E:Ev) (es:List Expr) (t:List PV→PSt→Gh→(PSt→Gh→Prop)→Prop):Prop:= ∀ F,PGs X es (lowGs E F t)
theorem PT.imp {X:Cx} {e:Expr} {t t':TT} (h:PT X e t) (g:∀ σ H Q,t' σ H Q→t σ H Q):PT X e t':=fun pins s σ H Q I q=>h pins s σ H Q I (g _ _ _ q)
theorem PW.imp {X:Cx} {e:Expr} {t t':TT} (h:PW X e t) (g:∀ σ H Q,t' σ H Q→t σ H Q):PW X e t':=fun wh pins s σ H Q I q=>h wh pins s σ H Q I (g _ _ _ q)
theorem PA.imp {X:Cx} {es:List Expr} {t t':TA} (h:PA X es t) (g:∀ σ H Q,t' σ H Q→t σ H Q):PA X es t':=fun pos pins s σ H Q I q=>h pos pins s σ H Q I (g _ _ _ q)
theorem PSs.imp {X:Cx} {st:List Stmt} {t t':TS} (h:PSs X st t) (g:∀ D σ H,t' D σ H→t D σ H):PSs X st t':=fun pins s σ H D I q=>h pins s σ H D I (g _ _ _ q)
theorem PGs.imp {X:Cx} {es:List Expr} {t t':TGs} (h:PGs X es t) (g:∀ vs σ H Q,t' vs σ H Q→t vs σ H Q):PGs X es t':=fun pins s σ H v u Q I r q=>h pins s σ H v u Q I r (g _ _ _ _ q)
section
variable {X:Cx} {E:Ev} {T:Tb} {k:Nat} {pos:Pos} {a b c:Expr} {ta tb tc:PTE}
structure Pl (X:Cx) (E:Ev) (T:Tb) (k:Nat):Prop where
  hK:E.K=X.K
  calm:X.calm=true
  room:Room k X.A
  cls:ClsOk E T.cs
  fld:∀ c f,(c,f)∈T.fl→Cls X.K (E.cls c)∧NoAttr X.K (E.cls c) f
theorem Kq.go {F Z Z1 H1:Hp} {G1:Gh} {Q':PK1} {Q:VK} (k:Kq E F Z Q' Q) {x:PV} {v:V} (s:Same Z Z1) (S:Sim E F H1 Z1 G1) (r:RP E Z1 x v) (q:Q' x G1):Q v H1:=k x v Z1 G1 H1 s S r q
theorem je_var {i:Nat} {x:Str} (hN:X.N[i]? =some x) (hv:Vis X.env.scope x) (hd:(x == ("__debug__":Str))=false) (hcd:(x == ("__classdict__":Str))=false):JE X E (.Name x pos) (wpE T (.var i)):=fun F =>
  (pe_var hN hv hd hcd).imp fun σ H Q ⟨σ',Z,G,Q',rs,S,h,kq⟩=>by
    rw [wpE] at h
    obtain ⟨x,e,q⟩:=h
    obtain ⟨v,e',r⟩:=rs.get e
    exact ⟨v,e',kq.here S q r⟩
theorem je_int {i:Int} {j:Nat}:JE X E (.Constant (.int i) j pos) (wpE T (.int i)):=fun F=>pe_int.imp fun σ H Q ⟨σ',Z,G,Q',rs,S,h,kq⟩=>by rw [wpE] at h; exact kq.here S h rp_int
theorem je_bl {i:Bool} {j:Nat}:JE X E (.Constant (.bool i) j pos) (wpE T (.bl i)):=fun F=>pe_bl.imp fun σ H Q ⟨σ',Z,G,Q',rs,S,h,kq⟩=>by rw [wpE] at h; exact kq.here S h rp_bl
theorem je_non {j:Nat}:JE X E (.Constant .none j pos) (wpE T .non):=fun F=>pe_non.imp fun σ H Q ⟨σ',Z,G,Q',rs,S,h,kq⟩=>by rw [wpE] at h; exact kq.here S h rp_non
theorem je_str {i:Str} {j:Nat}:JE X E (.Constant (.str i) j pos) (wpE T (.str i)):=fun F=>pe_str.imp fun σ H Q ⟨σ',Z,G,Q',rs,S,h,kq⟩=>by rw [wpE] at h; exact kq.here S h rp_str
theorem je_glo {x:Str} {u:Value} {v:V} (hg:Gl X x) (hm:X.mg x=some u) (r:RelV v u) (hr:RP E (fun _=>none) (T.gv x) v) (hd:(x == ("__debug__":Str))=false):JE X E (.Name x pos) (wpE T (.glo x)):=fun F =>
  (pe_glob hg hm r hd).imp fun σ H Q ⟨σ',Z,G,Q',rs,S,h,kq⟩=>by rw [wpE] at h; exact kq.here S h (hr.mono fun _ _ z=>by cases z)
theorem je_ty {x:Str} {n:String} (hg:Gl X x) (hm:X.mg x=none) (hv:bootBuiltins x=some (.type n)) (hgv:T.gv x= .ty n) (hn:x≠"__name__") (hd:(x == ("__debug__":Str))=false):JE X E (.Name x pos) (wpE T (.glo x)):=fun F =>
  (pe_bltn (v:=.ty n) hg hm hv rfl hn hd).imp fun σ H Q ⟨σ',Z,G,Q',rs,S,h,kq⟩=>by rw [wpE] at h; rw [hgv] at h; exact kq.here S h rfl
theorem low2 {F:Hp} {p:P2} {σ:L2.St} {H:Hp} {Q:VK} (h:low E F (fun σ G Q=>ta σ G fun x G1=>tb σ G1 fun y G2=>p x y G2 Q) σ H Q):tOp (lowOp E F p) (low E F ta) (low E F tb) σ H Q:=by
  obtain ⟨σ',Z,G,Q',rs,S,h,kq⟩:=h
  refine ⟨σ',Z,G,_,rs,S,h,fun x v Z1 G1 H1 s1 S1 r1 q1=>⟨σ',Z1,G1,_,rs.mono s1,S1,q1,fun y u Z2 G2 H2 s2 S2 r2 q2=>?_⟩⟩
  exact ⟨x,y,Z2,G2,Q',r1.mono s2,r2,S2,q2,kq.mono (s1.trans s2)⟩
theorem je_bin {op:Operator} {a' b':CE} (P:Pl X E T k) (ha:JE X E a (wpE T a')) (hb:JE X E b (wpE T b')):JE X E (.BinOp a op b pos) (wpE T (.bin op a' b')):=fun F =>
  (pe_op (low_bin P.hK op) (ha F) (hb F)).imp fun σ H Q h=>low2 (by rw [wpE] at h; exact h)
theorem je_neg {a':CE} (ha:JE X E a (wpE T a')):JE X E (.UnaryOp .USub a pos) (wpE T (.neg a')):=fun F =>
  (pe_un un_neg (ha F)).imp fun σ H Q ⟨σ',Z,G,Q',rs,S,h,kq⟩=>by
    rw [wpE] at h
    refine ⟨σ',Z,G,_,rs,S,h,fun x v Z1 G1 H1 s1 S1 r1 q1=>?_⟩
    unfold pNeg at q1
    split at q1
    · exact ⟨_,r1,kq.go s1 S1 rp_int q1⟩
    · exact q1.elim
theorem pe_notT {te:TE} (he:PE X a te):PE X (.UnaryOp .Not a pos) (fun σ H Q=>te σ H fun x H1=>∃ b,TruV X.K x H1 b∧Q (.bl (!b)) H1):=by
  intro pins s σ H Q I h
  refine UnaryOp_ (thn (he pins s σ H _ I h) fun v s1 ⟨x,H1,I1,r1,b,tv,q⟩=>?_)
  exact not_of (thn (tru_ok pins s1 σ H1 x v (fun c H2=>Q (.bl (!c)) H2) I1 r1 ⟨b,tv,q⟩) fun c s2 ⟨H2,I2,q2⟩=>⟨.bl (!c),H2,I2,rfl,q2⟩)
theorem je_no {a':CE} (P:Pl X E T k) (ha:JE X E a (wpE T a')):JE X E (.UnaryOp .Not a pos) (wpE T (.no a')):=fun F =>
  (pe_notT (ha F)).imp fun σ H Q ⟨σ',Z,G,Q',rs,S,h,kq⟩=>by
    rw [wpE] at h
    refine ⟨σ',Z,G,_,rs,S,h,fun x v Z1 G1 H1 s1 S1 r1 q1=>?_⟩
    obtain ⟨c,tv,q⟩:=low_tru P.hK S1 r1 q1
    exact ⟨c,tv,kq.go s1 S1 rp_bl q⟩
theorem pe_andT {rest:List Expr} {te tf:TE} (ha:PE X a te) (hb:PE X (.BoolOp .And (b :: rest) pos) tf):PE X (.BoolOp .And (a :: b :: rest) pos) (fun σ H Q=>te σ H fun x H1=>∃ c,TruV X.K x H1 c∧if c=true then tf σ H1 Q else Q x H1):=by
  intro pins s σ H Q I h
  refine BoolOp_and (thn (ha pins s σ H _ I h) fun v s1 ⟨x,H1,I1,r1,c,tv,q1⟩=>?_)
  refine thn (tru_ok pins s1 σ H1 x v (fun d H2=>d=c∧H2=H1) I1 r1 ⟨c,tv,rfl,rfl⟩) fun d s2 ⟨H2,I2,e1,e2⟩=>?_
  subst e1 e2
  cases d with
  | true=>exact hb pins s2 σ H2 Q I2 q1
  | false=>exact ⟨x,H2,I2,r1,q1⟩
theorem pe_orT {rest:List Expr} {te tf:TE} (ha:PE X a te) (hb:PE X (.BoolOp .Or (b :: rest) pos) tf):PE X (.BoolOp .Or (a :: b :: rest) pos) (fun σ H Q=>te σ H fun x H1=>∃ c,TruV X.K x H1 c∧if c=true then Q x H1 else tf σ H1 Q):=by
  intro pins s σ H Q I h
  refine BoolOp_or (thn (ha pins s σ H _ I h) fun v s1 ⟨x,H1,I1,r1,c,tv,q1⟩=>?_)
  refine thn (tru_ok pins s1 σ H1 x v (fun d H2=>d=c∧H2=H1) I1 r1 ⟨c,tv,rfl,rfl⟩) fun d s2 ⟨H2,I2,e1,e2⟩=>?_
  subst e1 e2
  cases d with
  | false=>exact hb pins s2 σ H2 Q I2 q1
  | true=>exact ⟨x,H2,I2,r1,q1⟩
theorem je_an {rest:List Expr} {a' b':CE} (P:Pl X E T k) (ha:JE X E a (wpE T a')) (hb:JE X E (.BoolOp .And (b :: rest) pos) (wpE T b')):JE X E (.BoolOp .And (a :: b :: rest) pos) (wpE T (.an a' b')):=fun F =>
  (pe_andT (ha F) (hb F)).imp fun σ H Q ⟨σ',Z,G,Q',rs,S,h,kq⟩=>by
    rw [wpE] at h
    refine ⟨σ',Z,G,_,rs,S,h,fun x v Z1 G1 H1 s1 S1 r1 q1=>?_⟩
    obtain ⟨c,tv,q⟩:=low_tru P.hK S1 r1 q1
    refine ⟨c,tv, ?_⟩
    cases c with
    | true=>rw [if_pos rfl] at q ⊢; exact ⟨σ',Z1,G1,Q',rs.mono s1,S1,q,kq.mono s1⟩
    | false=>rw [if_neg Bool.false_ne_true] at q ⊢; exact kq.go s1 S1 r1 q
theorem je_oo {rest:List Expr} {a' b':CE} (P:Pl X E T k) (ha:JE X E a (wpE T a')) (hb:JE X E (.BoolOp .Or (b :: rest) pos) (wpE T b')):JE X E (.BoolOp .Or (a :: b :: rest) pos) (wpE T (.oo a' b')):=fun F =>
  (pe_orT (ha F) (hb F)).imp fun σ H Q ⟨σ',Z,G,Q',rs,S,h,kq⟩=>by
    rw [wpE] at h
    refine ⟨σ',Z,G,_,rs,S,h,fun x v Z1 G1 H1 s1 S1 r1 q1=>?_⟩
    obtain ⟨c,tv,q⟩:=low_tru P.hK S1 r1 q1
    refine ⟨c,tv, ?_⟩
    cases c with
    | false=>rw [if_neg Bool.false_ne_true] at q ⊢; exact ⟨σ',Z1,G1,Q',rs.mono s1,S1,q,kq.mono s1⟩
    | true=>rw [if_pos rfl] at q ⊢; exact kq.go s1 S1 r1 q
theorem je_one {op:BoolOp} {t:PTE} (ha:JE X E a t):JE X E (.BoolOp op [a] pos) t:=fun F=>pe_one (ha F)
theorem rp_non_iff {Z:Hp} {x:PV} {v:V} (r:RP E Z x v):(v= .non)↔x= .non:=by
  cases x with
  | non=>exact ⟨fun _=>rfl,fun _=>r⟩
  | bl b=>rw [show v= .bl b from r]; exact ⟨(fun z=>nomatch z),(fun z=>nomatch z)⟩
  | int b=>rw [show v= .int b from r]; exact ⟨(fun z=>nomatch z),(fun z=>nomatch z)⟩
  | str b=>rw [show v= .str b from r]; exact ⟨(fun z=>nomatch z),(fun z=>nomatch z)⟩
  | ty b=>rw [show v= .ty b from r]; exact ⟨(fun z=>nomatch z),(fun z=>nomatch z)⟩
  | ref b=>rw [show v= .ref b from r]; exact ⟨(fun z=>nomatch z),(fun z=>nomatch z)⟩
  | cl b=>rw [show v= .ref _ from r]; exact ⟨(fun z=>nomatch z),(fun z=>nomatch z)⟩
  | emp=>obtain ⟨a,rfl,_⟩:=r; exact ⟨(fun z=>nomatch z),(fun z=>nomatch z)⟩
  | dct ks xs=>obtain ⟨_,_,rfl,_⟩:=r; exact ⟨(fun z=>nomatch z),(fun z=>nomatch z)⟩
  | tup xs=>obtain ⟨_,_,rfl,_⟩:=r; exact ⟨(fun z=>nomatch z),(fun z=>nomatch z)⟩
  | lst xs=>obtain ⟨_,_,rfl,_⟩:=r; exact ⟨(fun z=>nomatch z),(fun z=>nomatch z)⟩
  | scr xs=>obtain ⟨_,rfl,_⟩:=r; exact ⟨(fun z=>nomatch z),(fun z=>nomatch z)⟩
  | ob _ _ xs=>obtain ⟨_,_,_,rfl,_⟩:=r; exact ⟨(fun z=>nomatch z),(fun z=>nomatch z)⟩
theorem op_isB:OpR X (compareOp .Is) (fun x y H Q=>∃ i j,x= .bl i∧y= .bl j∧Q (.bl (i == j)) H):=by
  intro pins s σ H x y v u Q I rx ry ⟨i,j,e1,e2,q⟩
  subst e1 e2; cases rx; cases ry
  exact is_bool ⟨.bl _,H,I,rfl,q⟩
theorem op_isnB:OpR X (compareOp .IsNot) (fun x y H Q=>∃ i j,x= .bl i∧y= .bl j∧Q (.bl (!(i == j))) H):=by
  intro pins s σ H x y v u Q I rx ry ⟨i,j,e1,e2,q⟩
  subst e1 e2; cases rx; cases ry
  exact isnot_bool ⟨.bl _,H,I,rfl,q⟩
theorem low_is {F:Hp}:OpR X (compareOp .Is) (lowOp E F (pIs false)):=by
  refine (op_isN.or op_isB).imp fun v u H Q h=>?_
  obtain ⟨x,y,Z,G,Q',r1,r2,S,q,k⟩:=h
  unfold pIs at q
  split at q
  · refine .inl ⟨r2, ?_⟩
    rcases q with ⟨e,q⟩ | ⟨e,q⟩
    · rw [decide_eq_true ((rp_non_iff r1).mpr e)]; exact k.here S q rp_bl
    · rw [decide_eq_false fun z=>e ((rp_non_iff r1).mp z)]; exact k.here S q rp_bl
  · obtain ⟨c,e,q⟩:=q
    subst e
    exact .inr ⟨_,_,r1,r2,k.here S q rp_bl⟩
  · exact q.elim
theorem low_isn {F:Hp}:OpR X (compareOp .IsNot) (lowOp E F (pIs true)):=by
  refine (op_notN.or op_isnB).imp fun v u H Q h=>?_
  obtain ⟨x,y,Z,G,Q',r1,r2,S,q,k⟩:=h
  unfold pIs at q
  split at q
  · refine .inl ⟨r2, ?_⟩
    rcases q with ⟨e,q⟩ | ⟨e,q⟩
    · rw [decide_eq_true ((rp_non_iff r1).mpr e)]; exact k.here S q rp_bl
    · rw [decide_eq_false fun z=>e ((rp_non_iff r1).mp z)]; exact k.here S q rp_bl
  · obtain ⟨c,e,q⟩:=q
    subst e
    exact .inr ⟨_,_,r1,r2,k.here S q rp_bl⟩
  · exact q.elim
theorem noOp {F:Hp} {f:Value→Value→Sem Value}:OpR X f (lowOp E F fun _ _ _ _=>False):=fun _ _ _ _ _ _ _ _ _ _ _ _ ⟨_,_,_,_,_,_,_,_,q,_⟩=>q.elim
theorem low_cmp {F:Hp} (P:Pl X E T k):∀ op,OpR X (compareOp op) (lowOp E F (pCmp op))
  | .Lt=>op_lt.imp fun _ _ _ _ h=>rI0_of (low_pI (fun _ _ _=>rp_bl) h)
  | .LtE=>op_le.imp fun _ _ _ _ h=>rI0_of (low_pI (fun _ _ _=>rp_bl) h)
  | .Gt=>op_gt.imp fun _ _ _ _ h=>rI0_of (low_pI (fun _ _ _=>rp_bl) h)
  | .GtE=>op_ge.imp fun _ _ _ _ h=>rI0_of (low_pI (fun _ _ _=>rp_bl) h)
  | .Eq=>low_eq P.room P.hK
  | .NotEq=>low_ne P.room P.hK
  | .Is=>low_is
  | .IsNot=>low_isn
  | .In=>noOp
  | .NotIn=>noOp
theorem je_cmp {op:CmpOp} {a' b':CE} (P:Pl X E T k) (hm:behindInMarks op b=false) (ha:JE X E a (wpE T a')) (hb:JE X E b (wpE T b')):JE X E (.Compare a [op] [b] pos) (wpE T (.cmp op a' b')):=fun F =>
  (pe_cmpR (low_cmp P op) (ha F) (hb F) hm).imp fun σ H Q h=>low2 (by rw [wpE] at h; exact h)
theorem jt_cmp {op:CmpOp} {a' b':CE} (P:Pl X E T k) (hm:behindInMarks op b=false) (ha:JE X E a (wpE T a')) (hb:JE X E b (wpE T b')):JT X E (.Compare a [op] [b] pos) (wpT T (.tsb (.cmp op a' b'))):=fun F =>
  PT.imp (pt_cmpR (low_cmp P op) (ha F) (hb F) hm) fun σ H Q h=>low2 (by
    obtain ⟨σ',Z,G,Q',rs,S,h,kq⟩:=h
    rw [wpT,wpE] at h
    exact ⟨σ',Z,G,_,rs,S,h,fun x v Z1 G1 H1 s1 S1 r1 ⟨kk,e,q⟩=>by subst e; exact ⟨kk,r1,kq _ Z1 G1 H1 s1 S1 q⟩⟩)
theorem low_chn {F:Hp} {op op':CmpOp} {a' b' c':CE} {σ:L2.St} {H:Hp} {Q:VK} (h:low E F (wpE T (.chn op op' a' b' c')) σ H Q):tChain (lowOp E F (pCmp op)) (lowOp E F (pCmp op')) (low E F (wpE T a')) (low E F (wpE T b')) (low E F (wpE T c')) σ H Q:=by
  obtain ⟨σ',Z,G,Q',rs,S,h,kq⟩:=h
  rw [wpE] at h
  refine ⟨σ',Z,G,_,rs,S,h,fun x v Z1 G1 H1 s1 S1 r1 q1=>⟨σ',Z1,G1,_,rs.mono s1,S1,q1,fun y u Z2 G2 H2 s2 S2 r2 q2=>⟨x,y,Z2,G2,_,r1.mono s2,r2,S2,q2, ?_⟩⟩⟩
  rintro z w Z3 G3 H3 s3 S3 r3 ⟨kk,e,q3⟩
  subst e
  refine ⟨kk,r3, ?_⟩
  have sz:=(s1.trans s2).trans s3
  cases kk with
  | true =>
    rw [if_pos rfl] at q3 ⊢
    exact ⟨σ',Z3,G3,_,rs.mono sz,S3,q3,fun z' w' Z4 G4 H4 s4 S4 r4 q4=>⟨y,z',Z4,G4,Q',(r2.mono s3).mono s4,r4,S4,q4,kq.mono (sz.trans s4)⟩⟩
  | false =>
    rw [if_neg Bool.false_ne_true] at q3 ⊢
    exact kq.go sz S3 rp_bl q3
theorem je_chn {op op':CmpOp} {a' b' c':CE} (P:Pl X E T k) (hm:lastMarks [op,op'] [b,c]=false) (ha:JE X E a (wpE T a')) (hb:JE X E b (wpE T b')) (hc:JE X E c (wpE T c')):JE X E (.Compare a [op,op'] [b,c] pos) (wpE T (.chn op op' a' b' c')):=fun F =>
  (pe_chain (low_cmp P op) (low_cmp P op') (ha F) (hb F) (hc F) hm).imp fun σ H Q h=>low_chn h
theorem jt_chn {op op':CmpOp} {a' b' c':CE} (P:Pl X E T k) (hm:lastMarks [op,op'] [b,c]=false) (ha:JE X E a (wpE T a')) (hb:JE X E b (wpE T b')) (hc:JE X E c (wpE T c')):JT X E (.Compare a [op,op'] [b,c] pos) (wpT T (.tsb (.chn op op' a' b' c'))):=fun F =>
  PT.imp (pt_chain (low_cmp P op) (low_cmp P op') (ha F) (hb F) (hc F) hm) fun σ H Q h=>low_chn (by
    obtain ⟨σ',Z,G,Q',rs,S,h,kq⟩:=h
    rw [wpT] at h
    exact ⟨σ',Z,G,_,rs,S,h,fun x v Z1 G1 H1 s1 S1 r1 ⟨kk,e,q⟩=>by subst e; exact ⟨kk,r1,kq _ Z1 G1 H1 s1 S1 q⟩⟩)
theorem jt_tst {a':CE} (P:Pl X E T k) (ha:JE X E a (wpE T a')) (he:∀ whole,isTrue a X.env whole=(do let v ←whole; standAt a.pos; holding [v] (truthy v))):JT X E a (wpT T (.tst a')):=fun F =>
  PT.imp (pt_truth (ha F) he) fun σ H Q ⟨σ',Z,G,Q',rs,S,h,kq⟩=>by
    rw [wpT] at h
    refine ⟨σ',Z,G,_,rs,S,h,fun x v Z1 G1 H1 s1 S1 r1 q1=>?_⟩
    obtain ⟨c,tv,q⟩:=low_tru P.hK S1 r1 q1
    exact ⟨c,tv,kq _ Z1 G1 H1 s1 S1 q⟩
theorem jw_an1 {a':CE} (ha:JT X E a (wpT T a')):JW X E (.BoolOp .And [a] pos) (wpT T a'):=fun F=>pw_and1 (ha F)
theorem jw_oo1 {a':CE} (ha:JT X E a (wpT T a')):JW X E (.BoolOp .Or [a] pos) (wpT T a'):=fun F=>pw_or1 (ha F)
theorem lowT2 {F:Hp} {a' b':CE} {σ:L2.St} {H:Hp} {Q:Bool→Hp→Prop} (h:lowT E F (wpT T (.an a' b')) σ H Q):tAnd (lowT E F (wpT T a')) (lowT E F (wpT T b')) σ H Q:=by
  obtain ⟨σ',Z,G,Q',rs,S,h,kq⟩:=h
  rw [wpT] at h
  refine ⟨σ',Z,G,_,rs,S,h,fun d Z1 G1 H1 s1 S1 q=>?_⟩
  cases d with
  | true=>rw [if_pos rfl] at q ⊢; exact ⟨σ',Z1,G1,Q',rs.mono s1,S1,q,kq.mono s1⟩
  | false=>rw [if_neg Bool.false_ne_true] at q ⊢; exact kq _ _ _ _ s1 S1 q
theorem lowT3 {F:Hp} {a' b':CE} {σ:L2.St} {H:Hp} {Q:Bool→Hp→Prop} (h:lowT E F (wpT T (.oo a' b')) σ H Q):tOr (lowT E F (wpT T a')) (lowT E F (wpT T b')) σ H Q:=by
  obtain ⟨σ',Z,G,Q',rs,S,h,kq⟩:=h
  rw [wpT] at h
  refine ⟨σ',Z,G,_,rs,S,h,fun d Z1 G1 H1 s1 S1 q=>?_⟩
  cases d with
  | false=>rw [if_neg Bool.false_ne_true] at q ⊢; exact ⟨σ',Z1,G1,Q',rs.mono s1,S1,q,kq.mono s1⟩
  | true=>rw [if_pos rfl] at q ⊢; exact kq _ _ _ _ s1 S1 q
theorem jw_an {rest:List Expr} {a' b':CE} (ha:JT X E a (wpT T a')) (hb:JW X E (.BoolOp .And (b :: rest) pos) (wpT T b')):JW X E (.BoolOp .And (a :: b :: rest) pos) (wpT T (.an a' b')):=fun F=>PW.imp (pw_and (ha F) (hb F)) fun _ _ _ h=>lowT2 h
theorem jw_oo {rest:List Expr} {a' b':CE} (ha:JT X E a (wpT T a')) (hb:JW X E (.BoolOp .Or (b :: rest) pos) (wpT T b')):JW X E (.BoolOp .Or (a :: b :: rest) pos) (wpT T (.oo a' b')):=fun F=>PW.imp (pw_or (ha F) (hb F)) fun _ _ _ h=>lowT3 h
theorem JW.jt {e:Expr} {t:PTT} (h:JW X E e t):JT X E e t:=fun F=>(h F).pt
theorem jt_no {a':CE} (ha:JT X E a (wpT T a')):JT X E (.UnaryOp .Not a pos) (wpT T (.no a')):=fun F =>
  PT.imp (pt_not (ha F)) fun σ H Q ⟨σ',Z,G,Q',rs,S,h,kq⟩=>by
    rw [wpT] at h
    exact ⟨σ',Z,G,_,rs,S,h,fun d Z1 G1 H1 s1 S1 q=>kq _ _ _ _ s1 S1 q⟩
theorem ja_nil:JA X E [] (wpL T .nil):=fun F=>PA.imp pa_nil fun σ H Q ⟨σ',Z,G,Q',rs,S,h,kq⟩=>by rw [wpL] at h; exact kq [] [] Z G H rfl (Same.refl Z) S rfl h
theorem ja_cons {e:Expr} {es:List Expr} {a' b':CE} (ha:JE X E e (wpE T a')) (hr:JA X E es (wpL T b')) (hs:starEach (e :: es) X.env=(false,eval e X.env) :: starEach es X.env):JA X E (e :: es) (wpL T (.cons a' b')):=fun F =>
  PA.imp (pa_cons (ha F) (hr F) hs) fun σ H Q ⟨σ',Z,G,Q',rs,S,h,kq⟩=>by
    rw [wpL] at h
    exact ⟨σ',Z,G,_,rs,S,h,fun x v Z1 G1 H1 s1 S1 r1 q1=>⟨σ',Z1,G1,_,rs.mono s1,S1,q1,fun xs vs Z2 G2 H2 l2 s2 S2 r2 q2=>kq (x :: xs) (v :: vs) _ _ _ (by rw [List.length_cons,l2]; rfl) (s1.trans s2) S2 ⟨v,vs,rfl,r1.mono s2,r2⟩ q2⟩⟩
theorem je_tup {es:List Expr} {x1:Nat} {es':CE} (h:JA X E es (wpL T es')):JE X E (.Tuple es x1 pos) (wpE T (.tup es')):=fun F =>
  (pe_tup (h F)).imp fun σ H Q ⟨σ',Z,G,Q',rs,S,h,kq⟩=>by
    rw [wpE] at h
    refine ⟨σ',Z,G,_,rs,S,h,fun xs vs Z1 G1 H1 l1 s1 S1 r1 q1=>⟨by rw [←r1.length]; exact q1.1,fun p n=>(kq.mono s1).newZ S1 n (rp_newT (S1.zn n) r1) q1.2⟩⟩
theorem gupL_new {F Z H:Hp} {G:Gh} {m:Bool} {xs:List PV} {vs:List V} {Q':PK1} {Q:VK} {p:Addr} (S:Sim E F H Z G) (n:H p=none) (r:RPs E Z xs vs) (q:gupL m G xs Q') (kq:Kq E F Z Q' Q):Q (.ref p) (upd H p (.lst vs)):=by
  unfold gupL at q
  cases m with
  | true =>
    rw [if_pos rfl] at q
    exact kq (.ref p) _ _ _ _ (Same.refl Z) (S.new (go:=.lst xs) n ⟨vs,rfl,r⟩) rfl (q p (S.gn n))
  | false =>
    rw [if_neg Bool.false_ne_true] at q
    exact kq.newZ S n (rp_newL (S.zn n) r) q
theorem je_lst {es:List Expr} {es':CE} {m:Bool} (h:JA X E es (wpL T es')):JE X E (.List es pos) (wpE T (.lst m es')):=fun F =>
  (pe_lst (h F)).imp fun σ H Q ⟨σ',Z,G,Q',rs,S,h,kq⟩=>by
    rw [wpE] at h
    refine ⟨σ',Z,G,_,rs,S,h,fun xs vs Z1 G1 H1 l1 s1 S1 r1 q1=>⟨by rw [←r1.length]; exact q1.1,fun p n=>gupL_new S1 n r1 q1.2 (kq.mono s1)⟩⟩
theorem je_idx {a' b':CE} (P:Pl X E T k) (ha:JE X E a (wpE T a')) (hb:JE X E b (wpE T b')) (hs:PlainIx b):JE X E (.Subscript a b pos) (wpE T (.idx a' b')):=fun F =>
  (pe_ix (low_ix P.room P.hK) (ha F) (hb F) hs).imp fun σ H Q h=>low2 (by rw [wpE] at h; exact h)
noncomputable def lowO (E:Ev) (F:Hp) (t:PSt→Gh→(Option Int→Gh→Prop)→Prop):TO:=fun σ H Q=>∃ σ' Z G Q',RSt E Z σ' σ∧Sim E F H Z G∧t σ' G Q'∧∀ o Z1 G1 H1,Same Z Z1→Sim E F H1 Z1 G1→Q' o G1→Q o H1
noncomputable def JO (X:Cx) (E:Ev) (e:Option Expr) (t:PSt→Gh→(Option Int→Gh→Prop)→Prop):Prop:= ∀ F,PO X e (lowO E F t)
theorem PO.imp {e:Option Expr} {t t':TO} (h:PO X e t) (g:∀ σ H Q,t' σ H Q→t σ H Q):PO X e t':=fun pins s σ H Q I q=>h pins s σ H Q I (g _ _ _ q)
theorem jo_nil:JO X E none (wpO T .nil):=fun F=>PO.imp po_none fun σ H Q ⟨σ',Z,G,Q',rs,S,h,kq⟩=>by rw [wpO] at h; exact kq _ _ _ _ (Same.refl Z) S h
theorem jo_some {a':CE} (ha:JE X E a (wpE T a')):JO X E (some a) (wpO T (.tst a')):=fun F=>PO.imp (po_some (ha F)) fun σ H Q ⟨σ',Z,G,Q',rs,S,h,kq⟩=>by
  rw [wpO] at h
  exact ⟨σ',Z,G,_,rs,S,h,fun x v Z1 G1 H1 s1 S1 r1 ⟨i,e,q⟩=>by subst e; exact ⟨i,r1,kq _ _ _ _ s1 S1 q⟩⟩
theorem je_sli {lo hi:Option Expr} {p2:Pos} {a' l' h':CE} (P:Pl X E T k) (ha:JE X E a (wpE T a')) (hl:JO X E lo (wpO T l')) (hu:JO X E hi (wpO T h')):JE X E (.Subscript a (.Slice lo hi none p2) pos) (wpE T (.sli a' l' h')):=fun F =>
  (pe_slice (low_sl P.hK) (ha F) (hl F) (hu F)).imp fun σ H Q ⟨σ',Z,G,Q',rs,S,h,kq⟩=>by
    rw [wpE] at h
    refine ⟨σ',Z,G,_,rs,S,h,fun x v Z1 G1 H1 s1 S1 r1 q1=>⟨σ',Z1,G1,_,rs.mono s1,S1,q1,fun o Z2 G2 H2 s2 S2 q2=>⟨σ',Z2,G2,_,(rs.mono s1).mono s2,S2,q2,fun o' Z3 G3 H3 s3 S3 q3=>?_⟩⟩⟩
    exact ⟨x,Z3,G3,Q',(r1.mono s2).mono s3,S3,q3,kq.mono ((s1.trans s2).trans s3)⟩
theorem je_rev {p1 p2 p3:Pos} {k1:Nat} {a':CE} (P:Pl X E T k) (ha:JE X E a (wpE T a')):JE X E (.Subscript a (.Slice none none (some (.UnaryOp .USub (.Constant (.int 1) k1 p1) p2)) p3) pos) (wpE T (.rev a')):=fun F =>
  (pe_rev2 (ha F)).imp fun σ H Q ⟨σ',Z,G,Q',rs,S,h,kq⟩=>by
    rw [wpE] at h
    refine ⟨σ',Z,G,_,rs,S,h,fun x v Z1 G1 H1 s1 S1 r1 hq=>?_⟩
    rcases hq with ⟨xs,e,q1⟩ | ⟨xs,e,q1⟩
    · obtain ⟨a,vs,rfl,ha,ta⟩:=lst_at S1 r1 e
      exact ⟨a,vs,rfl,.inl ⟨ha,fun p n=>(kq.mono s1).newZ S1 n (rp_newL (S1.zn n) ta.reverse) q1⟩⟩
    · subst e
      obtain ⟨a,vs,rfl,ha,ta⟩:=tup_at S1 r1
      exact ⟨a,vs,rfl,.inr ⟨P.hK▸ha,fun p n=>(kq.mono s1).newZ S1 n (rp_newT (S1.zn n) ta.reverse) q1⟩⟩
theorem zip_lookup {ns:List Str} {f:Str} {x:PV} {Z:Hp}:∀ {ns:List Str} {xs:List PV} {vs:List V},RPs E Z xs vs→(ns.zip xs).lookup f=some x→∃ v,(ns.zip vs).lookup f=some v∧RP E Z x v
  | [],_,_,_,h=>by cases h
  | _ :: _,[],_,_,h=>by cases h
  | n :: ns,y :: ys,_,⟨v,r,e,r1,r2⟩,h=>by
    subst e
    rw [List.zip_cons_cons,List.lookup_cons] at h
    rw [List.zip_cons_cons,List.lookup_cons]
    cases hb:f == n with
    | true=>rw [hb] at h; cases h; exact ⟨v,rfl,r1⟩
    | false=>rw [hb] at h; exact zip_lookup (ns:=ns) r2 h
theorem je_att {f:Str} {a':CE} (P:Pl X E T k) (ha:JE X E a (wpE T a')) (hb:attributeBase a f X.env (eval a X.env)=eval a X.env):JE X E (.Attribute a f pos) (wpE T (.att a' f)):=fun F =>
  (pe_fld (ha F) hb).imp fun σ H Q ⟨σ',Z,G,Q',rs,S,h,kq⟩=>by
    rw [wpE] at h
    refine ⟨σ',Z,G,_,rs,S,h,fun x v Z1 G1 H1 s1 S1 r1 ⟨c,ns,xs,y,hx,hf,hl,q⟩=>?_⟩
    obtain ⟨h1,h2⟩:=P.fld c f hf
    rcases hx with e | ⟨a,e,hG⟩
    · subst e
      obtain ⟨p,dx,vs,e,hp,_,t⟩:=r1
      obtain ⟨w,e1,e2⟩:=zip_lookup (ns:=ns) t hl
      exact ⟨p,_,dx,_,w,e,S1.z _ _ hp,h1,h2,e1,kq.go s1 S1 e2 q⟩
    · subst e
      obtain ⟨_,o',hp,dx,vs,e',_,t⟩:=S1.g _ _ hG
      subst e'
      obtain ⟨w,e1,e2⟩:=zip_lookup (ns:=ns) t hl
      exact ⟨a,_,dx,_,w,r1,hp,h1,h2,e1,kq.go s1 S1 e2 q⟩
theorem je_blt {x:Str} {p:Pos} {e:Expr} {es:List Expr} {bb:Bn} {es':CE} (P:Pl X E T k) (hg:Gl X x) (hm:X.mg x=none) (hv:bootBuiltins x=some (bVal bb)) (hn:x≠"__name__") (hd:(x == ("__debug__":Str))=false)
    (ha:JA X E (e :: es) (wpL T es')) (he:starEach (e :: es) X.env=(false,eval e X.env) :: starEach es X.env) (hpl:(backTo pos (starEach es X.env)).any (·.1)=false):JE X E (.Call (.Name x p) (e :: es) [] pos) (wpE T (.blt bb es')):=fun F=>by
  have main:PE X (.Call (.Name x p) (e :: es) [] pos) (tCB (lowC E F (pBlt T.cs bb)) (lowA E F (e :: es).length (wpL T es'))):=by
    have hc:=low_blt (F:=F) (cs:=T.cs) P.hK P.calm P.cls bb
    cases bb <;> first
      | exact pe_callB hc hg hm hv (ha F) hn hd he hpl
      | exact pe_callTy hc hg hm hv (ha F) hn hd he hpl
  exact main.imp fun σ H Q ⟨σ',Z,G,Q',rs,S,h,kq⟩=>by
    rw [wpE] at h
    exact ⟨σ',Z,G,_,rs,S,h,fun xs vs Z1 G1 H1 l1 s1 S1 r1 q1=>⟨xs,Z1,G1,Q',r1,S1,q1,kq.mono s1⟩⟩
noncomputable def lift (E:Ev) (sp:Sp3):Sp:=fun vs H Q _=>∃ xs Z G F Q',RPs E Z xs vs∧Sim E F H Z G∧sp xs G Q'∧Kq E F Z Q' Q
theorem je_cal {f:Str} {p:Pos} {e:Expr} {es:List Expr} {es':CE} {ad:Addr} {fd:FuncData} {ps:List Str} (K:FnOk X.prog X.w X.K X.mg X.base CX0 k ad fd ps (lift E (T.S f))) (hr:Room k X.A) (hg:Gl X f) (hm:X.mg f=some (.ref ad)) (hk:PySem.W.keepIn X.K (.ref ad)=true)
    (hb:Binds X.K fd ps []) (hd:(f == ("__debug__":Str))=false) (ha:JA X E (e :: es) (wpL T es')) (he:starEach (e :: es) X.env=(false,eval e X.env) :: starEach es X.env) (hpl:(backTo pos (starEach es X.env)).any (·.1)=false) :
    JE X E (.Call (.Name f p) (e :: es) [] pos) (wpE T (.cal f es')):=fun F =>
  (pe_call K hr hg hm hk hb .nil pass0 (ha F) hd he hpl).imp fun σ H Q ⟨σ',Z,G,Q',rs,S,h,kq⟩=>by
    rw [wpE] at h
    exact ⟨σ',Z,G,_,rs,S,h,fun xs vs Z1 G1 H1 l1 s1 S1 r1 q1=>by
      show lift E (T.S f) (vs ++ []) H1 Q E0
      rw [List.append_nil]
      exact ⟨xs,Z1,G1,F,Q',r1,S1,q1,kq.mono s1⟩⟩
structure EqM (X:Cx) (E:Ev) (T:Tb) (k:Nat) (c:String) (m:Str):Prop where
  ex:∃ ad fd,Meth X.K (E.cls c) "__eq__" ad∧FnOk X.prog X.w X.K X.mg X.base CX0 k ad fd ["self","other"] (lift E (T.S m))∧Binds X.K fd ["self","other"] []
structure NeM (X:Cx) (E:Ev) (T:Tb) (k:Nat) (c:String) (m:Str):Prop where
  ex:∃ ad fd,NeC X.K (E.cls c)∧Meth X.K (E.cls c) "__eq__" ad∧FnOk X.prog X.w X.K X.mg X.base CX0 k ad fd ["self","other"] (lift E (T.S m))∧Binds X.K fd ["self","other"] []
structure LnM (X:Cx) (E:Ev) (T:Tb) (k:Nat) (c:String) (m:Str):Prop where
  ex:∃ ad fd,NeC X.K (E.cls c)∧Meth X.K (E.cls c) "__len__" ad∧FnOk X.prog X.w X.K X.mg X.base CX0 k ad fd ["self"] (lift E (T.S m))∧Binds X.K fd ["self"] []
theorem low_neO {F:Hp} {eqs:List (String×Str)} (P:Pl X E T (k + 1)) (he:∀ y∈eqs,NeM X E T k y.1 y.2):OpR X (compareOp .NotEq) (lowOp E F (pNeO T eqs)):=by
  intro pins s σ H v w u1 u2 Q I rv rw' ⟨x,y,Z,G,Q',r1,r2,S,q,kq⟩
  rcases q with ⟨c,m,ns,xs,ns',ys,hm,e1,e2,q⟩ | q
  · subst e1 e2
    obtain ⟨ad,fd,N,M,Fn,hb⟩:=(he _ hm).ex
    have r1':=r1
    have r2':=r2
    obtain ⟨a,dx,vs,ea,hz,_,_⟩:=r1'
    obtain ⟨a2,dx2,vs2,ea2,hz2,_,_⟩:=r2'
    subst ea ea2
    refine op_neO N M Fn P.room hb pins s σ H _ _ u1 u2 Q I rv rw' ⟨a,dx,_,a2,dx2,_,rfl,rfl,S.z _ _ hz,S.z _ _ hz2, ?_⟩
    exact ⟨[.ob c ns xs,.ob c ns' ys],Z,G,F,_,⟨_,_,rfl,r1,_,_,rfl,r2,rfl⟩,S,q,fun x v Z1 G1 H1 s1 S1 r3 ⟨b,e,q3⟩=>by subst e; have e:v= .bl b:=r3; exact ⟨b,e,kq _ _ Z1 G1 H1 s1 S1 rp_bl q3⟩⟩
  · exact low_ne P.room P.hK pins s σ H v w u1 u2 Q I rv rw' ⟨x,y,Z,G,Q',r1,r2,S,q,kq⟩
theorem je_cne {eqs:List (String×Str)} {a' b':CE} (P:Pl X E T (k + 1)) (he:∀ y∈eqs,NeM X E T k y.1 y.2) (hm:behindInMarks .NotEq b=false) (ha:JE X E a (wpE T a')) (hb:JE X E b (wpE T b')):JE X E (.Compare a [.NotEq] [b] pos) (wpE T (.cne eqs a' b')):=fun F =>
  (pe_cmpR (low_neO P he) (ha F) (hb F) hm).imp fun σ H Q h=>low2 (by rw [wpE] at h; exact h)
theorem jt_cne {eqs:List (String×Str)} {a' b':CE} (P:Pl X E T (k + 1)) (he:∀ y∈eqs,NeM X E T k y.1 y.2) (hm:behindInMarks .NotEq b=false) (ha:JE X E a (wpE T a')) (hb:JE X E b (wpE T b')):JT X E (.Compare a [.NotEq] [b] pos) (wpT T (.tsb (.cne eqs a' b'))):=fun F =>
  PT.imp (pt_cmpR (low_neO P he) (ha F) (hb F) hm) fun σ H Q h=>low2 (by
    obtain ⟨σ',Z,G,Q',rs,S,h,kq⟩:=h
    rw [wpT,wpE] at h
    exact ⟨σ',Z,G,_,rs,S,h,fun x v Z1 G1 H1 s1 S1 r1 ⟨kk,e,q⟩=>by subst e; exact ⟨kk,r1,kq _ Z1 G1 H1 s1 S1 q⟩⟩)
noncomputable def flV:List (V×V)→List V
  | []=>[]
  | p :: r=>p.1 :: p.2 :: flV r
noncomputable def KDD (E:Ev) (F:Hp) (n:Nat) (Z:Hp) (Q':List PV→Gh→Prop) (Q:List (V×V)→Hp→Prop):Prop:= ∀ xs ps Z1 G1 H1,ps.length=n→Same Z Z1→Sim E F H1 Z1 G1→RPs E Z1 xs (flV ps)→Q' xs G1→Q ps H1
noncomputable def lowD (E:Ev) (F:Hp) (n:Nat) (t:PTA):TD:=fun σ H Q=>∃ σ' Z G Q',RSt E Z σ' σ∧Sim E F H Z G∧t σ' G Q'∧KDD E F n Z Q' Q
noncomputable def JD (X:Cx) (E:Ev) (pos:Pos) (ks:List (Option Expr)) (vs:List Expr) (t:PTA):Prop:= ∀ F,PD X pos ks vs (lowD E F ks.length t)
theorem jd_nil:JD X E pos [] [] (wpL T .nil):=fun F=>pd_nil.imp fun σ H Q ⟨σ',Z,G,Q',rs,S,h,kq⟩=>by
  rw [wpL] at h
  exact kq [] [] Z G H rfl (Same.refl Z) S rfl h
theorem jd_cons {e v:Expr} {ks:List (Option Expr)} {vs:List Expr} {k' v' r':CE} (hk:JE X E e (wpE T k')) (hv:JE X E v (wpE T v')) (hr:JD X E pos ks vs (wpL T r')):JD X E pos (some e :: ks) (v :: vs) (wpL T (.cons k' (.cons v' r'))):=fun F =>
  (pd_cons (hk F) (hv F) (hr F)).imp fun σ H Q ⟨σ',Z,G,Q',rs,S,h,kq⟩=>by
    rw [wpL] at h
    refine ⟨σ',Z,G,_,rs,S,h,fun x u Z1 G1 H1 s1 S1 r1 q1=>?_⟩
    unfold wpL at q1
    refine ⟨σ',Z1,G1,_,rs.mono s1,S1,q1,fun y w Z2 G2 H2 s2 S2 r2 q2=>⟨σ',Z2,G2,_,(rs.mono s1).mono s2,S2,q2,fun xs ps Z3 G3 H3 l3 s3 S3 r3 q3=>?_⟩⟩
    exact kq (x :: y :: xs) ((u,w) :: ps) Z3 G3 H3 (by rw [List.length_cons,l3]; rfl) ((s1.trans s2).trans s3) S3 ⟨u,_,rfl,(r1.mono s2).mono s3,w,_,rfl,r2.mono s3,r3⟩ q3
theorem je_app {e:Expr} {apos:Pos} {a' b':CE} (ha:JE X E a (wpE T a')) (hb:JE X E e (wpE T b')) (hbase:attributeBase a "append" X.env (eval a X.env)=eval a X.env)
    (hs:starEach [e] X.env=[(false,eval e X.env)]) (hline:(apos.endLine == pos.line)=true):JE X E (.Call (.Attribute a "append" apos) [e] [] pos) (wpE T (.app a' b')):=fun F=>by
  refine (pe_bm PySem.F.plainAttrs_list PySem.F.slot_list_append PySem.F.type_list_append mt_append (ha F) (pa_cons (hb F) pa_nil hs) hbase (by rw [hs]; rfl) hline hs rfl).imp fun σ H Q ⟨σ',Z,G,Q',rs,S,h,kq⟩=>?_
  rw [wpE] at h
  refine ⟨σ',Z,G,_,rs,S,h,fun x v Z1 G1 H1 s1 S1 r1 ⟨⟨ys,hy⟩,q1⟩=>?_⟩
  obtain ⟨a1,vs,rfl,hH,ta⟩:=lst_at S1 r1 hy
  refine ⟨.inl ⟨rfl,vs,SqL.of hH⟩,σ',Z1,G1,_,rs.mono s1,S1,q1,fun y u Z2 G2 H2 s2 S2 r2 ⟨p,xs,ex,hG,hz,q⟩=>?_⟩
  subst ex
  have e1:V.ref a1= .ref p:=r1
  cases e1
  obtain ⟨_,o',hp,us,e',t⟩:=S2.g _ _ hG
  subst e'
  refine ⟨a1,us,u,rfl,rfl,hp,by rw [←t.length]; exact hz,kq.go (s1.trans s2) (S2.set (go:=.lst (xs ++ [y])) hG ⟨us ++ [u],rfl,t.append ⟨u,[],rfl,r2,rfl⟩⟩) rp_non q⟩
theorem RPs.strs {Z:Hp}:∀ {ns:List Str} {vs:List V},RPs E Z (ns.map PV.str) vs→vs=ns.map V.str
  | [],_,h=>h
  | _ :: _,_,⟨v,r,e1,h,t⟩=>by
    have h':v=V.str _:=h
    subst e1 h'; rw [RPs.strs t]; rfl
theorem je_joi {e:Expr} {apos:Pos} {a' b':CE} (ha:JE X E a (wpE T a')) (hb:JE X E e (wpE T b')) (hbase:attributeBase a "join" X.env (eval a X.env)=eval a X.env)
    (hs:starEach [e] X.env=[(false,eval e X.env)]) (hline:(apos.endLine == pos.line)=true):JE X E (.Call (.Attribute a "join" apos) [e] [] pos) (wpE T (.joi a' b')):=fun F=>by
  refine (pe_bm PySem.F.plainAttrs_str PySem.F.slot_str_join PySem.F.type_str_join mt_join (ha F) (pa_cons (hb F) pa_nil hs) hbase (by rw [hs]; rfl) hline hs rfl).imp fun σ H Q ⟨σ',Z,G,Q',rs,S,h,kq⟩=>?_
  rw [wpE] at h
  refine ⟨σ',Z,G,_,rs,S,h,fun x v Z1 G1 H1 s1 S1 r1 ⟨sep,ex,q1⟩=>?_⟩
  subst ex
  have ev:v= .str sep:=r1
  subst ev
  refine ⟨rfl,σ',Z1,G1,_,rs.mono s1,S1,q1,fun y u Z2 G2 H2 s2 S2 r2 ⟨ys,hy,hz,q⟩=>?_⟩
  obtain ⟨a1,vs,rfl,hH,ta⟩:=lst_at S2 r2 hy
  have:=ta.strs
  subst this
  exact ⟨sep,a1,ys,rfl,rfl,hH,hz,(kq.mono (s1.trans s2)).here S2 q rp_str⟩
noncomputable def JJ (X:Cx) (E:Ev) (parts:List Expr) (t:Str→PTE):Prop:= ∀ F,PJ X parts (fun out=>low E F (t out))
theorem jj_nil:JJ X E [] (wpJ T .nil):=fun F out pins s σ H Q I ⟨σ',Z,G,Q',rs,S,h,kq⟩=>by
  rw [wpJ] at h
  exact pj_nil out pins s σ H Q I ⟨h.1,kq.here S h.2 rp_str⟩
theorem jj_con {e:Expr} {es:List Expr} {a' b':CE} (ha:JE X E e (wpE T a')) (hb:JJ X E es (wpJ T b')) (he:evalEach (e :: es) X.env=eval e X.env :: evalEach es X.env):JJ X E (e :: es) (wpJ T (.cons a' b')):=fun F out pins s σ H Q I ⟨σ',Z,G,Q',rs,S,h,kq⟩=>by
  rw [wpJ] at h
  refine pj_cons (ha F) (hb F) he out pins s σ H Q I ⟨σ',Z,G,_,rs,S,h,fun x v Z1 G1 H1 s1 S1 r1 ⟨y,ex,_,hz,q⟩=>?_⟩
  subst ex
  exact ⟨y,r1,hz,σ',Z1,G1,Q',rs.mono s1,S1,q,kq.mono s1⟩
theorem jj_fv {e:Expr} {es:List Expr} {p:Pos} {a' b':CE} (ha:JE X E e (wpE T a')) (hb:JJ X E es (wpJ T b')) (he:evalEach (.FormattedValue e (-1) none p :: es) X.env=eval (.FormattedValue e (-1) none p) X.env :: evalEach es X.env):JJ X E (.FormattedValue e (-1) none p :: es) (wpJ T (.cons a' b')):=fun F out pins s σ H Q I ⟨σ',Z,G,Q',rs,S,h,kq⟩=>by
  rw [wpJ] at h
  refine pj_cons (pe_fv (ha F)) (hb F) he out pins s σ H Q I ⟨σ',Z,G,_,rs,S,h,fun x v Z1 G1 H1 s1 S1 r1 ⟨y,ex,hy,hz,q⟩=>?_⟩
  subst ex
  exact ⟨y,r1,hy,y,rfl,hz,σ',Z1,G1,Q',rs.mono s1,S1,q,kq.mono s1⟩
theorem je_fst {v1 v2:Expr} {rest:List Expr} {c':CE} (h:JJ X E (v1 :: v2 :: rest) (wpJ T c')):JE X E (.JoinedStr (v1 :: v2 :: rest) pos) (wpE T (.fst c')):=fun F=>(pe_fstr (h F)).imp fun σ H Q ⟨σ',Z,G,Q',rs,S,h,kq⟩=>by
  rw [wpE] at h
  exact ⟨σ',Z,G,Q',rs,S,h,kq⟩
noncomputable def bwN:Bn→Option Str
  | .len=>some "__len__"
  | .bool=>some "__len__"
  | .str=>some "__str__"
  | .repr=>some "__repr__"
  | _=>none
structure OwM (X:Cx) (E:Ev) (T:Tb) (k:Nat) (b:Bn) (c:String) (m:Str):Prop where
  ex:∃ ad fd k0 nm,k0 + 2≤k∧bwN b=some nm∧NeC X.K (E.cls c)∧Meth X.K (E.cls c) nm ad∧FnOk X.prog X.w X.K X.mg X.base CX0 k0 ad fd ["self"] (lift E (T.S m))∧Binds X.K fd ["self"] []
theorem low_bow {F:Hp} {b:Bn} {ls:List (String×Str)} (P:Pl X E T (k + 1)) (he:∀ y∈ls,OwM X E T k b y.1 y.2):CallR X (bVal b) (lowC E F (pBow T b ls)):=by
  intro pins s σ H vs us Q I rv ⟨xs,Z,G,Q',r,S,q,kq⟩
  rcases q with ⟨c,m,ns,ys,hm,ex,q⟩ | q
  · subst ex
    obtain ⟨ad,fd,k0,nm,hk,en,N,M,Fn,hb⟩:=(he _ hm).ex
    obtain ⟨v,rfl,rp⟩:=rps1 r
    have rp':=rp
    obtain ⟨p,dx,ws,ea,hz,_,_⟩:=rp'
    subst ea
    cases b <;> simp only [bwN,Option.some.injEq,reduceCtorEq] at en
    case len =>
      subst en
      exact call_lenI M Fn (P.room.mono (by omega)) hb pins s σ H _ us Q I rv ⟨p,dx,_,rfl,S.z _ _ hz,[.ob c ns ys],Z,G,F,_,⟨_,_,rfl,rp,rfl⟩,S,q,fun x v Z2 G2 H2 s2 S2 r3 ⟨n,e,h0,h1,q3⟩=>by subst e; have e:v= .int n:=r3; exact ⟨n,e,h0,h1,kq _ _ Z2 G2 H2 s2 S2 rp_int q3⟩⟩
    case str =>
      subst en
      exact call_strI M Fn (P.room.mono (by omega)) hb pins s σ H _ us Q I rv ⟨p,dx,_,rfl,S.z _ _ hz,[.ob c ns ys],Z,G,F,_,⟨_,_,rfl,rp,rfl⟩,S,q,fun x v Z2 G2 H2 s2 S2 r3 ⟨n,e,q3⟩=>by subst e; have e:v= .str n:=r3; exact ⟨n,e,kq _ _ Z2 G2 H2 s2 S2 rp_str q3⟩⟩
    case bool =>
      subst en
      exact call_boolI N.bo M Fn (P.room.mono (by omega)) hb pins s σ H _ us Q I rv ⟨p,dx,_,rfl,S.z _ _ hz,[.ob c ns ys],Z,G,F,_,⟨_,_,rfl,rp,rfl⟩,S,q,fun x v Z2 G2 H2 s2 S2 r3 ⟨n,e,h0,h1,q3⟩=>by subst e; have e:v= .int n:=r3; exact ⟨n,e,h0,h1,kq _ _ Z2 G2 H2 s2 S2 rp_bl q3⟩⟩
    case repr =>
      subst en
      exact call_reprI M Fn (P.room.mono (by omega)) hb pins s σ H _ us Q I rv ⟨p,dx,_,rfl,S.z _ _ hz,[.ob c ns ys],Z,G,F,_,⟨_,_,rfl,rp,rfl⟩,S,q,fun x v Z2 G2 H2 s2 S2 r3 ⟨n,e,q3⟩=>by subst e; have e:v= .str n:=r3; exact ⟨n,e,kq _ _ Z2 G2 H2 s2 S2 rp_str q3⟩⟩
  · exact low_blt (F:=F) (cs:=T.cs) P.hK P.calm P.cls b pins s σ H vs us Q I rv ⟨xs,Z,G,Q',r,S,q,kq⟩
theorem je_bow {x:Str} {p:Pos} {e:Expr} {es:List Expr} {bb:Bn} {ls:List (String×Str)} {es':CE} (P:Pl X E T (k + 1)) (ho:∀ y∈ls,OwM X E T k bb y.1 y.2) (hg:Gl X x) (hm:X.mg x=none) (hv:bootBuiltins x=some (bVal bb)) (hn:x≠"__name__") (hd:(x == ("__debug__":Str))=false)
    (ha:JA X E (e :: es) (wpL T es')) (he:starEach (e :: es) X.env=(false,eval e X.env) :: starEach es X.env) (hpl:(backTo pos (starEach es X.env)).any (·.1)=false):JE X E (.Call (.Name x p) (e :: es) [] pos) (wpE T (.bow bb ls es')):=fun F=>by
  have main:PE X (.Call (.Name x p) (e :: es) [] pos) (tCB (lowC E F (pBow T bb ls)) (lowA E F (e :: es).length (wpL T es'))):=by
    have hc:=low_bow (F:=F) P ho
    cases bb <;> first
      | exact pe_callB hc hg hm hv (ha F) hn hd he hpl
      | exact pe_callTy hc hg hm hv (ha F) hn hd he hpl
  exact main.imp fun σ H Q ⟨σ',Z,G,Q',rs,S,h,kq⟩=>by
    rw [wpE] at h
    exact ⟨σ',Z,G,_,rs,S,h,fun xs vs Z1 G1 H1 l1 s1 S1 r1 q1=>⟨xs,Z1,G1,Q',r1,S1,q1,kq.mono s1⟩⟩
end
end L3
namespace L3
open PySem PySem.Spec
open PyProof.Rows hiding St
open L2
section
variable {X:Cx} {E:Ev} {T:Tb} {k:Nat} {pos:Pos} {a b c e:Expr}
theorem jg_name {i:Nat} {x:Str} (hN:X.N.Nodup) (hi:X.N[i]? =some x) (hx:Loc X.env.scope x) (hf:X.fn x=true∨X.env.scope.names.lookup x=some .local):JG X E (.Name x pos) (wpG T (.gn i)):=fun F =>
  (pg_name hN hi hx hf).imp fun v σ H Q ⟨x,σ',Z,G,Q',r,rs,S,h,kq⟩=>by
    rw [wpG] at h
    exact kq _ _ _ _ _ (Same.refl Z) S (rs.set r i) h
theorem jgs_nil:JGs X E [] (wpGs T .nil):=fun F=>PGs.imp pgs_nil fun vs σ H Q ⟨xs,σ',Z,G,Q',r,rs,S,h,kq⟩=>by
  rw [wpGs] at h
  obtain ⟨e,h⟩:=h
  subst e
  exact ⟨r,kq _ _ _ _ _ (Same.refl Z) S rs h⟩
theorem jgs_cons {e:Expr} {es:List Expr} {a' b':CE} (h1:JG X E e (wpG T a')) (h2:JGs X E es (wpGs T b')) (hs:(assignEach (e :: es) X.env).map (·.2)=assign e X.env :: (assignEach es X.env).map (·.2)):JGs X E (e :: es) (wpGs T (.cons a' b')):=fun F =>
  PGs.imp (pgs_cons (h1 F) (h2 F) hs) fun vs σ H Q ⟨xs,σ',Z,G,Q',r,rs,S,h,kq⟩=>by
    rw [wpGs] at h
    obtain ⟨x,t,e,h⟩:=h
    subst e
    obtain ⟨v,u,e,r1,r2⟩:=r
    exact ⟨v,u,e,x,σ',Z,G,_,r1,rs,S,h,fun σ1 σ2 Z1 G1 H1 s1 S1 rs1 q1=>⟨t,σ1,Z1,G1,Q',r2.mono s1,rs1,S1,q1,kq.mono s1⟩⟩
theorem jg_tup {es:List Expr} {x1 n:Nat} {gs:CE} (P:Pl X E T k) (h:JGs X E es (wpGs T gs)) (hn:(assignEach es X.env).length=n) (hst:(assignEach es X.env).findIdx? (·.1)=none):JG X E (.Tuple es x1 pos) (wpG T (.gt n gs)):=fun F =>
  (pg_tup P.calm (h F) hn hst).imp fun v σ H Q ⟨x,σ',Z,G,Q',r,rs,S,h,kq⟩=>by
    rw [wpG] at h
    obtain ⟨xs,e,hl,h⟩:=h
    subst e
    obtain ⟨a,vs,e,ha,t⟩:=tup_at S r
    exact ⟨a,vs,e,P.hK▸ha,by rw [←t.length]; exact hl,xs,σ',Z,G,Q',t,rs,S,h,kq⟩
theorem jg_lst {es:List Expr} {x1 n:Nat} {gs:CE} (P:Pl X E T k) (h:JGs X E es (wpGs T gs)) (hn:(assignEach es X.env).length=n) (hst:(assignEach es X.env).findIdx? (·.1)=none):JG X E (.Tuple es x1 pos) (wpG T (.gl n gs)):=fun F =>
  (pg_lst P.calm (h F) hn hst).imp fun v σ H Q ⟨x,σ',Z,G,Q',r,rs,S,h,kq⟩=>by
    rw [wpG] at h
    obtain ⟨xs,e,hl,h⟩:=h
    obtain ⟨a,vs,e,ha,t⟩:=lst_at (xs:=xs) S r e
    exact ⟨a,vs,e,ha,by rw [←t.length]; exact hl,xs,σ',Z,G,Q',t,rs,S,h,kq⟩
noncomputable def ItOk (E:Ev) (J:It) (Z:Hp) (chk:Gh→Prop) (xs:List PV):Prop:= ∀ F (i:Nat) Z1 G1 H1,Same Z Z1→Sim E F H1 Z1 G1→chk G1→
  (∀ x,xs[i]? =some x→J.go i H1∧∀ v H2,J.yld i H1 v H2→∃ Z2,Same Z1 Z2∧Sim E F H2 Z2 G1∧RP E Z2 x v)∧(i=xs.length→J.stop i H1)
theorem ItOk.mono {J:It} {Z Z':Hp} {chk:Gh→Prop} {xs:List PV} (h:ItOk E J Z chk xs) (s:Same Z Z'):ItOk E J Z' chk xs:=fun F i Z1 G1 H1 s1=>h F i Z1 G1 H1 (s.trans s1)
noncomputable def lowI (E:Ev) (F:Hp) (t:PTI):TI:=fun σ H R=>∃ σ' Z G R',RSt E Z σ' σ∧Sim E F H Z G∧t σ' G R'∧∀ J chk xs Z1 G1 H1,Same Z Z1→Sim E F H1 Z1 G1→ItOk E J Z1 chk xs→R' chk xs G1→R J H1
noncomputable def JI (X:Cx) (E:Ev) (tg iter:Expr) (t:PTI):Prop:= ∀ F,PI X tg iter (lowI E F t)
theorem pi_seq {tg l:Expr} {tl:TE} (hl:PE X l tl):PI X tg l (fun σ H R=>tl σ H fun x H1=>∃ a,x= .ref a∧(((∃ xs,SqL X.K H1 a xs)∧R (Itl X.K a) H1)∨((∃ xs,SqT X.K H1 a xs)∧R (Itt X.K a) H1))):=by
  intro pins s σ H R I h
  have hw:=hl pins s σ H _ I h
  refine thn hw fun v s1 ⟨x,H1,I1,r1,a,e,q1⟩=>?_
  subst e
  have r1':v= .ref a:=r1
  subst r1'
  rcases q1 with ⟨⟨xs,hq⟩,q⟩ | ⟨⟨xs,hq⟩,q⟩
  · obtain ⟨its,rv,p,hz⟩:=I1.list hq
    refine wpAny_pyIter_list p.isList ?_
    refine ⟨s1.heap.objs.size,[s1.heap.objs.size],_,_,H1,rfl,I1.kept (t':=s1.toks) fun b o e=>Heap.get?_push_of_some _ e,turn_list a _,⟨_,Heap.get?_push_size _ rfl,rfl,rfl⟩,fun b hb=>?_,q⟩
    have e:b=s1.heap.objs.size:=by simpa using hb
    subst e
    exact I1.fpOk (Nat.le_refl _) (I1.hok.fresh (Nat.le_refl _))
  · obtain ⟨its,rv,p,hz⟩:=I1.tuple hq
    refine wpAny_pyIter_tuple (show s1.heap.IsTuple a its.toArray from p) ?_
    refine ⟨s1.heap.objs.size,[s1.heap.objs.size],_,_,H1,rfl,I1.kept (t':=s1.toks) fun b o e=>Heap.get?_push_of_some _ e,turn_tuple a _,⟨_,Heap.get?_push_size _ rfl,rfl,rfl⟩,fun b hb=>?_,q⟩
    have e:b=s1.heap.objs.size:=by simpa using hb
    subst e
    exact I1.fpOk (Nat.le_refl _) (I1.hok.fresh (Nat.le_refl _))
theorem it_list {a:Addr} {Z:Hp} {chk:Gh→Prop} {xs:List PV} (h:∀ F Z1 G1 H1,Same Z Z1→Sim E F H1 Z1 G1→chk G1→∃ vs,SqL E.K H1 a vs∧RPs E Z1 xs vs):ItOk E (Itl E.K a) Z chk xs:=by
  intro F i Z1 G1 H1 s1 S1 c1
  obtain ⟨vs,hs,t⟩:=h F Z1 G1 H1 s1 S1 c1
  refine ⟨fun x ex=>?_,fun e=>⟨vs,hs,by rw [e,t.length]; exact Nat.le_refl _⟩⟩
  obtain ⟨v,ev,rv⟩:=t.get ex
  refine ⟨⟨vs,v,hs,ev⟩,fun w H2 ⟨e,y⟩=>?_⟩
  subst e
  have:=y vs hs
  rw [ev] at this
  cases this
  exact ⟨Z1,Same.refl _,S1,rv⟩
theorem it_tup {a:Addr} {Z:Hp} {chk:Gh→Prop} {xs:List PV} (h:∀ F Z1 G1 H1,Same Z Z1→Sim E F H1 Z1 G1→chk G1→∃ vs,SqT E.K H1 a vs∧RPs E Z1 xs vs):ItOk E (Itt E.K a) Z chk xs:=by
  intro F i Z1 G1 H1 s1 S1 c1
  obtain ⟨vs,hs,t⟩:=h F Z1 G1 H1 s1 S1 c1
  refine ⟨fun x ex=>?_,fun e=>⟨vs,hs,by rw [e,t.length]; exact Nat.le_refl _⟩⟩
  obtain ⟨v,ev,rv⟩:=t.get ex
  refine ⟨⟨vs,v,hs,ev⟩,fun w H2 ⟨e,y⟩=>?_⟩
  subst e
  have:=y vs hs
  rw [ev] at this
  cases this
  exact ⟨Z1,Same.refl _,S1,rv⟩
theorem it_enu {a:Addr} {Z:Hp} {vs:List V} {xs:List PV} (hz:SqT E.K Z a vs) (t:RPs E Z xs vs):ItOk E (Ite E.K a) Z (fun _=>True) (enuP xs):=by
  intro F i Z1 G1 H1 s1 S1 _
  have hs:=sqT_mono S1.z (sqT_mono s1 hz)
  have hl:(enuP xs).length=xs.length:=by unfold enuP; rw [List.length_map,List.length_zipIdx]
  refine ⟨fun x ex=>?_,fun e=>⟨vs,hs,by rw [e,hl,t.length]; exact Nat.le_refl _⟩⟩
  unfold enuP at ex
  rw [List.getElem?_map,List.getElem?_zipIdx] at ex
  cases ey:xs[i]? with
  | none=>rw [ey] at ex; cases ex
  | some y =>
    rw [ey] at ex
    have ex':x= .tup [.int ((0 + i:Nat):Int),y]:=by
      have:=Option.some.inj ex
      exact this.symm
    obtain ⟨v,ev,rv⟩:=t.get ey
    refine ⟨⟨vs,v,hs,ev⟩,fun w H2 ⟨p,u,e,n,e2,y'⟩=>?_⟩
    subst e e2
    have:=y' vs hs
    rw [ev] at this
    cases this
    refine ⟨upd Z1 p (.tup [.int i,v]),same_new (S1.zn n) _,S1.fz n, ?_⟩
    rw [ex',Nat.zero_add]
    exact rp_newT (xs:=[.int (i:Int),y]) (S1.zn n) ⟨_,_,rfl,rp_int,_,_,rfl,rv.mono s1,rfl⟩
theorem it_rng {lo:Int} {n:Nat} {Z:Hp}:ItOk E (Itr lo n) Z (fun _=>True) (rngP lo n):=by
  intro F i Z1 G1 H1 s1 S1 _
  have hl:(rngP lo n).length=n:=by unfold rngP; rw [List.length_map,List.length_range]
  refine ⟨fun x ex=>?_,fun e=>by rw [hl] at e; exact Nat.le_of_eq e.symm⟩
  have hi:i < n:=by
    have:=(List.getElem?_eq_some_iff.mp ex).1
    rw [hl] at this; exact this
  have ex':x= .int (lo + i):=by
    unfold rngP at ex
    rw [List.getElem?_map,List.getElem?_range hi] at ex
    exact (Option.some.inj ex).symm
  refine ⟨hi,fun w H2 ⟨e,y⟩=>?_⟩
  subst e y
  exact ⟨Z1,Same.refl _,S1,by rw [ex']; exact rp_int⟩
theorem ji_seq {tg:Expr} {a':CE} (P:Pl X E T k) (ha:JE X E a (wpE T a')):JI X E tg a (wpI T (.isq a')):=fun F =>
  (pi_seq (ha F)).imp fun σ H R ⟨σ',Z,G,R',rs,S,h,kr⟩=>by
    rw [wpI] at h
    refine ⟨σ',Z,G,_,rs,S,h,fun x v Z1 G1 H1 s1 S1 r1 q1=>?_⟩
    unfold seqI at q1
    split at q1
    · obtain ⟨a,vs,e,ha,t⟩:=r1
      have ok:ItOk E (Itt E.K a) Z1 (fun _=>True) _:=it_tup fun F2 Z2 G2 H2 s2 S2 _=>⟨vs,sqT_mono S2.z (sqT_mono s2 ha),t.mono s2⟩
      exact ⟨a,e,.inr ⟨⟨vs,P.hK▸sqT_mono S1.z ha⟩,P.hK▸kr _ _ _ _ _ _ s1 S1 ok q1⟩⟩
    · obtain ⟨a,vs,e,ha,t⟩:=r1
      have ok:ItOk E (Itl E.K a) Z1 (fun _=>True) _:=it_list fun F2 Z2 G2 H2 s2 S2 _=>⟨vs,SqL.of (S2.z _ _ (s2 _ _ ha)),t.mono s2⟩
      exact ⟨a,e,.inl ⟨⟨vs,SqL.of (S1.z _ _ ha)⟩,P.hK▸kr _ _ _ _ _ _ s1 S1 ok q1⟩⟩
    · obtain ⟨a,e,ha⟩:=r1
      have ok:ItOk E (Itl E.K a) Z1 (fun _=>True) _:=it_list fun F2 Z2 G2 H2 s2 S2 _=>⟨_,S2.z.seq (s2.seq ha),RPs.ofInts _⟩
      exact ⟨a,e,.inl ⟨⟨_,P.hK▸S1.z.seq ha⟩,P.hK▸kr _ _ _ _ _ _ s1 S1 ok q1⟩⟩
    · rename_i a
      obtain ⟨xs,hG,q1⟩:=q1
      obtain ⟨_,o',hp,vs,e',t⟩:=S1.g _ _ hG
      subst e'
      have ok:ItOk E (Itl E.K a) Z1 (fun G'=>G' a=some (.lst xs)) xs:=it_list fun F2 Z2 G2 H2 s2 S2 c2=>by
        obtain ⟨_,o',hp,vs,e',t⟩:=S2.g _ _ c2
        subst e'
        exact ⟨vs,SqL.of hp,t⟩
      exact ⟨a,r1,.inl ⟨⟨vs,SqL.of hp⟩,P.hK▸kr _ _ _ _ _ _ s1 S1 ok q1⟩⟩
    · exact q1.elim
theorem ji_rng1 {tg:Expr} {p:Pos} {a':CE} (hg:Gl X "range") (hm:X.mg "range"=none) (ha:JE X E a (wpE T a')) (hs:starEach [a] X.env=[(false,eval a X.env)]):JI X E tg (.Call (.Name "range" p) [a] [] pos) (wpI T (.irg (.cons a' .nil))):=fun F =>
  (pi_range1 hg hm (pa_cons (ha F) pa_nil hs) hs).imp fun σ H R ⟨σ',Z,G,R',rs,S,h,kr⟩=>by
    rw [wpI,wpL,wpL] at h
    refine ⟨σ',Z,G,_,rs,S,h,fun x v Z1 G1 H1 s1 S1 r1 q1=>?_⟩
    rcases q1 with ⟨j,e,h1,h2,q⟩ | ⟨i,j,e,_⟩
    · cases e
      exact ⟨j,by rw [show v= .int j from r1],h1,h2,kr _ _ _ _ _ _ s1 S1 it_rng q⟩
    · cases e
theorem ji_rng2 {tg:Expr} {p:Pos} {a' b':CE} (hg:Gl X "range") (hm:X.mg "range"=none) (ha:JE X E a (wpE T a')) (hb:JE X E b (wpE T b')) (hs:starEach [a,b] X.env=[(false,eval a X.env),(false,eval b X.env)]) (hs2:starEach [b] X.env=[(false,eval b X.env)]) :
    JI X E tg (.Call (.Name "range" p) [a,b] [] pos) (wpI T (.irg (.cons a' (.cons b' .nil)))):=fun F =>
  (pi_range2 hg hm (pa_cons (ha F) (pa_cons (hb F) pa_nil hs2) (by rw [hs,hs2])) hs hs2).imp fun σ H R ⟨σ',Z,G,R',rs,S,h,kr⟩=>by
    rw [wpI,wpL,wpL,wpL] at h
    refine ⟨σ',Z,G,_,rs,S,h,fun x v Z1 G1 H1 s1 S1 r1 q1=>⟨σ',Z1,G1,_,rs.mono s1,S1,q1,fun y u Z2 G2 H2 s2 S2 r2 q2=>?_⟩⟩
    rcases q2 with ⟨j,e,h1,h2,q⟩ | ⟨i,j,e,hb,q⟩
    · cases e
    · cases e
      exact ⟨i,j,by rw [show v= .int i from r1,show u= .int j from r2],hb,kr _ _ _ _ _ _ (s1.trans s2) S2 it_rng q⟩
theorem ji_enu {es:List Expr} {x1:Nat} {tp p:Pos} {a':CE} (P:Pl X E T k) (hg:Gl X "enumerate") (hm:X.mg "enumerate"=none) (ha:JE X E a (wpE T a')) (hs:starEach [a] X.env=[(false,eval a X.env)]):JI X E (.Tuple es x1 tp) (.Call (.Name "enumerate" p) [a] [] pos) (wpI T (.ien a')):=fun F =>
  (pi_enum hg hm (pa_cons (ha F) pa_nil hs) hs).imp fun σ H R ⟨σ',Z,G,R',rs,S,h,kr⟩=>by
    rw [wpI] at h
    refine ⟨σ',Z,G,_,rs,S,h,fun x v Z1 G1 H1 s1 S1 r1 ⟨xs,e,q1⟩=>?_⟩
    subst e
    obtain ⟨a,vs,e,ha,t⟩:=r1
    exact ⟨a,by rw [e],⟨vs,P.hK▸sqT_mono S1.z ha⟩,P.hK▸kr _ _ _ _ _ _ s1 S1 (it_enu ha t) q1⟩
noncomputable def RowZ (E:Ev) (Z:Hp) (b:Bool) (l:Addr) (us:List V):Prop:=if b=true then SqT E.K Z l us else Z l=some (.lst us)
theorem RowZ.mono {Z Z':Hp} {b:Bool} {l:Addr} {us:List V} (s:Same Z Z') (h:RowZ E Z b l us):RowZ E Z' b l us:=by
  unfold RowZ at *
  split
  · rename_i e; rw [if_pos e] at h; exact sqT_mono s h
  · rename_i e; rw [if_neg e] at h; exact s _ _ h
theorem RowZ.at_ {Z:Hp} {b:Bool} {l:Addr} {us:List V} (h:RowZ E Z b l us):RowAt E.K Z b l us:=by
  unfold RowZ at h
  unfold RowAt
  split
  · rename_i e; rw [if_pos e] at h; exact h
  · rename_i e; rw [if_neg e] at h; exact SqL.of h
theorem js_for {tg iter:Expr} {body:List Stmt} {g' i':CE} {b':CS} (P:Pl X E T k) (hp:PassesOwn (model X.prog X.w) X.A X.env X.xe) (hi:JI X E tg iter (wpI T i')) (hg:JG X E tg (wpG T g')) (hb:JSs X E body (wpS T b'))
    (hs:∀ x,foldedSetIterable iter X.env x=pure x):JS X E (.For tg iter body [] pos) (wpS T (.fr g' i' b')):=fun F =>
  (ps_for hp P.calm (hi F) (hg F) (hb F) hs).imp fun D σ H ⟨σ',Z,G,D',rs,S,h,kd⟩=>by
    rw [wpS] at h
    refine ⟨σ',Z,G,_,rs,S,h,fun J chk xs Z1 G1 H1 s1 S1 ok q=>?_⟩
    refine ⟨fun i m σ H=>m=xs.length - i∧i≤xs.length∧∃ σ' Z2 G2,Same Z1 Z2∧Sim E F H Z2 G2∧RSt E Z2 σ' σ∧forP chk (wpG T g') (wpS T b') D' (xs.drop i) σ' G2,⟨xs.length,by simp,Nat.zero_le _,σ',Z1,G1,Same.refl _,S1,rs.mono s1,q⟩, ?_⟩
    rintro i m σ2 H2 ⟨rfl,hi,σ3,Z2,G2,s2,S2,rs2,q2⟩
    have sz:=s1.trans s2
    by_cases hlt:i < xs.length
    · have hd:xs.drop i=xs[i] :: xs.drop (i + 1):=List.drop_eq_getElem_cons hlt
      rw [hd] at q2
      unfold forP at q2
      obtain ⟨c2,q2⟩:=q2
      obtain ⟨go,yl⟩:=(ok F i Z2 G2 H2 s2 S2 c2).1 xs[i] (by simp [hlt])
      refine .inr ⟨go,fun σ4 H4=>∃ σ5 Z4 G4,Same Z2 Z4∧Sim E F H4 Z4 G4∧RSt E Z4 σ5 σ4∧forP chk (wpG T g') (wpS T b') D' (xs.drop (i + 1)) σ5 G4,fun σ4 H4 ⟨σ5,Z4,G4,s4,S4,rs4,q4⟩=>⟨xs.length - (i + 1),by omega,rfl,hlt,σ5,Z4,G4,s2.trans s4,S4,rs4,q4⟩,fun v H3 y=>?_⟩
      obtain ⟨Z3,s3,S3,r3⟩:=yl v H3 y
      refine ⟨xs[i],σ3,Z3,G2,_,r3,rs2.mono s3,S3,q2,fun σ6 σ7 Z5 G5 H5 s5 S5 rs5 q5=>⟨σ6,Z5,G5,_,rs5,S5,q5, ?_⟩⟩
      have s35:=s3.trans s5
      exact ⟨fun σ8 σ9 Z6 G6 H6 s6 S6 rs6 q6=>⟨σ8,Z6,G6,s35.trans s6,S6,rs6,q6⟩,kd.rt.mono (sz.trans s35),kd.nx.mono (sz.trans s35),fun σ8 σ9 Z6 G6 H6 s6 S6 rs6 q6=>⟨σ8,Z6,G6,s35.trans s6,S6,rs6,q6⟩⟩
    · have e:i=xs.length:=by omega
      rw [e,List.drop_length] at q2
      unfold forP at q2
      obtain ⟨c2,q2⟩:=q2
      exact .inl ⟨(ok F i Z2 G2 H2 s2 S2 c2).2 e,kd.nx _ _ _ _ _ sz S2 rs2 q2⟩
theorem js_wh {body:List Stmt} {c':CE} {b':CS} (hp:PassesOwn (model X.prog X.w) X.A X.env X.xe) (hc:JT X E c (wpT T c')) (hb:JSs X E body (wpS T b')):JS X E (.While c body [] pos) (wpS T (.wh c' b')):=fun F =>
  (ps_while hp (hc F) (hb F)).imp fun D σ H ⟨σ',Z,G,D',rs,S,h,kd⟩=>by
    rw [wpS] at h
    obtain ⟨W,⟨m0,w0⟩,turn⟩:=h
    refine ⟨fun m σ H=>∃ σ' Z2 G2,Same Z Z2∧Sim E F H Z2 G2∧RSt E Z2 σ' σ∧W m σ' G2,⟨m0,σ',Z,G,Same.refl _,S,rs,w0⟩, ?_⟩
    rintro m σ2 H2 ⟨σ3,Z2,G2,s2,S2,rs2,w2⟩
    refine ⟨σ3,Z2,G2,_,rs2,S2,turn m σ3 G2 w2,fun d Z3 G3 H3 s3 S3 q3=>?_⟩
    have s23:=s2.trans s3
    dsimp only
    cases d with
    | true =>
      rw [if_pos rfl] at q3 ⊢
      refine ⟨fun σ4 H4=>∃ σ5 Z4 G4 m',m' < m∧Same Z Z4∧Sim E F H4 Z4 G4∧RSt E Z4 σ5 σ4∧W m' σ5 G4,fun σ4 H4 ⟨σ5,Z4,G4,m',lt,s4,S4,rs4,w4⟩=>⟨m',lt,σ5,Z4,G4,s4,S4,rs4,w4⟩,σ3,Z3,G3,_,rs2.mono s3,S3,q3, ?_⟩
      exact ⟨fun σ8 σ9 Z6 G6 H6 s6 S6 rs6 ⟨m',lt,w6⟩=>⟨σ8,Z6,G6,m',lt,s23.trans s6,S6,rs6,w6⟩,kd.rt.mono s23,kd.nx.mono s23,fun σ8 σ9 Z6 G6 H6 s6 S6 rs6 ⟨m',lt,w6⟩=>⟨σ8,Z6,G6,m',lt,s23.trans s6,S6,rs6,w6⟩⟩
    | false =>
      rw [if_neg Bool.false_ne_true] at q3 ⊢
      exact kd.nx _ _ _ _ _ s23 S3 (rs2.mono s3) q3
theorem js_seq {st:Stmt} {rest:List Stmt} {a' b':CS} (h1:JS X E st (wpS T a')) (h2:JSs X E rest (wpS T b')):JSs X E (st :: rest) (wpS T (.seq a' b')):=fun F =>
  PSs.imp (pss_cons (h1 F) (h2 F)) fun D σ H ⟨σ',Z,G,D',rs,S,h,kd⟩=>by
    rw [wpS] at h
    exact ⟨σ',Z,G,_,rs,S,h,⟨fun σ1 σ2 Z1 G1 H1 s1 S1 rs1 q1=>⟨σ1,Z1,G1,D',rs1,S1,q1,kd.mono s1⟩,kd.rt,kd.bk,kd.ct⟩⟩
theorem js_one {st:Stmt} {a':CS} (h1:JS X E st (wpS T a')):JSs X E [st] (wpS T a'):=fun F=>pss_one (h1 F)
theorem js_nil:JSs X E [] (wpS T .nil):=fun F=>PSs.imp pss_nil fun D σ H ⟨σ',Z,G,D',rs,S,h,kd⟩=>by
  rw [wpS] at h
  exact kd.nx _ _ _ _ _ (Same.refl Z) S rs h
theorem js_pass:JS X E (.Pass pos) (wpS T .nil):=fun F=>ps_pass.imp fun D σ H ⟨σ',Z,G,D',rs,S,h,kd⟩=>by
  rw [wpS] at h
  exact kd.nx _ _ _ _ _ (Same.refl Z) S rs h
theorem js_doc {x:Str} {j:Nat} {pos':Pos}:JS X E (.Expr (.Constant (.str x) j pos) pos') (wpS T .nil):=fun F=>ps_doc.imp fun D σ H ⟨σ',Z,G,D',rs,S,h,kd⟩=>by
  rw [wpS] at h
  exact kd.nx _ _ _ _ _ (Same.refl Z) S rs h
theorem js_ex {e':CE} (he:JE X E e (wpE T e')) (hs:swapsWith e none pos.line X.env=pure false):JS X E (.Expr e pos) (wpS T (.ex e')):=fun F =>
  (ps_expr (he F) hs).imp fun D σ H ⟨σ',Z,G,D',rs,S,h,kd⟩=>by
    rw [wpS] at h
    exact ⟨σ',Z,G,_,rs,S,h,fun x v Z1 G1 H1 s1 S1 r1 q1=>kd.nx _ _ _ _ _ s1 S1 (rs.mono s1) q1⟩
theorem js_ret {e':CE} (he:JE X E e (wpE T e')):JS X E (.Return (some e) pos) (wpS T (.ret e')):=fun F =>
  (ps_ret (he F)).imp fun D σ H ⟨σ',Z,G,D',rs,S,h,kd⟩=>by
    rw [wpS] at h
    exact ⟨σ',Z,G,_,rs,S,h,kd.rt⟩
theorem js_retN:JS X E (.Return none pos) (wpS T .retN):=fun F=>ps_retN.imp fun D σ H ⟨σ',Z,G,D',rs,S,h,kd⟩=>by
  rw [wpS] at h
  exact kd.rt _ _ _ _ _ (Same.refl Z) S rp_non h
theorem js_nev {st:Stmt}:JS X E st (wpS T .nev):=fun F=>ps_never.imp fun D σ H ⟨σ',Z,G,D',rs,S,h,kd⟩=>by
  rw [wpS] at h
  exact h
theorem js_nevs {sts:List Stmt}:JSs X E sts (wpS T .nev):=fun F=>PSs.imp pss_never fun D σ H ⟨σ',Z,G,D',rs,S,h,kd⟩=>by
  rw [wpS] at h
  exact h
theorem js_if {x y:List Stmt} {c':CE} {a' b':CS} (hc:JT X E c (wpT T c')) (ha:JSs X E x (wpS T a')) (hb:JSs X E y (wpS T b')):JS X E (.If c x y pos) (wpS T (.iff c' a' b')):=fun F =>
  (ps_if (hc F) (ha F) (hb F)).imp fun D σ H ⟨σ',Z,G,D',rs,S,h,kd⟩=>by
    rw [wpS] at h
    refine ⟨σ',Z,G,_,rs,S,h,fun d Z1 G1 H1 s1 S1 q=>?_⟩
    cases d with
    | true=>rw [if_pos rfl] at q ⊢; exact ⟨σ',Z1,G1,D',rs.mono s1,S1,q,kd.mono s1⟩
    | false=>rw [if_neg Bool.false_ne_true] at q ⊢; exact ⟨σ',Z1,G1,D',rs.mono s1,S1,q,kd.mono s1⟩
theorem low_asg {F:Hp} {g' e':CE} {D:Ends} {σ:L2.St} {H:Hp} (h:lowS E F (wpS T (.asg g' e')) D σ H):tAsg (low E F (wpE T e')) (lowG E F (wpG T g')) D σ H:=by
  obtain ⟨σ',Z,G,D',rs,S,h,kd⟩:=h
  rw [wpS] at h
  exact ⟨σ',Z,G,_,rs,S,h,fun x v Z1 G1 H1 s1 S1 r1 q1=>⟨x,σ',Z1,G1,_,r1,rs.mono s1,S1,q1,kd.nx.mono s1⟩⟩
theorem js_asg {tg:Expr} {g' e':CE} (he:JE X E e (wpE T e')) (hg:JG X E tg (wpG T g')) (hs:swapsWithSole [tg] e pos.line X.env=pure false) (hw:swappedStores [tg] e X.env=pure none) (h1:(assignEach [tg] X.env).map (·.2)=[assign tg X.env]) :
    JS X E (.Assign [tg] e pos) (wpS T (.asg g' e')):=fun F=>(ps_asg (he F) (hg F) hs hw h1).imp fun D σ H h=>low_asg h
theorem js_par {i j:Nat} {x y:Str} {a' b':CE} {px py pt pt2:Pos} {kt k2:Nat} (P:Pl X E T k) (hN:X.N.Nodup) (hi:X.N[i]? =some x) (hj:X.N[j]? =some y) (hij:i≠j) (hx:X.env.scope.names.lookup x=some .local) (hy:X.env.scope.names.lookup y=some .local)
    (ha:JE X E a (wpE T a')) (hb:JE X E b (wpE T b')) (s1:starEach [a,b] X.env=(false,eval a X.env) :: starEach [b] X.env) (s2:starEach [b] X.env=(false,eval b X.env) :: starEach [] X.env)
    (hw:swappedStores [.Tuple [.Name x px,.Name y py] kt pt] (.Tuple [a,b] k2 pt2) X.env=pure (some [x,y])) (hs:swapsWithSole [.Tuple [.Name x px,.Name y py] kt pt] (.Tuple [a,b] k2 pt2) pos.line X.env=pure false) :
    JS X E (.Assign [.Tuple [.Name x px,.Name y py] kt pt] (.Tuple [a,b] k2 pt2) pos) (wpS T (.par i j a' b')):=fun F =>
  (ps_par P.calm hN hi hj hij hx hy (pa_cons (ha F) (pa_cons (hb F) pa_nil s2) s1) hw hs).imp fun D σ H ⟨σ',Z,G,D',rs,S,h,kd⟩=>by
    rw [wpS] at h
    refine ⟨σ',Z,G,_,rs,S,h,fun x v Z1 G1 H1 s1 S1 r1 q1=>⟨σ',Z1,G1,_,rs.mono s1,S1,q1,fun y u Z2 G2 H2 s2 S2 r2 q2=>?_⟩⟩
    exact ⟨v,u,rfl,kd.nx _ _ _ _ _ (s1.trans s2) S2 ((((rs.mono s1).mono s2).set (r1.mono s2) i).set r2 j) q2⟩
theorem js_sub {o i:Expr} {pos':Pos} {o' i' e':CE} (he:JE X E e (wpE T e')) (ho:JE X E o (wpE T o')) (hi:JE X E i (wpE T i'))
    (ha:∀ v,assign (.Subscript o i pos') X.env v=(do
      let ov ←holding [v] (eval o X.env)
      let iv ←holding [v,ov] (eval i X.env)
      standAt pos'
      holding [v,ov,iv] (setItem ov iv v)
      release [v,ov,iv] []))
    (hs:swapsWithSole [.Subscript o i pos'] e pos.line X.env=pure false) (hw:swappedStores [.Subscript o i pos'] e X.env=pure none):JS X E (.Assign [.Subscript o i pos'] e pos) (wpS T (.sub o' i' e')):=fun F =>
  (ps_asg (he F) (pg_sub (ho F) (hi F) (low_set (E:=E) (F:=F)) ha) hs hw rfl).imp fun D σ H ⟨σ',Z,G,D',rs,S,h,kd⟩=>by
    rw [wpS] at h
    refine ⟨σ',Z,G,_,rs,S,h,fun v v' Z1 G1 H1 s1 S1 r1 q1=>⟨σ',Z1,G1,_,rs.mono s1,S1,q1,fun x x' Z2 G2 H2 s2 S2 r2 q2=>⟨σ',Z2,G2,_,(rs.mono s1).mono s2,S2,q2,fun y y' Z3 G3 H3 s3 S3 r3 q3=>?_⟩⟩⟩
    have s13:=(s1.trans s2).trans s3
    exact ⟨x,y,v,Z3,G3,_,r2.mono s3,r3,(r1.mono s2).mono s3,S3,q3,fun G4 H4 S4 q4=>kd.nx _ _ _ _ _ s13 S4 (rs.mono s13) q4⟩
theorem putF_zip (f:Str) (v:V):∀ (ns:List Str) (vs:List V),ns.length=vs.length→putF f v (ns.zip vs)=(putN f ns).zip (putX f v ns vs)∧(putN f ns).length=(putX f v ns vs).length
  | [],[],_=>⟨rfl,rfl⟩
  | [],_ :: _,h=>by cases h
  | _ :: _,[],h=>by cases h
  | n :: ns,u :: us,h=>by
    obtain ⟨a,b⟩:=putF_zip f v ns us (by simpa using h)
    rw [List.zip_cons_cons]
    unfold putF putN putX
    split
    · exact ⟨by rw [List.zip_cons_cons],by simpa using h⟩
    · exact ⟨by rw [List.zip_cons_cons,a],by simpa using b⟩
theorem putX_rp {Z:Hp} {f:Str} {y:PV} {u:V} (r:RP E Z y u):∀ {ns:List Str} {xs:List PV} {vs:List V},RPs E Z xs vs→RPs E Z (putX f y ns xs) (putX f u ns vs)
  | [],_,_,_=>⟨u,[],rfl,r,rfl⟩
  | _ :: _,[],_,h=>by cases h; exact rfl
  | n :: ns,x :: xs,_,⟨v,t,e,r1,r2⟩=>by
    subst e
    unfold putX
    split
    · exact ⟨u,t,rfl,r,r2⟩
    · exact ⟨v,_,rfl,r1,putX_rp r r2⟩
theorem js_fld {o:Expr} {f:Str} {pos':Pos} {o' e':CE} (P:Pl X E T k) (ho:JE X E o (wpE T o')) (he:JE X E e (wpE T e')) (hs:swapsWith e (some (.Attribute o f pos')) pos.line X.env=pure false):JS X E (.Assign [.Attribute o f pos'] e pos) (wpS T (.fld o' f e')):=fun F =>
  (ps_fld (ho F) (he F) hs).imp fun D σ H ⟨σ',Z,G,D',rs,S,h,kd⟩=>by
    rw [wpS] at h
    refine ⟨σ',Z,G,_,rs,S,h,fun v v' Z1 G1 H1 s1 S1 r1 q1=>⟨σ',Z1,G1,_,rs.mono s1,S1,q1,fun x x' Z2 G2 H2 s2 S2 r2 ⟨p,c,ns,xs,e,hG,hf,hl,q2⟩=>?_⟩⟩
    subst e
    have e:x'= .ref p:=r2
    subst e
    obtain ⟨_,o',hp,dx,vs,e',l,t⟩:=S2.g _ _ hG
    subst e'
    obtain ⟨h1,h2⟩:=P.fld c f hf
    obtain ⟨e1,e2⟩:=putF_zip f v' ns vs l
    refine ⟨p,_,dx,_,rfl,hp,h1,h2,by rw [List.length_zip,←l,Nat.min_self]; exact hl,kd.nx _ _ _ _ _ (s1.trans s2) (S2.set (go:=.ins c (putN f ns) (putX f v ns xs)) hG ⟨dx,putX f v' ns vs,by rw [e1],e2,putX_rp (r1.mono s2) t⟩) ((rs.mono s1).mono s2) q2⟩
end
end L3
namespace L3
open PySem PySem.Spec
open PyProof.Rows hiding St
open L2
section
variable {X:Cx} {E:Ev} {T:Tb} {k:Nat} {pos:Pos} {a b c e:Expr}
theorem cap_rs {Z:Hp} {js:List (Option Nat)} {σ':PSt} {σ:L2.St} (rs:RSt E Z σ' σ):RSt E Z (capP js σ') (capS js σ):=by
  induction js with
  | nil=>exact .nil
  | cons o r ih =>
    refine .cons ?_ ih
    cases o with
    | none=>exact trivial
    | some j =>
      show RSl E Z ((σ'[j]?).getD none) ((σ[j]?).getD none)
      cases e:σ'[j]? with
      | none=>exact trivial
      | some u =>
        cases u with
        | none=>exact trivial
        | some x =>
          obtain ⟨v,e',r⟩:=rs.get e
          rw [e']
          exact ⟨v,rfl,r⟩
noncomputable def anyE (E:Ev) (t:PTE):TE:=fun σ H Q=>∃ F,low E F t σ H Q
noncomputable def anyT (E:Ev) (t:PTT):TT:=fun σ H Q=>∃ F,lowT E F t σ H Q
noncomputable def anyG (E:Ev) (t:PTG):TG:=fun v σ H Q=>∃ F,lowG E F t v σ H Q
theorem JE.any {t:PTE} (h:JE X E e t):PE X e (anyE E t):=fun pins s σ H Q I ⟨F,q⟩=>h F pins s σ H Q I q
theorem JT.any {t:PTT} (h:JT X E e t):PT X e (anyT E t):=fun pins s σ H Q I ⟨F,q⟩=>h F pins s σ H Q I q
theorem JG.any {t:PTG} (h:JG X E e t):PG X e (anyG E t):=fun pins s σ H v u Q I r ⟨F,q⟩=>h F pins s σ H v u Q I r q
theorem comp_low {F:Hp} {J:It} {Z1 H1:Hp} {G1:Gh} {chk:Gh→Prop} {xs:List PV} {g':PTG} {ts':PTT} {te':PTE} {σ':PSt} {σ:L2.St} {m:Bool} {Q':PK1} {Q:VK} {D:Addr}
    (S1:Sim E F H1 Z1 G1) (ok:ItOk E J Z1 chk xs) (rs:RSt E Z1 σ' σ) (hz:xs.length≤sizeLine) (n:H1 D=none) (q:compP chk g' ts' te' xs [] σ' G1 fun ys G2=>gupL m G2 ys Q') (kq:Kq E F Z1 Q' Q) :
    CompW J D (anyG E g') (anyT E ts') (anyE E te') Q σ (upd H1 D (.lst [])):=by
  have fD:F D=none:=S1.fn n
  refine ⟨fun i m' σ H=>m'=xs.length - i∧i≤xs.length∧∃ σ' Z2 G2 acc vs,Same Z1 Z2∧Sim E (upd F D (.lst vs)) H Z2 G2∧RPs E Z2 acc vs∧RSt E Z2 σ' σ∧acc.length≤i∧compP chk g' ts' te' (xs.drop i) acc σ' G2 fun ys G2=>gupL m G2 ys Q',
    ⟨xs.length,by simp,Nat.zero_le _,σ',Z1,G1,[],[],Same.refl _,S1.mine n,rfl,rs,Nat.le_refl _,q⟩, ?_⟩
  rintro i m' σ2 H2 ⟨rfl,hi,σ3,Z2,G2,acc,vs,s2,S2,ra,rs2,la,q2⟩
  by_cases hlt:i < xs.length
  · have hd:xs.drop i=xs[i] :: xs.drop (i + 1):=List.drop_eq_getElem_cons hlt
    rw [hd] at q2
    unfold compP at q2
    obtain ⟨c2,q2⟩:=q2
    obtain ⟨go,yl⟩:=(ok _ i Z2 G2 H2 s2 S2 c2).1 xs[i] (by simp [hlt])
    refine .inr ⟨go,fun σ4 H4=>∃ σ5 Z4 G4 acc4 vs4,Same Z1 Z4∧Sim E (upd F D (.lst vs4)) H4 Z4 G4∧RPs E Z4 acc4 vs4∧RSt E Z4 σ5 σ4∧acc4.length≤i + 1∧compP chk g' ts' te' (xs.drop (i + 1)) acc4 σ5 G4 fun ys G2=>gupL m G2 ys Q',
      fun σ4 H4 ⟨σ5,Z4,G4,acc4,vs4,s4,S4,ra4,rs4,l4,q4⟩=>⟨xs.length - (i + 1),by omega,rfl,hlt,σ5,Z4,G4,acc4,vs4,s4,S4,ra4,rs4,l4,q4⟩,fun v H3 y=>?_⟩
    obtain ⟨Z3,s3,S3,r3⟩:=yl v H3 y
    refine ⟨_,xs[i],σ3,Z3,G2,_,r3,rs2.mono s3,S3,q2,fun σ6 σ7 Z5 G5 H5 s5 S5 rs5 q5=>⟨_,σ6,Z5,G5,_,rs5,S5,q5,fun ok' Z6 G6 H6 s6 S6 q6=>?_⟩⟩
    have s26:=(s3.trans s5).trans s6
    dsimp only
    cases ok' with
    | true =>
      rw [if_pos rfl] at q6 ⊢
      refine ⟨_,σ6,Z6,G6,_,rs5.mono s6,S6,q6,fun y' u Z7 G7 H7 s7 S7 r7 q7=>?_⟩
      refine ⟨vs,(S7.f D _ upd_same).1, ?_, ?_⟩
      · have:=ra.length; omega
      · have s27:=s26.trans s7
        exact ⟨σ6,Z7,G7,acc ++ [y'],vs ++ [u],s2.trans s27,S7.turn,(ra.mono s27).append ⟨u,[],rfl,r7,rfl⟩,(rs5.mono s6).mono s7,by rw [List.length_append]; exact Nat.succ_le_succ la,q7⟩
    | false =>
      rw [if_neg Bool.false_ne_true] at q6 ⊢
      exact ⟨σ6,Z6,G6,acc,vs,s2.trans s26,S6,ra.mono s26,rs5.mono s6,Nat.le_succ_of_le la,q6⟩
  · have e:i=xs.length:=by omega
    rw [e,List.drop_length] at q2
    unfold compP at q2
    obtain ⟨c2,q2⟩:=q2
    refine .inl ⟨(ok _ i Z2 G2 H2 s2 S2 c2).2 e, ?_⟩
    unfold gupL at q2
    cases m with
    | true =>
      rw [if_pos rfl] at q2
      exact kq (.ref D) _ Z2 _ _ s2 (S2.mineG fD (go:=.lst acc) ⟨vs,rfl,ra⟩) rfl (q2 D (S2.f D _ upd_same).2.2)
    | false =>
      rw [if_neg Bool.false_ne_true] at q2
      have zn:=(S2.f D _ upd_same).2.1
      exact kq (.lst acc) _ (upd Z2 D (.lst vs)) _ _ (s2.trans (same_new zn _)) (S2.mineZ fD) (rp_newL zn ra) q2
theorem low_comp {F:Hp} {m:Bool} {tg' it' ts' el':CE} {js:List (Option Nat)} {σ:L2.St} {H:Hp} {Q:VK} (h:low E F (wpE T (.cmpr m tg' it' ts' el' js)) σ H Q):tComp (lowI E F (wpI T it')) (anyG E (wpG T tg')) (anyT E (wpT T ts')) (anyE E (wpE T el')) js σ H Q:=by
  obtain ⟨σ',Z,G,Q',rs,S,h,kq⟩:=h
  rw [wpE] at h
  refine ⟨σ',Z,G,_,rs,S,h,fun J chk xs Z1 G1 H1 s1 S1 ok q D n=>?_⟩
  exact comp_low S1 ok (cap_rs (rs.mono s1)) q.1 n q.2 (kq.mono s1)
noncomputable def PTs' (X:Cx) (E:Ev) (ifs:List Expr) (t:PTT):Prop:=PTs X ifs (anyT E t)
theorem pts0:PTs' X E [] (wpT T .nil):=fun pins s σ H Q I ⟨F,σ',Z,G,Q',rs,S,h,kt⟩=>by
  rw [wpT] at h
  exact pts_nil pins s σ H Q I (kt _ _ _ _ (Same.refl Z) S h)
theorem pts1 {t:PTT} (h:JT X E c t):PTs' X E [c] t:=pts_one h.any
section
variable {N:List Str} {scope:Scope} {cl:List (Str×Addr)} {js:List (Option Nat)} {tg iter elt:Expr} {ifs:List Expr} {m:Bool} {tg' it' ts' el':CE}
theorem je_cmpr (S:BlockOk X N scope cl js) (P:Pl X E T k) (hi:JI X E tg iter (wpI T it')) (hg:∀ C s₀ H₀ ex,JG (cxC X N scope cl C s₀ H₀ ex) E tg (wpG T tg')) (ht:∀ C s₀ H₀ ex,PTs' (cxC X N scope cl C s₀ H₀ ex) E ifs (wpT T ts'))
    (he:∀ C s₀ H₀ ex,JE (cxC X N scope cl C s₀ H₀ ex) E elt (wpE T el')) (hs:∀ x,foldedSetIterable iter X.env x=pure x):JE X E (.ListComp elt [⟨tg,iter,ifs,0⟩] scope pos) (wpE T (.cmpr m tg' it' ts' el' js)):=fun F =>
  (pe_comp S P.calm (hi F) (fun C s₀ H₀ ex=>(hg C s₀ H₀ ex).any) ht (fun C s₀ H₀ ex=>(he C s₀ H₀ ex).any) hs).imp fun σ H Q h=>low_comp h
theorem js_setC {i:Nat} {y:Str} {py spos:Pos} (S:BlockOk X N scope cl js) (P:Pl X E T k) (hN:X.N.Nodup) (hi':X.N[i]? =some y) (hy:X.env.scope.names.lookup y=some .local) (hi:JI X E tg iter (wpI T it')) (hg:∀ C s₀ H₀ ex,JG (cxC X N scope cl C s₀ H₀ ex) E tg (wpG T tg'))
    (ht:∀ C s₀ H₀ ex,PTs' (cxC X N scope cl C s₀ H₀ ex) E ifs (wpT T ts')) (he:∀ C s₀ H₀ ex,JE (cxC X N scope cl C s₀ H₀ ex) E elt (wpE T el'))
    (hsw:swapsWith (.ListComp elt [⟨tg,iter,ifs,0⟩] scope pos) (some (.Name y py)) spos.line X.env=pure true) (hs:∀ x,foldedSetIterable iter X.env x=pure x) :
    JS X E (.Assign [.Name y py] (.ListComp elt [⟨tg,iter,ifs,0⟩] scope pos) spos) (wpS T (.asg (.gn i) (.cmpr m tg' it' ts' el' js))):=fun F =>
  (ps_setC S P.calm hN hi' hy (hi F) (fun C s₀ H₀ ex=>(hg C s₀ H₀ ex).any) ht (fun C s₀ H₀ ex=>(he C s₀ H₀ ex).any) hsw hs).imp fun D σ H ⟨σ',Z,G,D',rs,S,h,kd⟩=>by
    rw [wpS] at h
    refine low_comp (m:=m) ⟨σ',Z,G,_,rs,S,h,fun x v Z1 G1 H1 s1 S1 r1 q1=>?_⟩
    unfold wpG at q1
    exact kd.nx _ _ _ _ _ s1 S1 ((rs.mono s1).set r1 i) q1
end
noncomputable def MkSp (T:Tb) (c:String) (x xi:Str):Prop:= ∀ xs G Q,T.S x xs G Q→∀ p,G p=none→T.S xi (.ref p :: xs) (gup G p (.ins c [] [])) fun r G1=>r= .non∧∃ ns ys,G1 p=some (.ins c ns ys)∧Q (.ob c ns ys) (gdel G1 p)
theorem mk_low {F:Hp} {c:String} {x xi:Str} {Z1 H1:Hp} {G1:Gh} {xs:List PV} {vs:List V} {Q':PK1} {Q:VK} {p dx:Addr} {us:List V} (hu:us= .ref p :: vs) (M:MkSp T c x xi) (S1:Sim E F H1 Z1 G1) (r:RPs E Z1 xs vs) (q:T.S x xs G1 Q') (kq:Kq E F Z1 Q' Q) (n:H1 p=none) (nd:H1 dx=none) (ne:dx≠p) :
    lift E (T.S xi) us (upd (upd H1 dx (.own p)) p (.ins (E.cls c) dx [])) (fun v H2=>v= .non∧Q (.ref p) H2) E0:=by
  subst hu
  have S2:Sim E F (upd H1 dx (.own p)) Z1 G1:=S1.other nd
  have n2:upd H1 dx (.own p) p=none:=by rw [upd_ne (Ne.symm ne)]; exact n
  have S3:Sim E F (upd (upd H1 dx (.own p)) p (.ins (E.cls c) dx [])) Z1 (gup G1 p (.ins c [] [])):=S2.new n2 ⟨dx,[],rfl,rfl,rfl⟩
  refine ⟨.ref p :: xs,Z1,_,F,_,⟨.ref p,vs,rfl,rfl,r⟩,S3,M xs G1 Q' q p (S1.gn n), ?_⟩
  rintro z v Z4 G4 H4 s4 S4 r4 ⟨e,ns,ys,hG,q4⟩
  subst e
  obtain ⟨zn,o',hp,dx',vs',e',l,t⟩:=S4.g _ _ hG
  subst e'
  exact ⟨r4,kq (.ob c ns ys) _ (upd Z4 p _) _ _ (s4.trans (same_new zn _)) (S4.frz hG hp) ⟨p,dx',vs',rfl,upd_same,l,t.mono (same_new zn _)⟩ q4⟩
theorem je_mak {c:String} {x xi:Str} {p:Pos} {e:Expr} {es:List Expr} {es':CE} {f:Addr} {fd:FuncData} {ps:List Str} (M:Mk X.K (E.cls c) f) (K:FnOk X.prog X.w X.K X.mg X.base CX0 k f fd ps (lift E (T.S xi))) (hr:Room (k + 1) X.A) (hg:Gl X x) (hm:X.mg x=some (.ref (E.cls c)))
    (hb:Binds X.K fd ps []) (ms:MkSp T c x xi) (hd:(x == ("__debug__":Str))=false) (ha:JA X E (e :: es) (wpL T es')) (he:starEach (e :: es) X.env=(false,eval e X.env) :: starEach es X.env) (hpl:(backTo pos (starEach es X.env)).any (·.1)=false) :
    JE X E (.Call (.Name x p) (e :: es) [] pos) (wpE T (.cal x es')):=fun F =>
  (pe_make M K hr hg hm hb .nil pass0 (ha F) hd he hpl).imp fun σ H Q ⟨σ',Z,G,Q',rs,S,h,kq⟩=>by
    rw [wpE] at h
    exact ⟨σ',Z,G,_,rs,S,h,fun xs vs Z1 G1 H1 l1 s1 S1 r1 q1 p dx n nd ne=>mk_low (by rw [List.append_nil]) ms S1 r1 q1 (kq.mono s1) n nd ne⟩
noncomputable def JK (X:Cx) (E:Ev) (kws:List Keyword) (t:PTA):Prop:= ∀ F,PK X kws (lowA E F kws.length t)
theorem PK.imp {kws:List Keyword} {t t':TA} (h:PK X kws t) (g:∀ σ H Q,t' σ H Q→t σ H Q):PK X kws t':=fun pos pins s σ H Q I q=>h pos pins s σ H Q I (g _ _ _ q)
theorem jk_nil:JK X E [] (wpL T .nil):=fun F=>PK.imp pk_nil fun σ H Q ⟨σ',Z,G,Q',rs,S,h,kq⟩=>by rw [wpL] at h; exact kq [] [] Z G H rfl (Same.refl Z) S rfl h
theorem jk_cons {n:Option Str} {v:Expr} {p:Pos} {kws:List Keyword} {a' b':CE} (ha:JE X E v (wpE T a')) (hr:JK X E kws (wpL T b')):JK X E (⟨n,v,p⟩ :: kws) (wpL T (.cons a' b')):=fun F =>
  PK.imp (pk_cons (ha F) (hr F)) fun σ H Q ⟨σ',Z,G,Q',rs,S,h,kq⟩=>by
    rw [wpL] at h
    exact ⟨σ',Z,G,_,rs,S,h,fun x v Z1 G1 H1 s1 S1 r1 q1=>⟨σ',Z1,G1,_,rs.mono s1,S1,q1,fun xs vs Z2 G2 H2 l2 s2 S2 r2 q2=>kq (x :: xs) (v :: vs) _ _ _ (by rw [List.length_cons,l2]; rfl) (s1.trans s2) S2 ⟨v,vs,rfl,r1.mono s2,r2⟩ q2⟩⟩
noncomputable def Ar.valV (vs:List V):Ar→V
  | .arg i=>vs.getD i .non
  | .non=>.non
  | .bl b=>.bl b
  | .int i=>.int i
  | .str x=>.str x
theorem ar_rp {Z:Hp} {xs:List PV} {vs:List V} (r:RPs E Z xs vs):∀ ar:List Ar,RPs E Z (ar.map (Ar.val xs)) (ar.map (Ar.valV vs))
  | []=>rfl
  | a :: l=>by
    refine ⟨_,_,rfl, ?_,ar_rp r l⟩
    cases a with
    | arg i =>
      show RP E Z (xs.getD i .non) (vs.getD i .non)
      rw [List.getD_eq_getElem?_getD,List.getD_eq_getElem?_getD]
      cases e:xs[i]? with
      | none =>
        have:vs[i]? =none:=List.getElem?_eq_none_iff.mpr (by rw [←r.length]; exact List.getElem?_eq_none_iff.mp e)
        rw [this]; exact rp_non
      | some x =>
        obtain ⟨v,e',rr⟩:=r.get e
        rw [e']; exact rr
    | non=>exact rp_non
    | bl b=>exact rp_bl
    | int i=>exact rp_int
    | str x=>exact rp_str
structure ShOk (K:PySem.W.Frag) (fd:FuncData) (ps:List Str) (n:Nat) (ks:List Str) (ar:List Ar):Prop where
  len:ar.length=ps.length
  to:∀ (s:Shared) (us ws:List Value),K.In s.heap→us.length=n→ws.length=ks.length→∃ bs,BindsTo s fd ⟨us,ks.zip ws⟩ (ps.zip bs)∧∀ vs zs,Vals vs us→Vals zs ws→Vals (ar.map (Ar.valV (vs ++ zs))) bs
theorem run_sh {pins:List (Addr×Obj)} {σ:L2.St} {H:Hp} {s:Shared} {Q:VK} {us ws:List Value} {vs zs:List V} {f:Addr} {fd:FuncData} {ps ks:List Str} {n:Nat} {ar:List Ar} {sp:Sp} {A':Around}
    (K:FnOk X.prog X.w X.K X.mg X.base CX0 k f fd ps sp) (hr:Room k A') (e0:Env0 X.prog X.w X.K X.mg X.base A' X.stack s H) (hb:ShOk X.K fd ps n ks ar) (I:Inv X pins σ H s) (r:Vals vs us) (rz:Vals zs ws) (l1:vs.length=n) (l2:zs.length=ks.length) (h:sp (ar.map (Ar.valV (vs ++ zs))) H Q E0) :
    wpAny (model X.prog X.w) A' (call (.ref f) us (ks.zip ws)) (EP X pins σ Q) X.xe s:=by
  obtain ⟨bs,hbs,hv⟩:=hb.to s us ws I.kIn (by rw [←r.length]; exact l1) (by rw [←rz.length]; exact l2)
  refine wpAny_call (codeAny_mono (K.run A' X.stack s H ⟨us,ks.zip ws⟩ bs _ Q E0 hr e0 hbs (hv vs zs r rz) h) fun r s' hq=>?_)
  cases r with
  | error e=>exact hq.elim
  | ok fl =>
    cases fl with
    | ret u=>exact I.after hq
    | next=>exact False.elim hq
    | brk=>exact False.elim hq
    | cont=>exact False.elim hq
theorem je_cak {f:Str} {p:Pos} {e:Expr} {es:List Expr} {kws:List Keyword} {es' ks':CE} {ad:Addr} {fd:FuncData} {ps ks:List Str} {n:Nat} {ar:List Ar} (K:FnOk X.prog X.w X.K X.mg X.base CX0 k ad fd ps (lift E (T.S f))) (hr:Room k X.A) (hg:Gl X f) (hm:X.mg f=some (.ref ad))
    (hk:PySem.W.keepIn X.K (.ref ad)=true) (hb:ShOk X.K fd ps n ks ar) (hd:(f == ("__debug__":Str))=false) (ha:JA X E (e :: es) (wpL T es')) (hkw:JK X E kws (wpL T ks')) (hn:(e :: es).length=n) (hkn:kws.length=ks.length)
    (hall:(backToKw pos (keywordEach kws X.env)).all (·.1.isSome)=true) (hks:(backToKw pos (keywordEach kws X.env)).filterMap (·.1)=ks) (he:starEach (e :: es) X.env=(false,eval e X.env) :: starEach es X.env)
    (hpl:((backTo pos (starEach (e :: es) X.env)).any (·.1) || (backToKw pos (keywordEach kws X.env)).any (·.1.isNone))=false) :
    JE X E (.Call (.Name f p) (e :: es) kws pos) (wpE T (.cak f es' ks' ar)):=fun F=>by
  have main:PE X (.Call (.Name f p) (e :: es) kws pos) (fun σ H Q=>lowA E F (e :: es).length (wpL T es') σ H fun vs H1=>vs.length=n∧lowA E F kws.length (wpL T ks') σ H1 fun zs H2=>zs.length=ks.length∧lift E (T.S f) (ar.map (Ar.valV (vs ++ zs))) H2 Q E0):=by
    intro pins s σ H Q I h
    refine wpAny_Call_Name_kw (ld_glob I hg hm ?_ hd)
    refine PySem.W.callWith_KW (h₀:=X.base) I.ok.mod.kin hk hall (thn (ha F pos pins s σ H _ I h) fun us s1 ⟨vs,H1,I1,r,l1,q⟩=>?_) hpl he
    refine thn (hkw F pos pins s1 σ H1 _ I1 q) fun ws s2 ⟨zs,H2,I2,rz,l2,q2⟩=>⟨I2.kIn, ?_⟩
    rw [hks]
    exact run_sh K hr I2.env0 hb I2 r rz l1 l2 q2
  refine main.imp fun σ H Q ⟨σ',Z,G,Q',rs,S,h,kq⟩=>?_
  rw [wpE] at h
  exact ⟨σ',Z,G,_,rs,S,h,fun xs vs Z1 G1 H1 l1 s1 S1 r1 q1=>⟨by rw [←r1.length,l1]; exact hn,σ',Z1,G1,_,rs.mono s1,S1,q1,fun zs us Z2 G2 H2 l2 s2 S2 r2 q2 =>
    ⟨by rw [←r2.length,l2]; exact hkn,_,Z2,G2,F,Q',ar_rp ((r1.mono s2).append r2) ar,S2,q2,kq.mono (s1.trans s2)⟩⟩⟩
theorem je_cak0 {f:Str} {p:Pos} {kws:List Keyword} {ks':CE} {ad:Addr} {fd:FuncData} {ps ks:List Str} {ar:List Ar} (K:FnOk X.prog X.w X.K X.mg X.base CX0 k ad fd ps (lift E (T.S f))) (hr:Room k X.A) (hg:Gl X f) (hm:X.mg f=some (.ref ad))
    (hk:PySem.W.keepIn X.K (.ref ad)=true) (hb:ShOk X.K fd ps 0 ks ar) (hd:(f == ("__debug__":Str))=false) (hkw:JK X E kws (wpL T ks')) (hkn:kws.length=ks.length)
    (hall:(backToKw pos (keywordEach kws X.env)).all (·.1.isSome)=true) (hks:(backToKw pos (keywordEach kws X.env)).filterMap (·.1)=ks)
    (hpl:((backTo pos (starEach [] X.env)).any (·.1) || (backToKw pos (keywordEach kws X.env)).any (·.1.isNone))=false) :
    JE X E (.Call (.Name f p) [] kws pos) (wpE T (.cak f .nil ks' ar)):=fun F=>by
  have main:PE X (.Call (.Name f p) [] kws pos) (fun σ H Q=>lowA E F kws.length (wpL T ks') σ H fun zs H2=>zs.length=ks.length∧lift E (T.S f) (ar.map (Ar.valV ([] ++ zs))) H2 Q E0):=by
    intro pins s σ H Q I h
    refine wpAny_Call_Name_kw (ld_glob I hg hm ?_ hd)
    refine PySem.W.callWith_KW0 (h₀:=X.base) (first:=[]) I.ok.mod.kin hk hall ?_ hpl
    refine thn (hkw F pos pins s σ H _ I h) fun ws s2 ⟨zs,H2,I2,rz,l2,q2⟩=>⟨I2.kIn, ?_⟩
    rw [hks]
    exact run_sh (us:=[]) (vs:=[]) K hr I2.env0 hb I2 .nil rz rfl l2 q2
  refine main.imp fun σ H Q ⟨σ',Z,G,Q',rs,S,h,kq⟩=>?_
  rw [wpE,wpL] at h
  exact ⟨σ',Z,G,_,rs,S,h,fun zs us Z2 G2 H2 l2 s2 S2 r2 q2=>⟨by rw [←r2.length,l2]; exact hkn,_,Z2,G2,F,Q',ar_rp r2 ar,S2,q2,kq.mono s2⟩⟩
theorem je_mak0 {c:String} {x xi:Str} {p:Pos} {kws:List Keyword} {ks':CE} {f:Addr} {fd:FuncData} {ps ks:List Str} {ar:List Ar} (M:Mk X.K (E.cls c) f) (K:FnOk X.prog X.w X.K X.mg X.base CX0 k f fd ps (lift E (T.S xi))) (hr:Room (k + 1) X.A) (hg:Gl X x) (hm:X.mg x=some (.ref (E.cls c)))
    (hb:ShOk X.K fd ps 1 ks (.arg 0 :: ar.map fun a=>match a with | .arg i=>.arg (i + 1) | a=>a)) (ms:MkSp T c x xi) (hd:(x == ("__debug__":Str))=false) (hkw:JK X E kws (wpL T ks')) (hkn:kws.length=ks.length)
    (hall:(backToKw pos (keywordEach kws X.env)).all (·.1.isSome)=true) (hks:(backToKw pos (keywordEach kws X.env)).filterMap (·.1)=ks)
    (hpl:((backTo pos (starEach [] X.env)).any (·.1) || (backToKw pos (keywordEach kws X.env)).any (·.1.isNone))=false) :
    JE X E (.Call (.Name x p) [] kws pos) (wpE T (.cak x .nil ks' ar)):=fun F=>by
  have main:PE X (.Call (.Name x p) [] kws pos) (fun σ H Q=>lowA E F kws.length (wpL T ks') σ H fun zs H2=>zs.length=ks.length∧∀ y dx,H2 y=none→H2 dx=none→dx≠y→
      lift E (T.S xi) (.ref y :: ar.map (Ar.valV zs)) (upd (upd H2 dx (.own y)) y (.ins (E.cls c) dx [])) (fun v H3=>v= .non∧Q (.ref y) H3) E0):=by
    intro pins s σ H Q I h
    refine wpAny_Call_Name_kw (ld_glob I hg hm ?_ hd)
    refine PySem.W.callWith_KW0 (h₀:=X.base) (first:=[]) I.ok.mod.kin M.kp hall ?_ hpl
    refine thn (hkw F pos pins s σ H _ I h) fun ws s2 ⟨zs,H2,I2,rz,l2,q2⟩=>⟨I2.kIn, ?_⟩
    rw [hks]
    have hq:=q2 (s2.heap.objs.size + 1) s2.heap.objs.size (I2.hok.fresh (Nat.le_succ _)) (I2.hok.fresh (Nat.le_refl _)) (Nat.ne_of_lt (Nat.lt_succ_self _))
    have I3:=Inv.made (C:=E.cls c) I2
    have e:V.ref (s2.heap.objs.size + 1) :: ar.map (Ar.valV zs)=(Ar.arg 0 :: ar.map fun a=>match a with | .arg i=>.arg (i + 1) | a=>a).map (Ar.valV ([V.ref (s2.heap.objs.size + 1)] ++ zs)):=by
      rw [List.map_cons,List.map_map]
      refine congr (congrArg List.cons rfl) (List.map_congr_left fun a _=>?_)
      cases a <;> rfl
    rw [e] at hq
    obtain ⟨bs,hbs,hv⟩:=hb.to { s2 with heap:=(s2.heap.push _).push _ } [Value.ref (s2.heap.objs.size + 1)] ws I3.kIn rfl (by rw [←rz.length]; exact l2)
    refine wpAny_call (make_map (f:=f) (vs:=[]) (kw:=ks.zip ws) I2.kIn M.makes M.init (beq_iff_eq.mp M.fn) (codeAny_mono (K.run _ X.stack _ _ ⟨[Value.ref (s2.heap.objs.size + 1)],ks.zip ws⟩ bs _ _ E0 (hr.make (E.cls c) [] (ks.zip ws))
      (I3.env0.make (E.cls c) [] (ks.zip ws)) hbs (hv [V.ref (s2.heap.objs.size + 1)] zs (.cons rfl .nil) rz) hq) fun r s' hq'=>?_))
    cases r with
    | error e=>exact hq'.elim
    | ok fl =>
      cases fl with
      | ret u =>
        obtain ⟨v,H',I4,rv,ev,q3⟩:=I3.after hq'
        subst ev
        exact ⟨rv,⟨V.ref (s2.heap.objs.size + 1),H',I4,rfl,q3⟩⟩
      | next=>exact False.elim hq'
      | brk=>exact False.elim hq'
      | cont=>exact False.elim hq'
  refine main.imp fun σ H Q ⟨σ',Z,G,Q',rs,S,h,kq⟩=>?_
  rw [wpE,wpL] at h
  exact ⟨σ',Z,G,_,rs,S,h,fun zs us Z2 G2 H2 l2 s2 S2 r2 q2=>⟨by rw [←r2.length,l2]; exact hkn,fun y dx n nd ne=>mk_low rfl ms S2 (ar_rp r2 ar) q2 (kq.mono s2) n nd ne⟩⟩
end
end L3
namespace L3
open PySem PySem.Spec
open PyProof.Rows hiding St
open L2
noncomputable def clos (cells:List (Str×Addr)):List (Str×NameKind)→List (Str×Addr)→List (Str×Addr)
  | [],acc=>acc
  | (n,k) :: r,acc=>clos cells r (if k= .free then (n,(cells.lookup n).getD 0) :: acc else acc)
theorem clos_ok {scope:Scope} {env:Env} (h:∀ y∈scope.names,y.2= .free→∃ c,env.cells.lookup y.1=some c):closureFor scope env=pure (clos env.cells scope.names []):=by
  unfold closureFor
  have main:∀ (l:List (Str×NameKind)) (acc:List (Str×Addr)),(∀ y∈l,y.2= .free→∃ c,env.cells.lookup y.1=some c)→
      (forIn l acc (fun x r=>if (x.2 == NameKind.free)=true then do let c ←cellOf env x.1; pure (ForInStep.yield ((x.1,c) :: r)) else pure (ForInStep.yield r)):Sem (List (Str×Addr)))=pure (clos env.cells l acc):=by
    intro l
    induction l with
    | nil=>intro acc _; rfl
    | cons y r ih =>
      intro acc hy
      obtain ⟨n,k⟩:=y
      rw [List.forIn_cons]
      have ihr:=fun acc=>ih acc fun z hz=>hy z (List.mem_cons_of_mem _ hz)
      by_cases hk:k= .free
      · subst hk
        obtain ⟨c,hc⟩:=hy (n,.free) (List.mem_cons_self ..) rfl
        have e:cellOf env n=pure c:=by unfold cellOf; rw [hc]
        simp only [beq_self_eq_true,if_true,e]
        unfold clos
        rw [if_pos rfl,hc]
        exact ihr _
      · have e:((n,k).2 == NameKind.free)=false:=beq_eq_false_iff_ne.mpr hk
        simp only [e]
        unfold clos
        rw [if_neg hk]
        exact ihr _
  have:=main scope.names [] h
  have e:(forIn scope.names ([]:List (Str×Addr)) (fun x r=>match x with
      | (name,kind)=>if (kind == NameKind.free)=true then do let c ←cellOf env name; pure (ForInStep.yield ((name,c) :: r)) else pure (ForInStep.yield r)):Sem (List (Str×Addr)))=pure (clos env.cells scope.names []):=by
    rw [←this]
  show ((forIn scope.names ([]:List (Str×Addr)) (fun x r=>match x with
      | (name,kind)=>if (kind == NameKind.free)=true then do let c ←cellOf env name; pure (ForInStep.yield ((name,c) :: r)) else pure (ForInStep.yield r)):Sem (List (Str×Addr))) >>= pure)=_
  rw [e]
  rfl
theorem clos_cl {cells:List (Str×Addr)}:∀ {l:List (Str×NameKind)} {acc:List (Str×Addr)},(∀ y∈l,y.2= .free→∃ c,cells.lookup y.1=some c)→ClOk cells acc→ClOk cells (clos cells l acc)
  | [],_,_,h=>h
  | (n,k) :: r,acc,hy,h=>by
    unfold clos
    refine clos_cl (fun z hz=>hy z (List.mem_cons_of_mem _ hz)) ?_
    split
    · rename_i hk
      obtain ⟨c,hc⟩:=hy (n,k) (List.mem_cons_self ..) hk
      exact ⟨by rw [hc]; rfl,h⟩
    · exact h
theorem clos_mem {cells:List (Str×Addr)}:∀ {l:List (Str×NameKind)} {acc:List (Str×Addr)} {n:Str},((∃ c,(n,c)∈acc)∨(n,NameKind.free)∈l)→∃ c,(n,c)∈clos cells l acc
  | [],_,_,h=>by
    rcases h with h | h
    · exact h
    · cases h
  | (m, k) :: r,acc,n,h=>by
    unfold clos
    refine clos_mem ?_
    rcases h with ⟨c,h⟩ | h
    · refine .inl ?_
      split
      · exact ⟨c,List.mem_cons_of_mem _ h⟩
      · exact ⟨c,h⟩
    · rcases List.mem_cons.mp h with e | h
      · cases e
        exact .inl ⟨_,by rw [if_pos rfl]; exact List.mem_cons_self ..⟩
      · exact .inr h
theorem cl_look {cells:List (Str×Addr)}:∀ {cl:List (Str×Addr)} {n:Str},ClOk cells cl→(∃ c,(n,c)∈cl)→∃ c,cl.lookup n=some c∧cells.lookup n=some c
  | [],_,_,⟨_,h⟩=>by cases h
  | (m,d) :: r,n,ok,⟨c,h⟩=>by
    rw [List.lookup_cons]
    cases hb:n == m with
    | true =>
      rw [beq_iff_eq.mp hb]
      exact ⟨d,rfl,ok.1⟩
    | false =>
      rcases List.mem_cons.mp h with e | h
      · cases e; rw [beq_self_eq_true] at hb; cases hb
      · exact cl_look ok.2 ⟨c,h⟩
theorem free_ok {cl cells:List (Str×Addr)} (hcl:ClOk cells cl):∀ {l:List (Str×NameKind)},(∀ n,(n,NameKind.free)∈l→∃ c,(n,c)∈cl)→FreeOk cl cells l
  | [],_=>trivial
  | (n,k) :: r,h=>⟨fun e=>by subst e; exact cl_look hcl (h n (List.mem_cons_self ..)),free_ok hcl fun m hm=>h m (List.mem_cons_of_mem _ hm)⟩
structure Cfg where
  N:List Str
  names:List (Str×NameKind)
  blk:Bool
  fns:List Str
  mks:List Str
  shs:List (Str×Nat×List Str×List Ar)
  mkk:List (Str×List Str×List Ar)
  gls:List Str
  tys:List Str
  blt:List Str
  M:List Str
  rm:Bool
  eqs:List (String×Str):=[]
  own:List Str:=[]
  ls:List Str:=[]
  nes:List (String×Str):=[]
  lns:List (String×Str):=[]
  ows:List (Str×List (String×Str)):=[]
noncomputable def slot:List Str→Str→Option Nat
  | [],_=>none
  | y :: r,x=>if y=x then some 0 else (slot r x).map (· + 1)
theorem slot_ok:∀ {N:List Str} {x:Str} {i:Nat},slot N x=some i→N[i]? =some x
  | [],_,_,h=>by cases h
  | y :: r,x,i,h=>by
    unfold slot at h
    split at h
    · rename_i e; cases h; rw [e]; rfl
    · cases e:slot r x with
      | none=>rw [e] at h; cases h
      | some j =>
        rw [e] at h
        cases h
        rw [List.getElem?_cons_succ]
        exact slot_ok e
noncomputable def visB (C:Cfg) (x:Str):Bool:=match C.names.lookup x with
  | some .local=>true
  | some .cell=>true
  | some .free=>true
  | _=>false
noncomputable def locB (C:Cfg) (x:Str):Bool:=match C.names.lookup x with
  | some .local=>true
  | some .cell=> !C.blk || C.own.contains x
  | _=>false
noncomputable def glB (C:Cfg) (x:Str):Bool:=C.names.lookup x == some .globalImplicit
noncomputable def plainB (x:Str):Bool:= !(x == ("__debug__":Str)) && !(x == ("__classdict__":Str))
noncomputable def starB:Expr→Bool
  | .Starred .. =>true
  | _=>false
noncomputable def call0B:Expr→Bool
  | .Call (.Name _ _) [] [] _=>true
  | _=>false
noncomputable def setB:Expr→Bool
  | .Set .. =>true
  | _=>false
noncomputable def sliB:Expr→Bool
  | .Slice .. =>true
  | _=>false
noncomputable def compB:Expr→Bool
  | .ListComp .. | .SetComp .. | .DictComp .. =>true
  | _=>false
noncomputable def bTab:List (Str×Bn):=[("len",.len),("abs",.abs),("max",.max),("min",.min),("int",.int),("str",.str),("isinstance",.isi),("tuple",.tuple),("list",.list),("all",.all),("any",.any),("sum",.sum),("bool",.bool),("repr",.repr),("divmod",.divmod)]
noncomputable def kwN:List Keyword→Option (List Str)
  | []=>some []
  | ⟨some n,_,_⟩ :: r=>(kwN r).map (n :: ·)
  | ⟨none,_,_⟩ :: _=>none
noncomputable def blkNames (C:Cfg) (sc:Scope):List (Str×NameKind):=sc.names.map fun (n,k)=>if (k == .free && C.names.lookup n == some .cell) then (n,.cell) else (n,k)
noncomputable def blkN (C:Cfg):List (Str×NameKind)→List (Str×Option Nat)
  | []=>[]
  | (n,k) :: r=>match k with
    | .local=>(n,none) :: blkN C r
    | .cell=>(n,none) :: blkN C r
    | .free=>match slot C.N n with
      | some j=>if C.names.lookup n=some .cell then (n,some j) :: blkN C r else blkN C r
      | none=>blkN C r
    | _=>blkN C r
noncomputable def blkOk (C:Cfg) (sc:Scope):Bool:=sc.kind == .function && sc.names.all (fun y=>(y.2 != .cell || !sc.names.contains (y.1,.free)) && (y.2 != .local || sc.names.lookup y.1 == some .local) && (y.2 != .free || C.names.lookup y.1 == some .cell)) && decide (((blkN C sc.names).map (·.1)).Nodup)
  && (blkN C sc.names).all (fun p=>p.2.isNone || ((blkNames C sc).lookup p.1 == some .cell))
noncomputable def blkC (C:Cfg) (sc:Scope):Cfg:={ C with N:=(blkN C sc.names).map (·.1),names:=blkNames C sc,blk:=true,own:=(sc.names.filter (fun y=>y.2 == .cell)).map (·.1) }
mutual
noncomputable def xE:Nat→Cfg→Bool→Expr→Option CE
  | 0,_,_,_=>none
  | n + 1,C,m,e=>match e with
    | .Compare a [.NotEq] [b] _=>if setB b || C.nes.isEmpty then none else (cE n C false a).bind fun a'=>(cE n C false b).bind fun b'=>some (.cne C.nes a' b')
    | _=>none
noncomputable def cE:Nat→Cfg→Bool→Expr→Option CE
  | 0,_,_,_=>none
  | n + 1,C,m,e=>match xE n C m e with
  | some c=>some c
  | none => match e with
    | .Name x _=>if plainB x then (match slot C.N x with
      | some i=>if visB C x then some (.var i) else none
      | none=>if glB C x && (C.gls.contains x || C.tys.contains x) then some (.glo x) else none) else none
    | .Constant v _ _=>(match v with
      | .int i=>some (.int i)
      | .bool b=>some (.bl b)
      | .none=>some .non
      | .str s=>some (.str s)
      | _=>none)
    | .BinOp a op b _=>(cE n C false a).bind fun a'=>(cE n C false b).bind fun b'=>some (.bin op a' b')
    | .UnaryOp op a _=>(match op with
      | .USub=>(cE n C false a).bind fun a'=>some (.neg a')
      | .Not=>(cE n C false a).bind fun a'=>some (.no a')
      | _=>none)
    | .BoolOp op vs _=>cB n C op vs
    | .Compare a ops bs _=>(match ops,bs with
      | [op],[b]=>if setB b then none else (cE n C false a).bind fun a'=>(cE n C false b).bind fun b'=>some (.cmp op a' b')
      | [op,op'],[b,c]=>if setB c then none else (cE n C false a).bind fun a'=>(cE n C false b).bind fun b'=>(cE n C false c).bind fun c'=>some (.chn op op' a' b' c')
      | _,_=>none)
    | .Tuple es _ _=>(cL n C es).bind fun es'=>some (.tup es')
    | .List es _=>(cL n C es).bind fun es'=>some (.lst m es')
    | .Subscript a s _=>(match s with
      | .Slice lo hi none _=>(cE n C false a).bind fun a'=>(cO n C lo).bind fun l'=>(cO n C hi).bind fun h'=>some (.sli a' l' h')
      | .Slice none none (some (.UnaryOp .USub (.Constant (.int 1) _ _) _)) _=>(cE n C false a).bind fun a'=>some (.rev a')
      | s=>if sliB s then none else (cE n C false a).bind fun a'=>(cE n C false s).bind fun i'=>some (.idx a' i'))
    | .Attribute a f _=>if call0B a then none else (cE n C false a).bind fun a'=>some (.att a' f)
    | .Call f es kws pos=>(match f,es,kws with
      | .Name x _,e :: r,[]=>if glB C x then (match bTab.lookup x with
          | some b=>if C.blt.contains x then (cL n C (e :: r)).bind fun es'=>some (match C.ows.lookup x with | some ls=>.bow b ls es' | none=>.blt b es') else none
          | none=>(match C.shs.find? (fun s=>s.1 == x && s.2.1 == (e :: r).length && s.2.2.1 == []) with
            | some s=>(cL n C (e :: r)).bind fun es'=>some (.cak x es' .nil s.2.2.2)
            | none=>if C.fns.contains x || C.mks.contains x then (cL n C (e :: r)).bind fun es'=>some (.cal x es') else none)) else none
      | .Name x _,e :: r,kw :: kws=>if glB C x then (kwN (kw :: kws)).bind fun ks=>(match C.shs.find? (fun s=>s.1 == x && s.2.1 == (e :: r).length && s.2.2.1 == ks) with
          | some s=>(cL n C (e :: r)).bind fun es'=>(cK n C (kw :: kws)).bind fun ks'=>some (.cak x es' ks' s.2.2.2)
          | none=>none) else none
      | .Name x _,[],kw :: kws=>if glB C x then (kwN (kw :: kws)).bind fun ks=>(match C.shs.find? (fun s=>s.1 == x && s.2.1 == 0 && s.2.2.1 == ks) with
          | some s=>(cK n C (kw :: kws)).bind fun ks'=>some (.cak x .nil ks' s.2.2.2)
          | none=>(match C.mkk.find? (fun s=>s.1 == x && s.2.1 == ks) with
            | some s=>(cK n C (kw :: kws)).bind fun ks'=>some (.cak x .nil ks' s.2.2)
            | none=>none)) else none
      | .Attribute o mth ap,[e],[]=>if mth="join" && !call0B o && !starB e && ap.endLine == pos.line then (cE n C false o).bind fun o'=>(cE n C false e).bind fun e'=>some (.joi o' e') else if mth="append" && !call0B o && !starB e && ap.endLine == pos.line then (cE n C false o).bind fun o'=>(cE n C false e).bind fun e'=>some (.app o' e') else none
      | _,_,_=>none)
    | .ListComp elt gens sc _=>(match gens with
      | [⟨tg,iter,ifs,0⟩]=>if blkOk C sc && !setB iter then (cI n C tg iter).bind fun it'=>(cG n (blkC C sc) tg).bind fun tg'=>(cTs n (blkC C sc) ifs).bind fun ts'=>(cE n (blkC C sc) false elt).bind fun el'=>some (.cmpr m tg' it' ts' el' ((blkN C sc.names).map (·.2))) else none
      | _=>none)
    | .JoinedStr (a :: b :: r) _=>(cJ n C (a :: b :: r)).bind fun es'=>some (.fst es')
    | _=>none
noncomputable def cJ:Nat→Cfg→List Expr→Option CE
  | 0,_,_=>none
  | n + 1,C,es=>match es with
    | []=>some .nil
    | e :: r=>(match e with
      | .FormattedValue e (-1) none _=>(cE n C false e).bind fun e'=>(cJ n C r).bind fun r'=>some (.cons e' r')
      | .Constant (.str s) _ _=>(cJ n C r).bind fun r'=>some (.cons (.str s) r')
      | _=>none)
noncomputable def cL:Nat→Cfg→List Expr→Option CE
  | 0,_,_=>none
  | n + 1,C,es=>match es with
    | []=>some .nil
    | e :: r=>if starB e then none else (cE n C false e).bind fun e'=>(cL n C r).bind fun r'=>some (.cons e' r')
noncomputable def cD:Nat→Cfg→List (Option Expr)→List Expr→Option CE
  | 0,_,_,_=>none
  | n + 1,C,ks,vs=>match ks,vs with
    | [],[]=>some .nil
    | some k :: ks,v :: vs=>(cE n C false k).bind fun k'=>(cE n C false v).bind fun v'=>(cD n C ks vs).bind fun r'=>some (.cons k' (.cons v' r'))
    | _,_=>none
noncomputable def cK:Nat→Cfg→List Keyword→Option CE
  | 0,_,_=>none
  | n + 1,C,ks=>match ks with
    | []=>some .nil
    | ⟨_,v,_⟩ :: r=>(cE n C false v).bind fun e'=>(cK n C r).bind fun r'=>some (.cons e' r')
noncomputable def cB:Nat→Cfg→BoolOp→List Expr→Option CE
  | 0,_,_,_=>none
  | n + 1,C,op,vs=>match vs with
    | []=>none
    | [a]=>cE n C false a
    | a :: b :: r=>(cE n C false a).bind fun a'=>(cB n C op (b :: r)).bind fun b'=>some (match op with | .And=>.an a' b' | .Or=>.oo a' b')
noncomputable def xT:Nat→Cfg→Expr→Option CE
  | 0,_,_=>none
  | n + 1,C,e=>match e with
    | .Compare a [.NotEq] [b] _=>if setB b || C.nes.isEmpty then none else (cE n C false a).bind fun a'=>(cE n C false b).bind fun b'=>some (.tsb (.cne C.nes a' b'))
    | _=>none
noncomputable def cT:Nat→Cfg→Expr→Option CE
  | 0,_,_=>none
  | n + 1,C,e=>match xT n C e with
  | some c=>some c
  | none=>match e with
    | .BoolOp op vs _=>cW n C op vs
    | .UnaryOp .Not a _=>(cT n C a).bind fun a'=>some (.no a')
    | .Compare a ops bs _=>(match ops,bs with
      | [op],[b]=>if setB b then none else (cE n C false a).bind fun a'=>(cE n C false b).bind fun b'=>some (.tsb (.cmp op a' b'))
      | [op,op'],[b,c]=>if setB c then none else (cE n C false a).bind fun a'=>(cE n C false b).bind fun b'=>(cE n C false c).bind fun c'=>some (.tsb (.chn op op' a' b' c'))
      | _,_=>none)
    | .Name .. | .Call .. | .Subscript .. | .Attribute .. =>(cE n C false e).bind fun e'=>some (.tst e')
    | _=>none
noncomputable def cW:Nat→Cfg→BoolOp→List Expr→Option CE
  | 0,_,_,_=>none
  | n + 1,C,op,vs=>match vs with
    | []=>none
    | [a]=>cT n C a
    | a :: b :: r=>(cT n C a).bind fun a'=>(cW n C op (b :: r)).bind fun b'=>some (match op with | .And=>.an a' b' | .Or=>.oo a' b')
noncomputable def cO:Nat→Cfg→Option Expr→Option CE
  | 0,_,_=>none
  | n + 1,C,o=>match o with
    | none=>some .nil
    | some e=>(cE n C false e).bind fun e'=>some (.tst e')
noncomputable def cTs:Nat→Cfg→List Expr→Option CE
  | 0,_,_=>none
  | n + 1,C,l=>match l with
    | []=>some .nil
    | [c]=>cT n C c
    | _=>none
noncomputable def cG:Nat→Cfg→Expr→Option CE
  | 0,_,_=>none
  | n + 1,C,e=>match e with
    | .Name x _=>if locB C x then (slot C.N x).bind fun i=>some (.gn i) else none
    | .Tuple es _ _=>(cGs n C es).bind fun g=>some (.gt es.length g)
    | _=>none
noncomputable def cGs:Nat→Cfg→List Expr→Option CE
  | 0,_,_=>none
  | n + 1,C,es=>match es with
    | []=>some .nil
    | e :: r=>if starB e then none else (cG n C e).bind fun g=>(cGs n C r).bind fun r'=>some (.cons g r')
noncomputable def cI:Nat→Cfg→Expr→Expr→Option CE
  | 0,_,_,_=>none
  | n + 1, C,tg,e=>match e with
    | .Call (.Name x p) es kws pos=>if x="zip" then none
      else (match kws,es with
      | [],[a]=>if starB a then none else if x="range" then (if glB C x && C.blt.contains x then (cE n C false a).bind fun a'=>some (.irg (.cons a' .nil)) else none)
        else if x="enumerate" then (match tg with
          | .Tuple .. =>if glB C x && C.blt.contains x then (cE n C false a).bind fun a'=>some (.ien a') else none
          | _=>none)
        else (cE n C false (.Call (.Name x p) es kws pos)).bind fun e'=>some (.isq e')
      | [],[a,b]=>if starB a || starB b then none else if x="range" then (if glB C x && C.blt.contains x then (cE n C false a).bind fun a'=>(cE n C false b).bind fun b'=>some (.irg (.cons a' (.cons b' .nil))) else none)
        else (cE n C false (.Call (.Name x p) es kws pos)).bind fun e'=>some (.isq e')
      | _,_=>(cE n C false (.Call (.Name x p) es kws pos)).bind fun e'=>some (.isq e'))
    | e=>if setB e then none else (cE n C false e).bind fun e'=>some (.isq e')
end
end L3
namespace L3
open PySem PySem.Spec
open PyProof.Rows hiding St
open L2
structure Fk (P:Program) (w:World) (K:PySem.W.Frag) (mg:Str→Option Value) (base:Heap) (E:Ev) (T:Tb) (k:Nat) (f:Str) (ad:Addr) (fd:FuncData) (ps:List Str):Prop where
  ok:FnOk P w K mg base CX0 k ad fd ps (lift E (T.S f))
  mg:mg f=some (.ref ad)
  kp:PySem.W.keepIn K (.ref ad)=true
  db:(f == ("__debug__":Str))=false
structure Mf (P:Program) (w:World) (K:PySem.W.Frag) (mg:Str→Option Value) (base:Heap) (E:Ev) (T:Tb) (k:Nat) (x:Str) (c:String) (xi:Str) (ad:Addr) (fd:FuncData) (ps:List Str):Prop where
  mkr:Mk K (E.cls c) ad
  ok:FnOk P w K mg base CX0 k ad fd ps (lift E (T.S xi))
  mg:mg x=some (.ref (E.cls c))
  ms:MkSp T c x xi
  db:(x == ("__debug__":Str))=false
noncomputable def up1:Ar→Ar
  | .arg i=>.arg (i + 1)
  | a=>a
structure Gf (P:Program) (w:World) (K:PySem.W.Frag) (mg:Str→Option Value) (base:Heap) (E:Ev) (T:Tb) (k:Nat) (C:Cfg):Prop where
  fns:∀ f∈C.fns,∃ ad fd ps,Fk P w K mg base E T k f ad fd ps∧L2.Binds K fd ps []
  mks:∀ x∈C.mks,∃ c xi ad fd ps,Mf P w K mg base E T k x c xi ad fd ps∧L2.Binds K fd ps []
  shs:∀ s∈C.shs,∃ ad fd ps,Fk P w K mg base E T k s.1 ad fd ps∧ShOk K fd ps s.2.1 s.2.2.1 s.2.2.2
  mkk:∀ s∈C.mkk,∃ c xi ad fd ps,Mf P w K mg base E T k s.1 c xi ad fd ps∧ShOk K fd ps 1 s.2.1 (.arg 0 :: s.2.2.map up1)
  gls:∀ x∈C.gls,∃ u v,mg x=some u∧RelV v u∧RP E (fun _=>none) (T.gv x) v
  tys:∀ x∈C.tys,mg x=none∧(∃ n,bootBuiltins x=some (.type n)∧T.gv x= .ty n)∧x≠"__name__"
  blt:∀ x∈C.blt,mg x=none
  eqs:∀ y∈C.eqs,∃ ad fd,Meth K (E.cls y.1) "__eq__" ad∧FnOk P w K mg base CX0 k ad fd ["self","other"] (lift E (T.S y.2))∧L2.Binds K fd ["self","other"] []
  nes:∀ y∈C.nes,∃ ad fd,NeC K (E.cls y.1)∧Meth K (E.cls y.1) "__eq__" ad∧FnOk P w K mg base CX0 k ad fd ["self","other"] (lift E (T.S y.2))∧L2.Binds K fd ["self","other"] []
  lns:∀ y∈C.lns,∃ ad fd,NeC K (E.cls y.1)∧Meth K (E.cls y.1) "__len__" ad∧FnOk P w K mg base CX0 k ad fd ["self"] (lift E (T.S y.2))∧L2.Binds K fd ["self"] []
  ows:∀ y∈C.ows,∀ b,bTab.lookup y.1=some b→∀ z∈y.2,∃ ad fd k0 nm,k0 + 2≤k∧bwN b=some nm∧NeC K (E.cls z.1)∧Meth K (E.cls z.1) nm ad∧FnOk P w K mg base CX0 k0 ad fd ["self"] (lift E (T.S z.2))∧L2.Binds K fd ["self"] []
structure Kn (X:Cx) (E:Ev) (T:Tb) (k:Nat) (C:Cfg):Prop where
  pl:Pl X E T (k + 1)
  N:X.N=C.N
  nd:C.N.Nodup
  nm:X.env.scope.names=C.names
  kd:X.env.scope.kind= .function
  fn:∀ x,(C.blk=false∨x∈C.own)→X.fn x=true
  ce:∀ x,C.names.lookup x=some .cell→∃ c,X.env.cells.lookup x=some c
  ps:PassesOwn (model X.prog X.w) X.A X.env X.xe
  gf:Gf X.prog X.w X.K X.mg X.base E T k C
theorem bTab_ok:∀ y∈bTab,bootBuiltins y.1=some (bVal y.2)∧y.1≠"__name__"∧(y.1 == ("__debug__":Str))=false:=by
  intro y hy
  simp only [bTab,List.mem_cons,List.not_mem_nil,or_false] at hy
  rcases hy with rfl | rfl | rfl | rfl | rfl | rfl | rfl | rfl | rfl | rfl | rfl | rfl | rfl | rfl | rfl <;> exact ⟨by first | exact PySem.boot_len | (with_unfolding_all rfl),by decide,by decide⟩
theorem lookup_mem {α β:Type} [BEq α] [LawfulBEq α]:∀ {l:List (α×β)} {x:α} {b:β},l.lookup x=some b→(x,b)∈l
  | [],_,_,h=>by cases h
  | (y,c) :: r,x,b,h=>by
    rw [List.lookup_cons] at h
    cases e:x == y with
    | true=>rw [e] at h; cases h; rw [beq_iff_eq.mp e]; exact List.mem_cons_self ..
    | false=>rw [e] at h; exact List.mem_cons_of_mem _ (lookup_mem h)
section
variable {X:Cx} {E:Ev} {T:Tb} {k:Nat} {C:Cfg}
theorem Kn.vis (K:Kn X E T k C) {x:Str} (h:visB C x=true):Vis X.env.scope x:=by
  unfold visB at h
  unfold Vis
  rw [K.nm]
  split at h
  · rename_i e; exact .inl e
  · rename_i e; exact .inr (.inl e)
  · rename_i e; exact .inr (.inr e)
  · cases h
theorem Kn.loc (K:Kn X E T k C) {x:Str} (h:locB C x=true):L2.Loc X.env.scope x∧(X.fn x=true∨X.env.scope.names.lookup x=some .local):=by
  unfold locB at h
  unfold L2.Loc
  rw [K.nm]
  split at h
  · rename_i e; exact ⟨.inl e,.inr e⟩
  · rename_i e
    exact ⟨.inr e,.inl (K.fn x (by
      rw [Bool.or_eq_true] at h
      exact h.imp (fun z=>by simpa using z) fun z=>List.contains_iff_mem.mp z))⟩
  · cases h
theorem Kn.gl (K:Kn X E T k C) {x:Str} (h:glB C x=true):Gl X x:=by
  unfold glB at h
  unfold Gl Env.kindOf
  rw [K.nm]
  exact beq_iff_eq.mp h
theorem star_cons {e:Expr} {es:List Expr} {env:Env} (h:starB e=false):starEach (e :: es) env=(false,eval e env) :: starEach es env:=by
  cases e <;> first | rfl | (cases h)
theorem asg_cons {e:Expr} {es:List Expr} {env:Env} (h:starB e=false):assignEach (e :: es) env=(false,assign e env) :: assignEach es env:=by
  cases e <;> first | rfl | (cases h)
theorem attr_base {o:Expr} {f:Str} {env:Env} {w:Sem Value} (h:call0B o=false):attributeBase o f env w=w:=by
  unfold attributeBase
  split
  · cases h
  · rfl
theorem marks_of {op:CmpOp} {b:Expr} (h:setB b=false):behindInMarks op b=false:=by
  cases b <;> first | rfl | (cases h)
theorem folded_of {e:Expr} {env:Env} (h:setB e=false):∀ x,foldedSetIterable e env x=pure x:=by
  intro x
  cases e <;> first | rfl | (cases h)
theorem plainIx_of {e:Expr} (h:sliB e=false):PlainIx e:=by
  intro o i
  cases e <;> first | rfl | (cases h)
theorem relabel_eq (K:Kn X E T k C) (sc:Scope):(relabel sc X.env).names=blkNames C sc:=by
  unfold relabel blkNames Env.kindOf
  rw [K.nm,K.kd]
  simp
theorem cap_ok {cl:List (Str×Addr)} {sc:Scope} (K:Kn X E T k C):∀ {l:List (Str×Option Nat)},(∀ p∈l,∀ j,p.2=some j→X.N[j]? =some p.1∧X.env.kindOf p.1=some .cell∧(relabel sc X.env).names.lookup p.1=some .cell∧∃ c,cl.lookup p.1=some c∧X.env.cells.lookup p.1=some c)→CapOk X sc cl (l.map (·.1)) (l.map (·.2))
  | [],_=>trivial
  | (n,none) :: r,h=>by
    show CapOk X sc cl (r.map (·.1)) (r.map (·.2))
    exact cap_ok K fun p hp=>h p (List.mem_cons_of_mem _ hp)
  | (n,some j) :: r,h=>⟨h _ (List.mem_cons_self ..) j rfl,cap_ok K fun p hp=>h p (List.mem_cons_of_mem _ hp)⟩
theorem blkN_mem {C:Cfg}:∀ {l:List (Str×NameKind)} {p:Str×Option Nat} {j:Nat},p∈blkN C l→p.2=some j→(p.1,NameKind.free)∈l∧slot C.N p.1=some j∧C.names.lookup p.1=some .cell
  | [],_,_,h,_=>by cases h
  | (n, kk) :: r,p,j,h,e=>by
    unfold blkN at h
    split at h
    · rcases List.mem_cons.mp h with z | z
      · subst z; cases e
      · obtain ⟨a,b⟩:=blkN_mem z e; exact ⟨List.mem_cons_of_mem _ a,b⟩
    · rcases List.mem_cons.mp h with z | z
      · subst z; cases e
      · obtain ⟨a,b⟩:=blkN_mem z e; exact ⟨List.mem_cons_of_mem _ a,b⟩
    · split at h
      · rename_i j' hs
        split at h
        · rename_i hc
          rcases List.mem_cons.mp h with z | z
          · subst z; cases e; exact ⟨List.mem_cons_self ..,hs,hc⟩
          · obtain ⟨a,b⟩:=blkN_mem z e; exact ⟨List.mem_cons_of_mem _ a,b⟩
        · obtain ⟨a,b⟩:=blkN_mem h e; exact ⟨List.mem_cons_of_mem _ a,b⟩
      · obtain ⟨a,b⟩:=blkN_mem h e; exact ⟨List.mem_cons_of_mem _ a,b⟩
    · obtain ⟨a,b⟩:=blkN_mem h e; exact ⟨List.mem_cons_of_mem _ a,b⟩
theorem clos_in {cells:List (Str×Addr)}:∀ {l:List (Str×NameKind)} {acc:List (Str×Addr)} {n:Str} {c:Addr},(n,c)∈clos cells l acc→(n,c)∈acc∨(n,NameKind.free)∈l
  | [],_,_,_,h=>.inl h
  | (m, k) :: r,acc,n,c,h=>by
    unfold clos at h
    rcases clos_in h with z | z
    · split at z
      · rename_i hk
        rcases List.mem_cons.mp z with e | z
        · cases e; subst hk; exact .inr (List.mem_cons_self ..)
        · exact .inl z
      · exact .inl z
    · exact .inr (List.mem_cons_of_mem _ z)
theorem Kn.block (K:Kn X E T k C) {sc:Scope} (h:blkOk C sc=true):∃ cl,BlockOk X ((blkN C sc.names).map (·.1)) sc cl ((blkN C sc.names).map (·.2))∧∀ C0 s₀ H₀ ex,Kn (cxC X ((blkN C sc.names).map (·.1)) sc cl C0 s₀ H₀ ex) E T k (blkC C sc):=by
  unfold blkOk at h
  simp only [Bool.and_eq_true,List.all_eq_true,decide_eq_true_eq] at h
  obtain ⟨⟨⟨hk,hn⟩,hd⟩,hc⟩:=h
  have hk:sc.kind= .function:=beq_iff_eq.mp hk
  have fr:∀ y∈sc.names,y.2= .free→C.names.lookup y.1=some .cell:=fun y hy e=>by
    have:=(hn y hy).2
    rw [e] at this
    simpa using this
  have ncell:∀ x,(x,NameKind.cell)∈sc.names→(x,NameKind.free)∉ sc.names:=fun x hx hf=>by
    have:=(hn _ hx).1.1
    simp [hf] at this
  have hf:∀ y∈sc.names,y.2= .free→∃ c,X.env.cells.lookup y.1=some c:=fun y hy e=>K.ce y.1 (fr y hy e)
  have hcl:ClOk X.env.cells (clos X.env.cells sc.names []):=clos_cl hf trivial
  have look:∀ n,(n,NameKind.free)∈sc.names→∃ c,(clos X.env.cells sc.names []).lookup n=some c∧X.env.cells.lookup n=some c:=fun n hn=>cl_look hcl (clos_mem (.inr hn))
  refine ⟨clos X.env.cells sc.names [],⟨clos_ok hf,(fun x hx=>by
    cases e:(clos X.env.cells sc.names []).lookup x with
    | none=>rfl
    | some c =>
      rcases clos_in (lookup_mem e) with z | z
      · cases z
      · exact absurd z (ncell x hx)),hk,fun y hy e=>?_,free_ok hcl fun n hn=>clos_mem (.inr hn),hcl,cap_ok K fun p hp j e=>?_⟩,fun C0 s₀ H₀ ex=>⟨⟨K.pl.hK,K.pl.calm,K.pl.room,K.pl.cls,K.pl.fld⟩,rfl,hd,relabel_eq K sc,hk,(fun x z=>by
    rcases z with z | z
    · cases z
    · obtain ⟨y,hy,e⟩:=List.mem_map.mp z
      obtain ⟨h1,h2⟩:=List.mem_filter.mp hy
      subst e
      refine List.contains_iff_mem.mpr ?_
      rw [show (y.1,NameKind.cell)=y from by rw [←beq_iff_eq.mp h2]]
      exact h1),fun x hx=>?_,PassesOwn.never,⟨K.gf.fns,K.gf.mks,K.gf.shs,K.gf.mkk,K.gf.gls,K.gf.tys,K.gf.blt,K.gf.eqs,K.gf.nes,K.gf.lns,K.gf.ows⟩⟩⟩
  · have:=(hn y hy).1.2
    rw [e] at this
    simpa using this
  · obtain ⟨hm,hs,hcell⟩:=blkN_mem hp e
    refine ⟨by rw [K.N]; exact slot_ok hs,by unfold Env.kindOf; rw [K.nm]; exact hcell, ?_,look _ hm⟩
    rw [relabel_eq K sc]
    have:=hc p hp
    rw [e] at this
    simpa using this
  · have hx:(blkNames C sc).lookup x=some .cell:=hx
    have hm:=lookup_mem hx
    unfold blkNames at hm
    obtain ⟨⟨n,kk⟩,hy,e⟩:=List.mem_map.mp hm
    have e':(if (kk == NameKind.free && C.names.lookup n == some NameKind.cell)=true then (n,NameKind.cell) else (n,kk))=(x,NameKind.cell):=e
    split at e'
    · rename_i hcond
      cases e'
      have:kk= .free:=by
        rw [Bool.and_eq_true] at hcond
        exact beq_iff_eq.mp hcond.1
      subst this
      obtain ⟨c,h1,_⟩:=look x hy
      exact ⟨c,cells_cap (fun z=>ncell x z hy) h1⟩
    · cases e'
      obtain ⟨c,h1,_⟩:=cells_own (n:=C0 + 1) (cl:=clos X.env.cells sc.names []) hy
      exact ⟨c,h1⟩
theorem kw_facts {pos:Pos} {env:Env}:∀ {kws:List Keyword} {ks:List Str},kwN kws=some ks→(backToKw pos (keywordEach kws env)).all (·.1.isSome)=true∧(backToKw pos (keywordEach kws env)).filterMap (·.1)=ks∧(backToKw pos (keywordEach kws env)).any (·.1.isNone)=false∧kws.length=ks.length
  | [],ks,h=>by cases h; exact ⟨rfl,rfl,rfl,rfl⟩
  | ⟨some n,v,p⟩ :: r,ks,h=>by
    unfold kwN at h
    cases e:kwN r with
    | none=>rw [e] at h; cases h
    | some l =>
      rw [e] at h
      cases h
      obtain ⟨a,b,c,d⟩:=kw_facts (pos:=pos) (env:=env) e
      refine ⟨?_, ?_, ?_,by rw [List.length_cons,List.length_cons,d]⟩
      · show (true && (backToKw pos (keywordEach r env)).all (·.1.isSome))=true
        rw [a]; rfl
      · show n :: (backToKw pos (keywordEach r env)).filterMap (·.1)=n :: l
        rw [b]
      · show (false || (backToKw pos (keywordEach r env)).any (·.1.isNone))=false
        rw [c]; rfl
  | ⟨none,v,p⟩ :: r,ks,h=>by cases h
end
end L3
namespace L3
open PySem PySem.Spec
open PyProof.Rows hiding St
open L2
structure Snd (E:Ev) (T:Tb) (k:Nat) (n:Nat):Prop where
  e:∀ X C m e c,Kn X E T k C→cE n C m e=some c→JE X E e (wpE T c)
  xe:∀ X C m e c,Kn X E T k C→xE n C m e=some c→JE X E e (wpE T c)
  xt:∀ X C e c,Kn X E T k C→xT n C e=some c→JT X E e (wpT T c)
  l:∀ X C es c,Kn X E T k C→cL n C es=some c→JA X E es (wpL T c)∧∀ e∈es,starB e=false
  j:∀ X C es c,Kn X E T k C→cJ n C es=some c→JJ X E es (wpJ T c)
  kk:∀ X C ks c,Kn X E T k C→cK n C ks=some c→JK X E ks (wpL T c)
  d:∀ X C ks vs c pos,Kn X E T k C→cD n C ks vs=some c→JD X E pos ks vs (wpL T c)
  b:∀ X C op vs c pos,Kn X E T k C→cB n C op vs=some c→JE X E (.BoolOp op vs pos) (wpE T c)
  t:∀ X C e c,Kn X E T k C→cT n C e=some c→JT X E e (wpT T c)
  w:∀ X C op vs c pos,Kn X E T k C→cW n C op vs=some c→JW X E (.BoolOp op vs pos) (wpT T c)
  o:∀ X C o c,Kn X E T k C→cO n C o=some c→JO X E o (wpO T c)
  ts:∀ X C l c,Kn X E T k C→cTs n C l=some c→PTs' X E l (wpT T c)
  g:∀ X C e c,Kn X E T k C→cG n C e=some c→JG X E e (wpG T c)
  gs:∀ X C es c,Kn X E T k C→cGs n C es=some c→JGs X E es (wpGs T c)∧∀ e∈es,starB e=false
  i:∀ X C tg e c,Kn X E T k C→cI n C tg e=some c→JI X E tg e (wpI T c)
section
variable {E:Ev} {T:Tb} {k n:Nat}
theorem bnd {α β:Type} {o:Option α} {f:α→Option β} {b:β} (h:o.bind f=some b):∃ a,o=some a∧f a=some b:=Option.bind_eq_some_iff.mp h
theorem nostar_any {pos:Pos} {env:Env}:∀ {es:List Expr},(∀ e∈es,starB e=false)→(backTo pos (starEach es env)).any (·.1)=false
  | [],_=>rfl
  | e :: r,h=>by
    rw [star_cons (h e (List.mem_cons_self ..))]
    show (false || (backTo pos (starEach r env)).any (·.1))=false
    rw [nostar_any fun x hx=>h x (List.mem_cons_of_mem _ hx)]; rfl
theorem asg_len {env:Env}:∀ {es:List Expr},(∀ e∈es,starB e=false)→(assignEach es env).length=es.length∧(assignEach es env).findIdx? (·.1)=none
  | [],_=>⟨rfl,rfl⟩
  | e :: r,h=>by
    obtain ⟨a,b⟩:=asg_len (env:=env) (es:=r) fun x hx=>h x (List.mem_cons_of_mem _ hx)
    rw [asg_cons (h e (List.mem_cons_self ..))]
    refine ⟨by rw [List.length_cons,List.length_cons,a], ?_⟩
    rw [List.findIdx?_cons]
    simp only [b]
    rfl
theorem lastM {op op':CmpOp} {b c:Expr} (h:setB c=false):lastMarks [op,op'] [b,c]=false:=by
  show lastMarks [op'] [c]=false
  exact marks_of h
theorem find_ok {α:Type} {l:List α} {p:α→Bool} {s:α} (h:l.find? p=some s):s∈l∧p s=true:=⟨List.mem_of_find?_eq_some h,List.find?_some h⟩
theorem plain_ok {x:Str} (h:plainB x=true):(x == ("__debug__":Str))=false∧(x == ("__classdict__":Str))=false:=by
  unfold plainB at h
  rw [Bool.and_eq_true,Bool.not_eq_true',Bool.not_eq_true'] at h
  exact h
theorem or2 {a b:Bool} (h:¬(a || b)=true):a=false∧b=false:=by cases a <;> cases b <;> simp at h ⊢
theorem snd0:Snd E T k 0:=by
  constructor <;> (intros; rename_i h; first | (unfold cJ at h; cases h) | (unfold cE at h; cases h) | (unfold cL at h; cases h) | (unfold cK at h; cases h) | (unfold cD at h; cases h) | (unfold cB at h; cases h) | (unfold cT at h; cases h) | (unfold cW at h; cases h) | (unfold cO at h; cases h) | (unfold cTs at h; cases h) | (unfold cG at h; cases h) | (unfold cGs at h; cases h) | (unfold cI at h; cases h))
theorem snd_l (S:Snd E T k n):∀ X C es c,Kn X E T k C→cL (n + 1) C es=some c→JA X E es (wpL T c)∧∀ e∈es,starB e=false:=by
  intro X C es c K h
  cases es with
  | nil=>unfold cL at h; cases h; exact ⟨ja_nil,fun e he=>nomatch he⟩
  | cons e r =>
    unfold cL at h
    dsimp only at h
    split at h
    · cases h
    · rename_i hs
      obtain ⟨e',h1,h⟩:=bnd h
      obtain ⟨r',h2,h⟩:=bnd h
      cases h
      have hs:starB e=false:=by simpa using hs
      obtain ⟨a,b⟩:=S.l X C r r' K h2
      refine ⟨ja_cons (S.e X C false e e' K h1) a (star_cons hs),fun x hx=>?_⟩
      rcases List.mem_cons.mp hx with z | z
      · rw [z]; exact hs
      · exact b x z
theorem snd_j (S:Snd E T k n):∀ X C es c,Kn X E T k C→cJ (n + 1) C es=some c→JJ X E es (wpJ T c):=by
  intro X C es c K h
  cases es with
  | nil=>unfold cJ at h; cases h; exact jj_nil
  | cons e r =>
    unfold cJ at h
    dsimp only at h
    split at h
    · obtain ⟨e',h1,h⟩:=bnd h
      obtain ⟨r',h2,h⟩:=bnd h
      cases h
      exact jj_fv (S.e X C false _ e' K h1) (S.j X C r r' K h2) rfl
    · obtain ⟨r',h2,h⟩:=bnd h
      cases h
      exact jj_con je_str (S.j X C r r' K h2) rfl
    · cases h
theorem snd_k (S:Snd E T k n):∀ X C ks c,Kn X E T k C→cK (n + 1) C ks=some c→JK X E ks (wpL T c):=by
  intro X C ks c K h
  cases ks with
  | nil=>unfold cK at h; cases h; exact jk_nil
  | cons e r =>
    obtain ⟨nm,v,p⟩:=e
    unfold cK at h
    dsimp only at h
    obtain ⟨e',h1,h⟩:=bnd h
    obtain ⟨r',h2,h⟩:=bnd h
    cases h
    exact jk_cons (S.e X C false v e' K h1) (S.kk X C r r' K h2)
theorem snd_d (S:Snd E T k n):∀ X C ks vs c pos,Kn X E T k C→cD (n + 1) C ks vs=some c→JD X E pos ks vs (wpL T c):=by
  intro X C ks vs c pos K h
  unfold cD at h
  split at h
  · cases h; exact jd_nil
  · obtain ⟨k',h1,h⟩:=bnd h
    obtain ⟨v',h2,h⟩:=bnd h
    obtain ⟨r',h3,h⟩:=bnd h
    cases h
    exact jd_cons (S.e X C false _ k' K h1) (S.e X C false _ v' K h2) (S.d X C _ _ r' pos K h3)
  · cases h
theorem snd_b (S:Snd E T k n):∀ X C op vs c pos,Kn X E T k C→cB (n + 1) C op vs=some c→JE X E (.BoolOp op vs pos) (wpE T c):=by
  intro X C op vs c pos K h
  unfold cB at h
  split at h
  · cases h
  · exact je_one (S.e X C false _ c K h)
  · obtain ⟨a',h1,h⟩:=bnd h
    obtain ⟨b',h2,h⟩:=bnd h
    cases op with
    | And=>cases h; exact je_an K.pl (S.e X C false _ a' K h1) (S.b X C .And _ b' pos K h2)
    | Or=>cases h; exact je_oo K.pl (S.e X C false _ a' K h1) (S.b X C .Or _ b' pos K h2)
theorem snd_w (S:Snd E T k n):∀ X C op vs c pos,Kn X E T k C→cW (n + 1) C op vs=some c→JW X E (.BoolOp op vs pos) (wpT T c):=by
  intro X C op vs c pos K h
  unfold cW at h
  split at h
  · cases h
  · cases op with
    | And=>exact jw_an1 (S.t X C _ c K h)
    | Or=>exact jw_oo1 (S.t X C _ c K h)
  · obtain ⟨a',h1,h⟩:=bnd h
    obtain ⟨b',h2,h⟩:=bnd h
    cases op with
    | And=>cases h; exact jw_an (S.t X C _ a' K h1) (S.w X C .And _ b' pos K h2)
    | Or=>cases h; exact jw_oo (S.t X C _ a' K h1) (S.w X C .Or _ b' pos K h2)
theorem snd_o (S:Snd E T k n):∀ X C o c,Kn X E T k C→cO (n + 1) C o=some c→JO X E o (wpO T c):=by
  intro X C o c K h
  unfold cO at h
  split at h
  · cases h; exact jo_nil
  · obtain ⟨e',h1,h⟩:=bnd h
    cases h
    exact jo_some (S.e X C false _ e' K h1)
theorem snd_ts (S:Snd E T k n):∀ X C l c,Kn X E T k C→cTs (n + 1) C l=some c→PTs' X E l (wpT T c):=by
  intro X C l c K h
  unfold cTs at h
  split at h
  · cases h; exact pts0
  · exact pts1 (S.t X C _ c K h)
  · cases h
theorem snd_g (S:Snd E T k n):∀ X C e c,Kn X E T k C→cG (n + 1) C e=some c→JG X E e (wpG T c):=by
  intro X C e c K h
  unfold cG at h
  split at h
  · split at h
    · rename_i hl
      obtain ⟨i,h1,h⟩:=bnd h
      cases h
      obtain ⟨a,b⟩:=K.loc hl
      exact jg_name (by rw [K.N]; exact K.nd) (by rw [K.N]; exact slot_ok h1) a b
    · cases h
  · obtain ⟨g,h1,h⟩:=bnd h
    cases h
    obtain ⟨a,b⟩:=S.gs X C _ g K h1
    obtain ⟨l1,l2⟩:=asg_len (env:=X.env) b
    exact jg_tup K.pl a l1 l2
  · cases h
theorem snd_gs (S:Snd E T k n):∀ X C es c,Kn X E T k C→cGs (n + 1) C es=some c→JGs X E es (wpGs T c)∧∀ e∈es,starB e=false:=by
  intro X C es c K h
  cases es with
  | nil=>unfold cGs at h; cases h; exact ⟨jgs_nil,fun e he=>nomatch he⟩
  | cons e r =>
    unfold cGs at h
    dsimp only at h
    split at h
    · cases h
    · rename_i hs
      obtain ⟨e',h1,h⟩:=bnd h
      obtain ⟨r',h2,h⟩:=bnd h
      cases h
      have hs:starB e=false:=by simpa using hs
      obtain ⟨a,b⟩:=S.gs X C r r' K h2
      refine ⟨jgs_cons (S.g X C e e' K h1) a (by rw [asg_cons hs]; rfl),fun x hx=>?_⟩
      rcases List.mem_cons.mp hx with z | z
      · rw [z]; exact hs
      · exact b x z
theorem snd_t (S:Snd E T k n):∀ X C e c,Kn X E T k C→cT (n + 1) C e=some c→JT X E e (wpT T c):=by
  intro X C e c K h
  unfold cT at h
  split at h
  · rename_i c2 hx
    cases h
    exact S.xt X C e _ K hx
  split at h
  · exact (S.w X C _ _ c _ K h).jt
  · obtain ⟨a',h1,h⟩:=bnd h
    cases h
    exact jt_no (S.t X C _ a' K h1)
  · split at h
    · split at h
      · cases h
      · rename_i hs
        obtain ⟨a',h1,h⟩:=bnd h
        obtain ⟨b',h2,h⟩:=bnd h
        cases h
        exact jt_cmp K.pl (marks_of (by simpa using hs)) (S.e X C false _ a' K h1) (S.e X C false _ b' K h2)
    · split at h
      · cases h
      · rename_i hs
        obtain ⟨a',h1,h⟩:=bnd h
        obtain ⟨b',h2,h⟩:=bnd h
        obtain ⟨c',h3,h⟩:=bnd h
        cases h
        exact jt_chn K.pl (lastM (by simpa using hs)) (S.e X C false _ a' K h1) (S.e X C false _ b' K h2) (S.e X C false _ c' K h3)
    · cases h
  · obtain ⟨e',h1,h⟩:=bnd h
    cases h
    exact jt_tst K.pl (S.e X C false _ e' K h1) fun _=>rfl
  · obtain ⟨e',h1,h⟩:=bnd h
    cases h
    exact jt_tst K.pl (S.e X C false _ e' K h1) fun _=>rfl
  · obtain ⟨e',h1,h⟩:=bnd h
    cases h
    exact jt_tst K.pl (S.e X C false _ e' K h1) fun _=>rfl
  · obtain ⟨e',h1,h⟩:=bnd h
    cases h
    exact jt_tst K.pl (S.e X C false _ e' K h1) fun _=>rfl
  · cases h
theorem snd_i (S : Snd E T k n):∀ X C tg e c,Kn X E T k C→cI (n + 1) C tg e=some c→JI X E tg e (wpI T c):=by
  intro X C tg e c K h
  unfold cI at h
  split at h
  · split at h
    · cases h
    · split at h
      · split at h
        · cases h
        · rename_i hs
          split at h
          · rename_i hx
            split at h
            · rename_i hb
              rw [Bool.and_eq_true] at hb
              obtain ⟨a',h1,h⟩:=bnd h
              cases h
              subst hx
              exact ji_rng1 (K.gl hb.1) (K.gf.blt _ (by simpa using hb.2)) (S.e X C false _ a' K h1) (star_cons (by simpa using hs))
            · cases h
          · split at h
            · rename_i hx
              split at h
              · split at h
                · rename_i hb
                  rw [Bool.and_eq_true] at hb
                  obtain ⟨a',h1,h⟩:=bnd h
                  cases h
                  subst hx
                  exact ji_enu K.pl (K.gl hb.1) (K.gf.blt _ (by simpa using hb.2)) (S.e X C false _ a' K h1) (star_cons (by simpa using hs))
                · cases h
              · cases h
            · obtain ⟨e',h1,h⟩:=bnd h
              cases h
              exact ji_seq K.pl (S.e X C false _ e' K h1)
      · split at h
        · cases h
        · rename_i hs
          have hs':=or2 hs
          split at h
          · rename_i hx
            split at h
            · rename_i hb
              rw [Bool.and_eq_true] at hb
              obtain ⟨a',h1,h⟩:=bnd h
              obtain ⟨b',h2,h⟩:=bnd h
              cases h
              subst hx
              exact ji_rng2 (K.gl hb.1) (K.gf.blt _ (by simpa using hb.2)) (S.e X C false _ a' K h1) (S.e X C false _ b' K h2) (by rw [star_cons hs'.1,star_cons hs'.2]; rfl) (star_cons hs'.2)
            · cases h
          · obtain ⟨e',h1,h⟩:=bnd h
            cases h
            exact ji_seq K.pl (S.e X C false _ e' K h1)
      · obtain ⟨e',h1,h⟩:=bnd h
        cases h
        exact ji_seq K.pl (S.e X C false _ e' K h1)
  · split at h
    · cases h
    · obtain ⟨e',h1,h⟩:=bnd h
      cases h
      exact ji_seq K.pl (S.e X C false _ e' K h1)
theorem snd_call (S:Snd E T k n) {X:Cx} {C:Cfg} {x:Str} {p pos:Pos} {e:Expr} {r:List Expr} {es':CE} (K:Kn X E T k C) (hg:glB C x=true) (hc:C.fns.contains x=true∨C.mks.contains x=true) (h:cL n C (e :: r)=some es'):JE X E (.Call (.Name x p) (e :: r) [] pos) (wpE T (.cal x es')):=by
  obtain ⟨a,b⟩:=S.l X C _ es' K h
  have s1:=star_cons (env:=X.env) (es:=r) (b e (List.mem_cons_self ..))
  have s2:=nostar_any (pos:=pos) (env:=X.env) fun y hy=>b y (List.mem_cons_of_mem _ hy)
  rcases hc with hc | hc
  · obtain ⟨ad,fd,ps,F,hb⟩:=K.gf.fns x (by simpa using hc)
    exact je_cal F.ok (K.pl.room.mono (Nat.le_succ _)) (K.gl hg) F.mg F.kp hb F.db a s1 s2
  · obtain ⟨c,xi,ad,fd,ps,F,hb⟩:=K.gf.mks x (by simpa using hc)
    exact je_mak F.mkr F.ok K.pl.room (K.gl hg) F.mg hb F.ms F.db a s1 s2
theorem snd_kw (S:Snd E T k n) {X:Cx} {C:Cfg} {x:Str} {p pos:Pos} {e:Expr} {r:List Expr} {kws:List Keyword} {ks:List Str} {s:Str×Nat×List Str×List Ar} {es' ks':CE} (K:Kn X E T k C) (hg:glB C x=true) (hk:kwN kws=some ks)
    (hf:C.shs.find? (fun s=>s.1 == x && s.2.1 == (e :: r).length && s.2.2.1 == ks)=some s) (h:cL n C (e :: r)=some es') (h2:JK X E kws (wpL T ks')):JE X E (.Call (.Name x p) (e :: r) kws pos) (wpE T (.cak x es' ks' s.2.2.2)):=by
  obtain ⟨a,b⟩:=S.l X C _ es' K h
  have s1:=star_cons (env:=X.env) (es:=r) (b e (List.mem_cons_self ..))
  have s2:=nostar_any (pos:=pos) (env:=X.env) (es:=e :: r) b
  obtain ⟨hm,hp⟩:=find_ok hf
  simp only [Bool.and_eq_true,beq_iff_eq] at hp
  obtain ⟨⟨e1,e2⟩,e3⟩:=hp
  obtain ⟨ad,fd,ps,F,hb⟩:=K.gf.shs s hm
  rw [e1] at F
  obtain ⟨k1,k2,k3,k4⟩:=kw_facts (pos:=pos) (env:=X.env) hk
  exact je_cak F.ok (K.pl.room.mono (Nat.le_succ _)) (K.gl hg) F.mg F.kp hb F.db a h2 e2.symm (by rw [e3]; exact k4) k1 (by rw [e3]; exact k2) s1 (by rw [s2,k3]; rfl)
theorem ne_ms {X:Cx} {C:Cfg} (K:Kn X E T k C):∀ y∈C.nes,NeM X E T k y.1 y.2:=fun y hy=>⟨K.gf.nes y hy⟩
theorem snd_xe (S:Snd E T k n):∀ X C m e c,Kn X E T k C→xE (n + 1) C m e=some c→JE X E e (wpE T c):=by
  intro X C m e c K h
  unfold xE at h
  split at h
  · split at h
    · cases h
    · rename_i hs
      obtain ⟨a',h1,h⟩:=bnd h
      obtain ⟨b',h2,h⟩:=bnd h
      cases h
      simp only [Bool.or_eq_true,not_or,Bool.not_eq_true] at hs
      exact je_cne K.pl (ne_ms K) (marks_of hs.1) (S.e X C false _ a' K h1) (S.e X C false _ b' K h2)
  · cases h
theorem snd_xt (S:Snd E T k n):∀ X C e c,Kn X E T k C→xT (n + 1) C e=some c→JT X E e (wpT T c):=by
  intro X C e c K h
  unfold xT at h
  split at h
  · split at h
    · cases h
    · rename_i hs
      obtain ⟨a',h1,h⟩:=bnd h
      obtain ⟨b',h2,h⟩:=bnd h
      cases h
      simp only [Bool.or_eq_true,not_or,Bool.not_eq_true] at hs
      exact jt_cne K.pl (ne_ms K) (marks_of hs.1) (S.e X C false _ a' K h1) (S.e X C false _ b' K h2)
  · cases h
theorem snd_e (S:Snd E T k n):∀ X C m e c,Kn X E T k C→cE (n + 1) C m e=some c→JE X E e (wpE T c):=by
  intro X C m e c K h
  unfold cE at h
  split at h
  · rename_i c2 hx
    cases h
    exact S.xe X C m e _ K hx
  split at h
  · -- a name
    split at h
    · rename_i hp
      obtain ⟨d1,d2⟩:=plain_ok hp
      split at h
      · rename_i i hs
        split at h
        · rename_i hv
          cases h
          exact je_var (by rw [K.N]; exact slot_ok hs) (K.vis hv) d1 d2
        · cases h
      · split at h
        · rename_i hg
          rw [Bool.and_eq_true,Bool.or_eq_true] at hg
          cases h
          rcases hg.2 with hh | hh
          · obtain ⟨u,v,h1,h2,h3⟩:=K.gf.gls _ (by simpa using hh)
            exact je_glo (K.gl hg.1) h1 h2 h3 d1
          · obtain ⟨h1,⟨nn,h2,h3⟩,h4⟩:=K.gf.tys _ (by simpa using hh)
            exact je_ty (K.gl hg.1) h1 h2 h3 h4 d1
        · cases h
    · cases h
  · split at h
    · cases h; exact je_int
    · cases h; exact je_bl
    · cases h; exact je_non
    · cases h; exact je_str
    · cases h
  · obtain ⟨a',h1,h⟩:=bnd h
    obtain ⟨b',h2,h⟩:=bnd h
    cases h
    exact je_bin K.pl (S.e X C false _ a' K h1) (S.e X C false _ b' K h2)
  · split at h
    · obtain ⟨a',h1,h⟩:=bnd h
      cases h
      exact je_neg (S.e X C false _ a' K h1)
    · obtain ⟨a',h1,h⟩:=bnd h
      cases h
      exact je_no K.pl (S.e X C false _ a' K h1)
    · cases h
  · exact S.b X C _ _ c _ K h
  · split at h
    · split at h
      · cases h
      · rename_i hs
        obtain ⟨a',h1,h⟩:=bnd h
        obtain ⟨b',h2,h⟩:=bnd h
        cases h
        exact je_cmp K.pl (marks_of (by simpa using hs)) (S.e X C false _ a' K h1) (S.e X C false _ b' K h2)
    · split at h
      · cases h
      · rename_i hs
        obtain ⟨a',h1,h⟩:=bnd h
        obtain ⟨b',h2,h⟩:=bnd h
        obtain ⟨c',h3,h⟩:=bnd h
        cases h
        exact je_chn K.pl (lastM (by simpa using hs)) (S.e X C false _ a' K h1) (S.e X C false _ b' K h2) (S.e X C false _ c' K h3)
    · cases h
  · obtain ⟨es',h1,h⟩:=bnd h
    cases h
    exact je_tup (S.l X C _ es' K h1).1
  · obtain ⟨es',h1,h⟩:=bnd h
    cases h
    exact je_lst (S.l X C _ es' K h1).1
  · split at h
    · obtain ⟨a',h1,h⟩:=bnd h
      obtain ⟨l',h2,h⟩:=bnd h
      obtain ⟨u',h3,h⟩:=bnd h
      cases h
      exact je_sli K.pl (S.e X C false _ a' K h1) (S.o X C _ l' K h2) (S.o X C _ u' K h3)
    · obtain ⟨a',h1,h⟩:=bnd h
      cases h
      exact je_rev K.pl (S.e X C false _ a' K h1)
    · split at h
      · cases h
      · rename_i hs
        obtain ⟨a',h1,h⟩:=bnd h
        obtain ⟨i',h2,h⟩:=bnd h
        cases h
        exact je_idx K.pl (S.e X C false _ a' K h1) (S.e X C false _ i' K h2) (plainIx_of (by simpa using hs))
  · split at h
    · cases h
    · rename_i hs
      obtain ⟨a',h1,h⟩:=bnd h
      cases h
      exact je_att K.pl (S.e X C false _ a' K h1) (attr_base (by simpa using hs))
  · split at h
    · split at h
      · rename_i hg
        split at h
        · rename_i b hb
          split at h
          · rename_i hc
            obtain ⟨es',h1,h⟩:=bnd h
            cases h
            obtain ⟨a,st⟩:=S.l X C _ es' K h1
            obtain ⟨b1,b2,b3⟩:=bTab_ok _ (lookup_mem hb)
            split
            · rename_i ls hl
              exact je_bow K.pl (fun y hy=>⟨K.gf.ows _ (lookup_mem hl) b hb y hy⟩) (K.gl hg) (K.gf.blt _ (by simpa using hc)) b1 b2 b3 a (star_cons (st _ (List.mem_cons_self ..))) (nostar_any fun y hy=>st y (List.mem_cons_of_mem _ hy))
            exact je_blt K.pl (K.gl hg) (K.gf.blt _ (by simpa using hc)) b1 b2 b3 a (star_cons (st _ (List.mem_cons_self ..))) (nostar_any fun y hy=>st y (List.mem_cons_of_mem _ hy))
          · cases h
        · split at h
          · rename_i s hf
            obtain ⟨es',h1,h⟩:=bnd h
            cases h
            exact snd_kw S K hg (ks:=[]) rfl hf h1 jk_nil
          · split at h
            · rename_i hc
              obtain ⟨es',h1,h⟩:=bnd h
              cases h
              rw [Bool.or_eq_true] at hc
              exact snd_call S K hg hc h1
            · cases h
      · cases h
    · split at h
      · rename_i hg
        obtain ⟨ks,hk,h⟩:=bnd h
        split at h
        · rename_i s hf
          obtain ⟨es',h1,h⟩:=bnd h
          obtain ⟨ks',h2,h⟩:=bnd h
          cases h
          exact snd_kw S K hg hk hf h1 (S.kk X C _ ks' K h2)
        · cases h
      · cases h
    · split at h
      · rename_i hg
        obtain ⟨ks,hk,h⟩:=bnd h
        obtain ⟨k1,k2,k3,k4⟩:=kw_facts (pos:=_) (env:=X.env) hk
        split at h
        · rename_i s hf
          obtain ⟨ks',h2,h⟩:=bnd h
          cases h
          obtain ⟨hm,hp⟩:=find_ok hf
          simp only [Bool.and_eq_true,beq_iff_eq] at hp
          obtain ⟨⟨e1,e2⟩,e3⟩:=hp
          obtain ⟨ad,fd,ps,F,hb⟩:=K.gf.shs s hm
          rw [e1] at F
          rw [e2] at hb
          exact je_cak0 F.ok (K.pl.room.mono (Nat.le_succ _)) (K.gl hg) F.mg F.kp hb F.db (S.kk X C _ ks' K h2) (by rw [e3]; exact k4) k1 (by rw [e3]; exact k2) (by rw [k3]; rfl)
        · split at h
          · rename_i s hf
            obtain ⟨ks',h2,h⟩:=bnd h
            cases h
            obtain ⟨hm,hp⟩:=find_ok hf
            simp only [Bool.and_eq_true,beq_iff_eq] at hp
            obtain ⟨e1,e3⟩:=hp
            obtain ⟨c,xi,ad,fd,ps,F,hb⟩:=K.gf.mkk s hm
            rw [e1] at F
            exact je_mak0 F.mkr F.ok K.pl.room (K.gl hg) F.mg hb F.ms F.db (S.kk X C _ ks' K h2) (by rw [e3]; exact k4) k1 (by rw [e3]; exact k2) (by rw [k3]; rfl)
          · cases h
      · cases h
    · split at h
      · rename_i hc
        simp only [Bool.and_eq_true,decide_eq_true_eq,Bool.not_eq_true'] at hc
        obtain ⟨⟨⟨e1,e2⟩,e3⟩,e4⟩:=hc
        obtain ⟨o',h1,h⟩:=bnd h
        obtain ⟨e',h2,h⟩:=bnd h
        cases h
        subst e1
        exact je_joi (S.e X C false _ o' K h1) (S.e X C false _ e' K h2) (attr_base e2) (star_cons e3) e4
      · split at h
        · rename_i hc
          simp only [Bool.and_eq_true,decide_eq_true_eq,Bool.not_eq_true'] at hc
          obtain ⟨⟨⟨e1,e2⟩,e3⟩,e4⟩:=hc
          obtain ⟨o',h1,h⟩:=bnd h
          obtain ⟨e',h2,h⟩:=bnd h
          cases h
          subst e1
          exact je_app (S.e X C false _ o' K h1) (S.e X C false _ e' K h2) (attr_base e2) (star_cons e3) e4
        · cases h
    · cases h
  · split at h
    · split at h
      · rename_i hb
        rw [Bool.and_eq_true] at hb
        obtain ⟨it',h1,h⟩:=bnd h
        obtain ⟨tg',h2,h⟩:=bnd h
        obtain ⟨ts',h3,h⟩:=bnd h
        obtain ⟨el',h4,h⟩:=bnd h
        cases h
        obtain ⟨cl,B,KB⟩:=K.block hb.1
        exact je_cmpr B K.pl (S.i X C _ _ it' K h1) (fun C0 s₀ H₀ ex=>S.g _ _ _ tg' (KB C0 s₀ H₀ ex) h2) (fun C0 s₀ H₀ ex=>S.ts _ _ _ ts' (KB C0 s₀ H₀ ex) h3) (fun C0 s₀ H₀ ex=>S.e _ _ false _ el' (KB C0 s₀ H₀ ex) h4) (folded_of (by simpa using hb.2))
      · cases h
    · cases h
  · obtain ⟨es',h1,h⟩:=bnd h
    cases h
    exact je_fst (S.j X C _ es' K h1)
  · cases h
theorem snd:∀ n,Snd E T k n
  | 0=>snd0
  | n + 1=>⟨snd_e (snd n),snd_xe (snd n),snd_xt (snd n),snd_l (snd n),snd_j (snd n),snd_k (snd n),snd_d (snd n),snd_b (snd n),snd_t (snd n),snd_w (snd n),snd_o (snd n),snd_ts (snd n),snd_g (snd n),snd_gs (snd n),snd_i (snd n)⟩
end
end L3
namespace L3
open PySem PySem.Spec
open PyProof.Rows hiding St
open L2
section
variable {X:Cx} {E:Ev} {T:Tb} {k:Nat} {C:Cfg}
theorem fn_kind (K:Kn X E T k C):X.env.blockKind= .function:=by
  unfold Env.blockKind
  rw [K.kd]; rfl
noncomputable def tupB:Expr→Bool
  | .Tuple .. =>true
  | _=>false
noncomputable def parB:Expr→Bool
  | .Tuple vs _ _=> !(vs.all (foldedForSure 8))
  | _=>false
theorem sw_not {ts:List Expr} {kt:Nat} {pt:Pos} {value:Expr} {env:Env} (h:tupB value=false):swappedStores [.Tuple ts kt pt] value env=pure none:=by
  cases value <;> first | rfl | (cases h)
theorem sw_fold {ts vs:List Expr} {kt kv:Nat} {pt pv:Pos} {env:Env} (h:vs.all (foldedForSure 8)=true):swappedStores [.Tuple ts kt pt] (.Tuple vs kv pv) env=pure none:=by
  unfold swappedStores
  dsimp only
  split
  · rfl
  · split
    · rfl
    · split
      · rfl
      · first | rfl | rw [if_pos h]
theorem sw_any {ts:List Expr} {kt:Nat} {pt:Pos} {v:Expr} {env:Env} (h:¬parB v=true):swappedStores [.Tuple ts kt pt] v env=pure none:=by
  cases v with
  | Tuple vs kv pv =>
    refine sw_fold ?_
    cases e:vs.all (foldedForSure 8) with
    | true=>rfl
    | false=>exact absurd (show (!(vs.all (foldedForSure 8)))=true by rw [e]; rfl) h
  | _=>exact sw_not rfl
theorem sw_par (K:Kn X E T k C) {x y:Str} {px py pt pt2:Pos} {kt k2:Nat} {a b:Expr} (hx:C.names.lookup x=some .local) (hy:C.names.lookup y=some .local) (hl:py.line=px.line) (hne:x≠y) (sa:starB a=false) (sb:starB b=false)
    (nf: [a,b].all (foldedForSure 8)=false) (nc: [a,b].all (constantsAlone 8)=false):swappedStores [.Tuple [.Name x px,.Name y py] kt pt] (.Tuple [a,b] k2 pt2) X.env=pure (some [x,y]):=by
  unfold swappedStores
  dsimp only
  have kx:(X.env.kindOf x == some .local)=true:=by unfold Env.kindOf; rw [K.nm,hx]; rfl
  have ky:(X.env.kindOf y == some .local)=true:=by unfold Env.kindOf; rw [K.nm,hy]; rfl
  have e:∀ e:Expr,starB e=false→(match e with | .Starred .. =>true | _=>false)=false:=fun e h=>by cases e <;> first | rfl | (cases h)
  have c1:(!([Expr.Name x px,Expr.Name y py].length == 2 || [Expr.Name x px,Expr.Name y py].length == 3) || [a,b].length != [Expr.Name x px,Expr.Name y py].length || X.env.blockKind != ScopeKind.function)=false:=by
    rw [fn_kind K]; rfl
  rw [if_neg (by rw [c1]; exact Bool.false_ne_true)]
  have nm:([x,y]:List Str).eraseDups.length=2:=by
    have hb:(y == x)=false:=beq_eq_false_iff_ne.mpr (Ne.symm hne)
    simp [List.eraseDups_cons,hb]
  split
  · rename_i h2
    exfalso
    simp only [List.any_cons,List.any_nil,Bool.or_false,Bool.or_eq_true] at h2
    rcases h2 with h2 | h2
    · cases a <;> first | (cases h2; done) | (cases sa)
    · cases b <;> first | (cases h2; done) | (cases sb)
  · simp only [List.filterMap_cons,List.filterMap_nil,kx,ky,List.head?_cons,Option.map_some,Option.getD_some,Bool.true_and,Expr.pos,hl,beq_self_eq_true,if_true,List.length_cons,List.length_nil,nm,nf,nc]
    rfl
noncomputable def celB (C:Cfg):Expr→Bool
  | .Name x _=> !(C.names.lookup x == some .local)
  | _=>false
theorem fm_lt {α β:Type} {f:α→Option β}:∀ {l:List α},(∃ x∈l,f x=none)→(l.filterMap f).length < l.length
  | [],⟨_,h,_⟩=>nomatch h
  | a :: r,⟨x,h,e⟩=>by
    have le:(r.filterMap f).length≤r.length:=List.length_filterMap_le ..
    rcases List.mem_cons.mp h with z | z
    · subst z
      rw [List.filterMap_cons_none e,List.length_cons]; omega
    · have:=fm_lt ⟨x,z,e⟩
      cases ea:f a with
      | none=>rw [List.filterMap_cons_none ea,List.length_cons]; omega
      | some b=>rw [List.filterMap_cons_some ea,List.length_cons,List.length_cons]; omega
theorem sw_cel (K:Kn X E T k C) {ts:List Expr} {kt:Nat} {pt:Pos} {v:Expr} (hv:tupB v=true) (h:ts.any (celB C)=true):swappedStores [.Tuple ts kt pt] v X.env=pure none:=by
  cases v with
  | Tuple vs kv pv =>
    unfold swappedStores
    dsimp only
    split
    · rfl
    · split
      · rfl
      · rw [if_pos ?_]
        obtain ⟨x,hx,hc⟩:=List.any_eq_true.mp h
        rw [Bool.or_eq_true]
        refine .inl ?_
        rw [bne_iff_ne]
        refine Nat.ne_of_lt (fm_lt ⟨x,hx, ?_⟩)
        cases x with
        | Name y p =>
          dsimp only
          rw [if_neg]
          intro z
          rw [Bool.and_eq_true] at z
          have e1:X.env.kindOf y=C.names.lookup y:=by unfold Env.kindOf; rw [K.nm]
          rw [e1] at z
          have hc:(!(C.names.lookup y == some NameKind.local))=true:=hc
          rw [z.1] at hc
          cases hc
        | _=>cases hc
  | _=>cases hv
noncomputable def listB (C:Cfg):Expr→Bool
  | .ListComp .. =>true
  | .List .. =>true
  | .Name x _=>C.ls.contains x
  | _=>false
noncomputable def yS (n:Nat) (C:Cfg) (s:Stmt):Option CS:=match s with
  | .Assign [.Tuple gs kt pt] v pos=>if listB C v then (cE n C false v).bind fun v'=>(cGs n C gs).bind fun g'=>some (.asg (.gl gs.length g') v')
      else if tupB v && gs.any (celB C) then (cE n C false v).bind fun v'=>(cGs n C gs).bind fun g'=>some (.asg (.gt gs.length g') v') else none
  | .Assign [.Name x px] (.ListComp elt gens sc vp) pos=>if locB C x && C.names.lookup x == some .cell then (slot C.N x).bind fun i=>(cE n C (C.M.contains x) (.ListComp elt gens sc vp)).bind fun v'=>some (.asg (.gn i) v') else none
  | _=>none
theorem swaps_cell {X:Cx} {E:Ev} {T:Tb} {k:Nat} {C:Cfg} (K:Kn X E T k C) {x:Str} {px vp:Pos} {l:Nat} {elt:Expr} {gens:List Comprehension} {sc:Scope} (c3:(C.names.lookup x == some .cell)=true) :
    swapsWithSole [.Name x px] (.ListComp elt gens sc vp) l X.env=pure false:=by
  unfold swapsWithSole swapsWith
  dsimp only
  have e1:X.env.kindOf x=C.names.lookup x:=by unfold Env.kindOf; rw [K.nm]
  rw [fn_kind K,e1,beq_iff_eq.mp c3]
  rfl
mutual
noncomputable def cS:Nat→Cfg→Stmt→Option CS
  | 0,_,_=>none
  | n + 1,C,s=>match yS n C s with
  | some c=>some c
  | none => match s with
    | .Expr e _=>(match e with
      | .Constant (.str _) _ _=>some .nil
      | e=>if compB e then none else (cE n C false e).bind fun e'=>some (.ex e'))
    | .Pass _=>some .nil
    | .Raise .. =>some .nev
    | .Return o _=>(match o with
      | none=>some .retN
      | some e=>(cE n C C.rm e).bind fun e'=>some (.ret e'))
    | .If c a b _=>(cT n C c).bind fun c'=>(cSs n C a).bind fun a'=>(cSs n C b).bind fun b'=>some (.iff c' a' b')
    | .While c b o _=>(match o with
      | []=>(cT n C c).bind fun c'=>some (.wh c' ((cSs n C b).getD .nev))
      | _=>none)
    | .For tg it b o _=>(match o with
      | []=>if setB it then none else (cI n C tg it).bind fun i'=>(cG n C tg).bind fun g'=>(cSs n C b).bind fun b'=>some (.fr g' i' b')
      | _=>none)
    | .Assign ts v pos=>(match ts with
      | [.Name x px]=>if locB C x then (slot C.N x).bind fun i=>(match v with
          | .ListComp elt gens sc vp=>(match gens with
            | [⟨tg,iter,ifs,0⟩]=>if blkOk C sc && !setB iter && C.names.lookup x == some .local && px.line == vp.line && !(sc.names.any fun y=>y.1 == x && (y.2 == .local || y.2 == .cell)) then
                (cI n C tg iter).bind fun it'=>(cG n (blkC C sc) tg).bind fun tg'=>(cTs n (blkC C sc) ifs).bind fun ts'=>(cE n (blkC C sc) false elt).bind fun el'=>some (.asg (.gn i) (.cmpr (C.M.contains x) tg' it' ts' el' ((blkN C sc.names).map (·.2))))
              else none
            | _=>none)
          | v=>if compB v then none else (cE n C (C.M.contains x) v).bind fun v'=>some (.asg (.gn i) v')) else none
      | [.Attribute o f _]=>if compB v then none else (cE n C false o).bind fun o'=>(cE n C false v).bind fun v'=>some (.fld o' f v')
      | [.Subscript o i _]=>if compB v || sliB i then none else (cE n C false o).bind fun o'=>(cE n C false i).bind fun i'=>(cE n C false v).bind fun v'=>some (.sub o' i' v')
      | [.Tuple gs kt pt]=>if parB v then (match gs,v with
          | [.Name x px,.Name y py],.Tuple [a,b] _ _=>if C.names.lookup x == some .local && C.names.lookup y == some .local && py.line == px.line && x != y && !starB a && !starB b && !([a,b].all (constantsAlone 8)) then
              (slot C.N x).bind fun i=>(slot C.N y).bind fun j=>(cE n C false a).bind fun a'=>(cE n C false b).bind fun b'=>some (.par i j a' b') else none
          | _,_=>none)
        else if compB v then none else (cE n C false v).bind fun v'=>(cG n C (.Tuple gs kt pt)).bind fun g'=>some (.asg g' v')
      | _=>none)
    | _=>none
noncomputable def cSs:Nat→Cfg→List Stmt→Option CS
  | 0,_,_=>none
  | n + 1,C,l=>match l with
    | []=>some .nil
    | [s]=>cS n C s
    | s :: t :: r=>(cS n C s).bind fun s'=>(cSs n C (t :: r)).bind fun r'=>some (.seq s' r')
end
theorem swaps_not {e:Expr} {t:Option Expr} {l:Nat} {env:Env} (h:compB e=false):swapsWith e t l env=pure false:=by
  cases e <;> first | rfl | (cases h)
theorem swaps_comp (K:Kn X E T k C) {x:Str} {px vp:Pos} {l:Nat} {elt:Expr} {gens:List Comprehension} {sc:Scope} (c3:(C.names.lookup x == some .local)=true) (c4:(px.line == vp.line)=true) (c5:(!(sc.names.any fun y=>y.1 == x && (y.2 == .local || y.2 == .cell)))=true) :
    swapsWith (.ListComp elt gens sc vp) (some (.Name x px)) l X.env=pure true:=by
  unfold swapsWith
  dsimp only
  have e1:X.env.kindOf x=C.names.lookup x:=by unfold Env.kindOf; rw [K.nm]
  rw [fn_kind K,e1,c3]
  have e2:(!(sc.names.any fun (n,k)=>n == x && (k == .local || k == .cell)))=true:=by rw [←c5]
  show pure (true && true && (px.line == vp.line) && !(sc.names.any fun (n,k)=>n == x && (k == .local || k == .cell)))=pure true
  rw [c4,e2]; rfl
theorem swaps_sole {e t:Expr} {l:Nat} {env:Env} (h:compB e=false):swapsWithSole [t] e l env=pure false:=swaps_not h
theorem asg_sub {o i:Expr} {pos':Pos} {env:Env} (h:sliB i=false) (v:Value):assign (.Subscript o i pos') env v=(do
      let ov ←holding [v] (eval o env)
      let iv ←holding [v,ov] (eval i env)
      standAt pos'
      holding [v,ov,iv] (setItem ov iv v)
      release [v,ov,iv] []):=by
  cases i <;> first | rfl | (cases h)
theorem list_sole {gs:List Expr} {kt:Nat} {pt:Pos} {v:Expr} {l:Nat} {env:Env} (h:listB C v=true):swapsWithSole [.Tuple gs kt pt] v l env=pure false:=by
  cases v <;> first | rfl | (cases h)
theorem tup_sole {gs:List Expr} {kt:Nat} {pt:Pos} {v:Expr} {l:Nat} {env:Env} (h:tupB v=true):swapsWithSole [.Tuple gs kt pt] v l env=pure false:=by
  cases v <;> first | rfl | (cases h)
theorem list_par {v:Expr} (h:listB C v=true):¬parB v=true:=by
  cases v <;> first | (intro z; cases z; done) | (cases h)
structure Sns (E:Ev) (T:Tb) (k:Nat) (n:Nat):Prop where
  s:∀ X C s c,Kn X E T k C→cS n C s=some c→JS X E s (wpS T c)
  ss:∀ X C s c,Kn X E T k C→cSs n C s=some c→JSs X E s (wpS T c)
theorem sns_ss {n:Nat} (S:Sns E T k n):∀ X C l c,Kn X E T k C→cSs (n + 1) C l=some c→JSs X E l (wpS T c):=by
  intro X C l c K h
  unfold cSs at h
  split at h
  · cases h; exact js_nil
  · exact js_one (S.s X C _ c K h)
  · obtain ⟨s',h1,h⟩:=bnd h
    obtain ⟨r',h2,h⟩:=bnd h
    cases h
    exact js_seq (S.s X C _ s' K h1) (S.ss X C _ r' K h2)
theorem sns_s {n:Nat} (S:Sns E T k n):∀ X C l c,Kn X E T k C→cS (n + 1) C l=some c→JS X E l (wpS T c):=by
  intro X C l c K h
  have R:Snd E T k n:=snd n
  unfold cS at h
  split at h
  · rename_i c2 hx
    cases h
    unfold yS at hx
    split at hx
    · split at hx
      · rename_i hl
        obtain ⟨v',h1,hx⟩:=bnd hx
        obtain ⟨g',h2,hx⟩:=bnd hx
        cases hx
        obtain ⟨ga,gb⟩:=R.gs X C _ g' K h2
        obtain ⟨l1,l2⟩:=asg_len (env:=X.env) gb
        exact js_asg (R.e X C _ _ v' K h1) (jg_lst K.pl ga l1 l2) (list_sole hl) (sw_any (list_par hl)) rfl
      · split at hx
        · rename_i hl
          obtain ⟨hl1,hl2⟩:=Bool.and_eq_true_iff.mp hl
          obtain ⟨v',h1,hx⟩:=bnd hx
          obtain ⟨g',h2,hx⟩:=bnd hx
          cases hx
          obtain ⟨ga,gb⟩:=R.gs X C _ g' K h2
          obtain ⟨l1,l2⟩:=asg_len (env:=X.env) gb
          exact js_asg (R.e X C _ _ v' K h1) (jg_tup K.pl ga l1 l2) (tup_sole hl1) (sw_cel K hl1 hl2) rfl
        · cases hx
    · split at hx
      · rename_i hc
        obtain ⟨c1,c2⟩:=Bool.and_eq_true_iff.mp hc
        obtain ⟨l1,l2⟩:=K.loc c1
        obtain ⟨i,h1,hx⟩:=bnd hx
        obtain ⟨v',h2,hx⟩:=bnd hx
        cases hx
        exact js_asg (R.e X C _ _ v' K h2) (jg_name (by rw [K.N]; exact K.nd) (by rw [K.N]; exact slot_ok h1) l1 l2) (swaps_cell K c2) rfl rfl
      · cases hx
    · cases hx
  split at h
  · split at h
    · cases h; exact js_doc
    · split at h
      · cases h
      · rename_i hc
        obtain ⟨e',h1,h⟩:=bnd h
        cases h
        exact js_ex (R.e X C false _ e' K h1) (swaps_not (by simpa using hc))
  · cases h; exact js_pass
  · cases h; exact js_nev
  · split at h
    · cases h; exact js_retN
    · obtain ⟨e',h1,h⟩:=bnd h
      cases h
      exact js_ret (R.e X C C.rm _ e' K h1)
  · obtain ⟨c',h1,h⟩:=bnd h
    obtain ⟨a',h2,h⟩:=bnd h
    obtain ⟨b',h3,h⟩:=bnd h
    cases h
    exact js_if (R.t X C _ c' K h1) (S.ss X C _ a' K h2) (S.ss X C _ b' K h3)
  · split at h
    · obtain ⟨c',h1,h⟩:=bnd h
      cases h
      refine js_wh K.ps (R.t X C _ c' K h1) ?_
      cases h2:cSs n C _ with
      | none=>exact js_nevs
      | some b'=>exact S.ss X C _ b' K h2
    · cases h
  · split at h
    · split at h
      · cases h
      · rename_i hs
        obtain ⟨i',h1,h⟩:=bnd h
        obtain ⟨g',h2,h⟩:=bnd h
        obtain ⟨b',h3,h⟩:=bnd h
        cases h
        exact js_for K.pl K.ps (R.i X C _ _ i' K h1) (R.g X C _ g' K h2) (S.ss X C _ b' K h3) (folded_of (by simpa using hs))
    · cases h
  · split at h
    · split at h
      · rename_i hl
        obtain ⟨i,h1,h⟩:=bnd h
        obtain ⟨l1,l2⟩:=K.loc hl
        split at h
        · split at h
          · split at h
            · rename_i hc
              rw [Bool.and_eq_true,Bool.and_eq_true,Bool.and_eq_true,Bool.and_eq_true] at hc
              obtain ⟨⟨⟨⟨c1,c2⟩,c3⟩,c4⟩,c5⟩:=hc
              obtain ⟨it',g1,h⟩:=bnd h
              obtain ⟨tg',g2,h⟩:=bnd h
              obtain ⟨ts',g3,h⟩:=bnd h
              obtain ⟨el',g4,h⟩:=bnd h
              cases h
              obtain ⟨cl,B,KB⟩:=K.block c1
              refine js_setC B K.pl (by rw [K.N]; exact K.nd) (by rw [K.N]; exact slot_ok h1) (by rw [K.nm]; exact beq_iff_eq.mp c3) (R.i X C _ _ it' K g1) (fun C0 s₀ H₀ ex=>R.g _ _ _ tg' (KB C0 s₀ H₀ ex) g2) (fun C0 s₀ H₀ ex=>R.ts _ _ _ ts' (KB C0 s₀ H₀ ex) g3) (fun C0 s₀ H₀ ex=>R.e _ _ false _ el' (KB C0 s₀ H₀ ex) g4) ?_ (folded_of (by simpa using c2))
              exact swaps_comp K c3 c4 c5
            · cases h
          · cases h
        · split at h
          · cases h
          · rename_i hc
            obtain ⟨v',h2,h⟩:=bnd h
            cases h
            exact js_asg (R.e X C _ _ v' K h2) (jg_name (by rw [K.N]; exact K.nd) (by rw [K.N]; exact slot_ok h1) l1 l2) (swaps_sole (by simpa using hc)) rfl rfl
      · cases h
    · split at h
      · cases h
      · rename_i hc
        obtain ⟨o',h1,h⟩:=bnd h
        obtain ⟨v',h2,h⟩:=bnd h
        cases h
        exact js_fld K.pl (R.e X C _ _ o' K h1) (R.e X C _ _ v' K h2) (swaps_not (by simpa using hc))
    · split at h
      · cases h
      · rename_i hc
        obtain ⟨hc1,hc2⟩:=or2 hc
        obtain ⟨o',h1,h⟩:=bnd h
        obtain ⟨i',h2,h⟩:=bnd h
        obtain ⟨v',h3,h⟩:=bnd h
        cases h
        exact js_sub (R.e X C _ _ v' K h3) (R.e X C _ _ o' K h1) (R.e X C _ _ i' K h2) (asg_sub hc2) (swaps_sole hc1) rfl
    · split at h
      · split at h
        · split at h
          · rename_i hc
            simp only [Bool.and_eq_true,Bool.not_eq_true',beq_iff_eq,bne_iff_ne,ne_eq] at hc
            obtain ⟨⟨⟨⟨⟨⟨c1,c2⟩,c3⟩,c4⟩,c5⟩,c6⟩,c7⟩:=hc
            obtain ⟨i,g1,h⟩:=bnd h
            obtain ⟨j,g2,h⟩:=bnd h
            obtain ⟨a',g3,h⟩:=bnd h
            obtain ⟨b',g4,h⟩:=bnd h
            cases h
            have ij:i≠j:=fun e=>by
              subst e
              have a1:=slot_ok g1
              have a2:=slot_ok g2
              rw [a1] at a2
              exact c4 (Option.some.inj a2)
            exact js_par K.pl (by rw [K.N]; exact K.nd) (by rw [K.N]; exact slot_ok g1) (by rw [K.N]; exact slot_ok g2) ij (by rw [K.nm]; exact c1) (by rw [K.nm]; exact c2) (R.e X C _ _ a' K g3) (R.e X C _ _ b' K g4) (star_cons c5) (star_cons c6) (sw_par K c1 c2 c3 c4 c5 c6 (by have hf:= ‹parB _=true›; unfold parB at hf; exact Bool.not_eq_true' _▸hf) c7) rfl
          · cases h
        · cases h
      · rename_i hf
        split at h
        · cases h
        · rename_i hc
          obtain ⟨v',h1,h⟩:=bnd h
          obtain ⟨g',h2,h⟩:=bnd h
          cases h
          exact js_asg (R.e X C _ _ v' K h1) (R.g X C _ g' K h2) (swaps_sole (by simpa using hc)) (sw_any hf) rfl
    · cases h
  · cases h
theorem sns:∀ n,Sns E T k n
  | 0=>⟨(fun X C s c K h=>by unfold cS at h; cases h),(fun X C s c K h=>by unfold cSs at h; cases h)⟩
  | n + 1=>⟨sns_s (sns n),sns_ss (sns n)⟩
end
end L3
namespace L3
open PySem PySem.Spec
open PyProof.Rows hiding St
open L2
structure FunD (K:PySem.W.Frag) (x qual:Str) (st:Stmt) (dV:Value) (f:Addr) (fd:FuncData):Prop where
  ex :∃ (oc:Value) (od:Option Addr) (kV doc pm:Value) (an:Option Addr) (cdv ct:Value) (osl:Array (Option Value)),
    fd=PySem.W.fnOf x qual (defArgs st) (defBody st) (defScope st) dV kV doc pm an cdv ct∧K.lookup f=some ⟨oc,od,.func fd,osl⟩∧PySem.W.codeIn K cdv qual=true
  kp:PySem.W.keepIn K (.ref f)=true
noncomputable def Wk (Q:PK1):PK1:=fun x G=>∃ G2:Gh,(∀ a o,G2 a=some o→G a=some o)∧(Q x G2∨∃ p xs,x= .ref p∧G2 p=none∧G p=some (.lst xs)∧Q (.lst xs) G2)
theorem Wk.here {Q:PK1} {x:PV} {G:Gh} (q:Q x G):Wk Q x G:=⟨G,fun _ _ z=>z,.inl q⟩
theorem Wk.of {Q:PK1} {x:PV} {G G2:Gh} (q:Q x G2) (h:∀ a o,G2 a=some o→G a=some o):Wk Q x G:=⟨G2,h,.inl q⟩
theorem Wk.frz {Q:PK1} {p:Addr} {xs:List PV} {G G2:Gh} (hG:G p=some (.lst xs)) (q:Q (.lst xs) G2) (h:∀ a o,G2 a=some o→G a=some o) (n:G2 p=none):Wk Q (.ref p) G:=⟨G2,h,.inr ⟨p,xs,rfl,n,hG,q⟩⟩
theorem wk_low {E:Ev} {F Z Z1 H1:Hp} {G1:Gh} {Q':PK1} {Q:VK} {y:PV} {v:V} (kq:Kq E F Z Q' Q) (s1:Same Z Z1) (S1:Sim E F H1 Z1 G1) (r1:RP E Z1 y v) (w:Wk Q' y G1):Q v H1:=by
  obtain ⟨G2,hG,q1 | ⟨p,xs,e,n,hp,q1⟩⟩:=w
  · exact kq _ _ _ _ _ s1 (S1.weak hG) r1 q1
  · subst e
    have e:v= .ref p:=r1
    subst e
    obtain ⟨z,o',ho,vs,e,t⟩:=S1.g _ _ hp
    subst e
    refine kq _ _ _ _ _ (s1.trans (same_new z _)) ((S1.frz hp ho).weak fun a o q=>?_) (rp_newL z t) q1
    by_cases ea:a=p
    · subst ea; rw [n] at q; cases q
    · rw [gdel_ne ea]; exact hG a o q
noncomputable def endP (Q:PK1):PEnds:=⟨fun _ G=>Wk Q .non G,Wk Q,fun _ _=>False,fun _ _=>False⟩
structure DefOk (st:Stmt) (ps:List Str) (C:Cfg):Prop where
  sc:FnScope C.N ps (defScope st)
  nm:(defScope st).names=C.names
  bk:C.blk=false
structure Ck (K:PySem.W.Frag) (E:Ev) (T:Tb):Prop where
  hK:E.K=K
  cls:ClsOk E T.cs
  fld:∀ c f,(c,f)∈T.fl→Cls K (E.cls c)∧NoAttr K (E.cls c) f
theorem fn_ok {P:Program} {w:World} {K:PySem.W.Frag} {mg:Str→Option Value} {base:Heap} {E:Ev} {T:Tb} {k n:Nat} {C:Cfg} {x qual:Str} {st:Stmt} {dV:Value} {f:Addr} {fd:FuncData} {ps:List Str} {sp:Sp3} {code:CS}
    (F:FunD K x qual st dV f fd) (D:DefOk st ps C) (ck:Ck K E T) (gf:Gf P w K mg base E T k C) (hc:cSs n C (defBody st)=some code)
    (len:∀ xs G Q,sp xs G Q→xs.length=ps.length) (hw:∀ xs G Q,sp xs G Q→wpS T code (endP Q) (startP C.N.length xs) G):FnOk P w K mg base CX0 (k + 2) f fd ps (lift E sp):=by
  obtain ⟨oc,od,kV,doc,pm,an,cdv,ct,osl,e,lk,hcd⟩:=F.ex
  subst e
  refine fn_of lk hcd D.sc (fun vs H Q E' ⟨xs,Z,G,F',Q',r,S,q,kq⟩=>by rw [←r.length]; exact len xs G Q' q) fun A outer s H vs Q E' hr hsp=>?_
  obtain ⟨xs,Z,G,F',Q',r,S,q,kq⟩:=hsp
  have kn:Kn (cxOf CX0 P w K mg base C.N qual (defScope st) f cdv A outer s H E').nox E T k C:=by
    refine ⟨⟨ck.hK,rfl,hr,ck.cls,ck.fld⟩,rfl,D.sc.nd,D.nm,D.sc.kind,fun _ _=>rfl,fun y hy=>?_,PassesOwn.never,gf⟩
    exact cell_has (n:=s.heap.objs.size + 1) (by rw [D.nm]; exact hy)
  have js:=(sns n).ss _ C _ code kn hc F'
  refine ⟨_,js.nox,startP C.N.length xs,Z,G,endP Q',RSt.start r,S,hw xs G Q' q,⟨?_, ?_, ?_, ?_⟩⟩
  · rintro σ1 σ2 Z1 G1 H1 s1 S1 rs1 w
    exact wk_low kq s1 S1 rp_non w
  · rintro y v Z1 G1 H1 s1 S1 r1 w
    exact wk_low kq s1 S1 r1 w
  · rintro σ1 σ2 Z1 G1 H1 s1 S1 rs1 z; exact z
  · rintro σ1 σ2 Z1 G1 H1 s1 S1 rs1 z; exact z
noncomputable def spTrue:Sp3:=fun xs G Q=>∃ ns:List Int,xs=[.scr ns]∧ns.length≤63∧∀ G',Q (.bl true) G'
noncomputable def spTop (K:PySem.W.Frag):Sp:=fun vs H Q _=>∃ (p:Addr) (ns:List Int),vs=[.ref p]∧SqL K H p (ns.map V.int)∧ns.length≤63∧∀ H',Q (.bl true) H'
theorem top_of {E:Ev} {vs:List V} {H:Hp} {Q:VK} {X:XK} (h:spTop E.K vs H Q X):lift E spTrue vs H Q X:=by
  obtain ⟨p,ns,e,hS,hl,q⟩:=h
  subst e
  refine ⟨[.scr ns],H,fun _=>none,fun _=>none,fun x _=>x= .bl true,⟨.ref p,[],rfl,⟨p,rfl,hS⟩,rfl⟩,⟨Same.refl H,(fun a o z=>nomatch z),(fun a o z=>nomatch z)⟩,⟨ns,rfl,hl,fun _=>rfl⟩, ?_⟩
  intro x v Z1 G1 H1 s1 S1 r1 e
  subst e
  have e:v= .bl true:=r1
  subst e
  exact q H1
theorem law_start {K:PySem.W.Frag} {H:Hp} {a:Addr} {ns:List Int} (hl:ns.length≤63) (_:Only H) (h:SqL K H a (ns.map V.int)):spTop K [.ref a] H (fun v _=>v= .bl true) fun _ _ _=>False:=⟨a,ns,rfl,h,hl,fun _=>rfl⟩
end L3
namespace L3
open PySem PySem.Spec
open PyProof.Rows hiding St
open L2
theorem fund_mk {K:PySem.W.Frag} {x qual:Str} {st:Stmt} {f:Addr} {oc:Value} {od an:Option Addr} {osl:Array (Option Value)} {dV kV doc pm cdv ct:Value} (l:K.lookup f=some ⟨oc,od,.func (PySem.W.fnOf x qual (defArgs st) (defBody st) (defScope st) dV kV doc pm an cdv ct),osl⟩)
    (c:PySem.W.codeIn K cdv qual=true) (k:PySem.W.keepIn K (.ref f)=true):FunD K x qual st dV f (PySem.W.fnOf x qual (defArgs st) (defBody st) (defScope st) dV kV doc pm an cdv ct):=⟨⟨oc,od,kV,doc,pm,an,cdv,ct,osl,rfl,l,c⟩,k⟩
theorem FunD.binds {K:PySem.W.Frag} {x qual:Str} {st:Stmt} {dV:Value} {f:Addr} {fd:FuncData} {ps:List Str} (F:FunD K x qual st dV f fd)
    (h:∀ (kV doc pm:Value) (an:Option Addr) (cdv ct:Value) (s:Shared) (us:List Value),K.In s.heap→us.length=ps.length→BindsTo s (PySem.W.fnOf x qual (defArgs st) (defBody st) (defScope st) dV kV doc pm an cdv ct) ⟨us,[]⟩ (ps.zip us)):L2.Binds K fd ps []:=by
  obtain ⟨oc,od,kV,doc,pm,an,cdv,ct,osl,rfl,lk,hcd⟩:=F.ex
  intro s us hK hl
  rw [List.append_nil] at hl ⊢
  exact h kV doc pm an cdv ct s us hK hl
theorem FunD.sh {K:PySem.W.Frag} {x qual:Str} {st:Stmt} {dV:Value} {f:Addr} {fd:FuncData} {ps:List Str} {n:Nat} {ks:List Str} {ar:List Ar} (F:FunD K x qual st dV f fd) (hl:ar.length=ps.length)
    (h:∀ (kV doc pm:Value) (an:Option Addr) (cdv ct:Value) (s:Shared) (us ws:List Value),K.In s.heap→us.length=n→ws.length=ks.length→∃ bs,BindsTo s (PySem.W.fnOf x qual (defArgs st) (defBody st) (defScope st) dV kV doc pm an cdv ct) ⟨us,ks.zip ws⟩ (ps.zip bs)∧∀ vs zs,Vals vs us→Vals zs ws→Vals (ar.map (Ar.valV (vs ++ zs))) bs):ShOk K fd ps n ks ar:=by
  obtain ⟨oc,od,kV,doc,pm,an,cdv,ct,osl,rfl,lk,hcd⟩:=F.ex
  exact ⟨hl,h kV doc pm an cdv ct⟩
theorem ac {α:Type} {P:α→Prop} {x:α} {l:List α} (h:P x) (t:∀ y∈l,P y):∀ y∈x :: l,P y:=List.forall_mem_cons.mpr ⟨h,t⟩
theorem an {α:Type} {P:α→Prop}:∀ y∈([]:List α),P y:=fun _ h=>nomatch h
theorem gl_int {E:Ev} {mg:Str→Option Value} {x:Str} {i:Int} {t:Tok} (h:mg x=some (.int i t)):∃ u v,mg x=some u∧RelV v u∧RP E (fun _=>none) (.int i) v:=⟨_,.int i,h,⟨t,rfl⟩,rfl⟩
theorem gl_cls {E:Ev} {mg:Str→Option Value} {x:Str} {c:String} {a:Addr} (h:mg x=some (.ref a)) (e:E.cls c=a):∃ u v,mg x=some u∧RelV v u∧RP E (fun _=>none) (.cl c) v:=⟨_,.ref a,h,rfl,by rw [←e]; rfl⟩
theorem gl_tup2 {E:Ev} {K:PySem.W.Frag} {mg:Str→Option Value} {x:Str} {a:Addr} {i j:Int} {t u:Tok} {n:Nat} {sl:Array (Option Value)} (hK:E.K=K) (h:mg x=some (.ref a)) (l:K.lookup a=some ⟨.type "tuple",none,.seq #[.int i t,.int j u] n,sl⟩):∃ u v,mg x=some u∧RelV v u∧RP E (fun _=>none) (.tup [.int i,.int j]) v :=
  ⟨_,.ref a,h,rfl,a,[.int i,.int j],rfl,.inr ⟨_,_,_,by rw [hK]; exact l,rfl,rfl,by show 2≤sizeLine; decide,.cons ⟨t,rfl⟩ (.cons ⟨u,rfl⟩ .nil),rfl⟩,_,_,rfl,rfl,_,_,rfl,rfl,rfl⟩
theorem gl_cast {E:Ev} {mg:Str→Option Value} {x:Str} {y z:PV} (h:∃ u v,mg x=some u∧RelV v u∧RP E (fun _=>none) y v) (e:z=y):∃ u v,mg x=some u∧RelV v u∧RP E (fun _=>none) z v:=e▸h
noncomputable def CTup (K:PySem.W.Frag) (a:Addr) (ns:List Int):Prop:= ∃ us n sl,K.lookup a=some ⟨.type "tuple",none,.seq us.toArray n,sl⟩∧Vals (ns.map V.int) us
theorem CTup.rp {E:Ev} {K:PySem.W.Frag} {a:Addr} {ns:List Int} (hK:E.K=K) (h:CTup K a ns) (hz:(ns.map V.int).length≤sizeLine):RP E (fun _=>none) (.tup (ns.map PV.int)) (.ref a):=by
  obtain ⟨us,n,sl,l,r⟩:=h
  exact ⟨a,ns.map V.int,rfl,.inr ⟨_,_,_,by rw [hK]; exact l,rfl,rfl,by show us.length≤sizeLine; rw [←r.length]; exact hz,r,rfl⟩,RPs.ofInts ns⟩
end L3
namespace L3
open PySem PySem.W PyProof.Rows
theorem left2 {p q:Program} {loose:List Str} {Xt:Shared→Bool} {α:Type} {Yf:Shared→α} {Ya:World→α} {N:Nat} {g0:Bool} {H₀:Params→Heap} {gs₀:Array GenState} {d₀:Drawn} {k₀ m₀:Nat} {ann:Option Value} {M:Nat}
    (open_:∀ w:World,(fencedOpening treeTable p w N).map (fun s=>(s.heap,s.gens,s.drawn,s.toks))=some (H₀ w.params,gs₀,d₀,k₀))
    (size:∀ w:World,((H₀ w.params).isNs mainGlobals && gs₀.size == 0,(H₀ w.params).objs.size,(H₀ w.params).nsMap mainGlobals "__annotations__")=(true,m₀,ann)) (le:Nat.ble M N=true)
    (run:∀ (w:World) (os:OsState),∃ s₁,topRun treeTable p w m₀ ann M ⟨H₀ w.params,gs₀,d₀,k₀,os⟩ (topStub p)=some s₁∧
      (staticsOk (importedModules p.main.body) (H₀ w.params) s₁.heap && namesBound p s₁.heap && gensDone s₁ && laidKept (H₀ w.params) s₁.heap,openSeen q loose (importedModules p.main.body) Xt g0 s₁,Yf s₁)=(true,openGood q loose,Ya w)):LeftO p q loose Xt Yf Ya N g0:=fun w=>by
  obtain ⟨⟨h,gs,d,k,os⟩,e,e'⟩:=Option.map_eq_some_iff.mp (open_ w)
  obtain ⟨rfl,rfl,rfl,rfl⟩:h=H₀ w.params∧gs=gs₀∧d=d₀∧k=k₀:=by simpa using e'
  obtain ⟨z1,z2,z3⟩:_∧_∧_:=by simpa only [Prod.mk.injEq] using size w
  obtain ⟨s₁,r,l⟩:=run w os
  obtain ⟨l1,l2,l3⟩:_∧_∧_:=by simpa only [Prod.mk.injEq] using l
  have r:=topRun_mono (N - M) _ _ _ _ r
  rw [show M + (N - M)=N by have:=Nat.le_of_ble_eq_true le; omega] at r
  have t:topFrom treeTable p w N ⟨H₀ w.params,gs,d,k,os⟩=some s₁:=by
    unfold topFrom
    dsimp only
    rw [z1,z2,z3,r]
    show (match staticsOk (importedModules p.main.body) (H₀ w.params) s₁.heap && namesBound p s₁.heap && gensDone s₁ && laidKept (H₀ w.params) s₁.heap with | true=>_ | false=>_)=_
    rw [l1]
  unfold openEnds
  rw [e]
  show (topFrom treeTable p w N _).map _=_
  rw [t]
  exact congrArg some (Prod.ext l2 l3)
noncomputable def oneOf (o:Option (Shared×Thread)) (s:Shared):Shared:=match o with | some x=>x.1 | none=>s
noncomputable def twoOf (o:Option (Flow×Shared×Code×Pos)) (s:Shared):Shared:=match o with | some x=>x.2.1 | none=>s
end L3
namespace L3
open PySem PySem.Spec
open PyProof.Rows hiding St
open L2
section
variable {G:Gh} {Q:PK1} {x y:PV} {i j:Int} {s:Str} {b c:Bool} {a:Addr}
theorem pI_int {C:Int→Int→Prop} {g:Int→Int→PV}:pI C g (.int i) (.int j) G Q=(C i j∧Q (g i j) G):=rfl
theorem pBin_add:pBin .Add=pAdd:=rfl
theorem pBin_sub:pBin .Sub=pI (fun _ _=>True) fun i j=>.int (i - j):=rfl
theorem pBin_mul:pBin .Mult (.int i) (.int j) G Q=(CMulG i j∧Q (.int (i * j)) G):=rfl
theorem pBin_div:pBin .FloorDiv=pI CDivG fun i j=>.int (i / j):=rfl
theorem pBin_mod:pBin .Mod=pI CModG fun i j=>.int (i % j):=rfl
theorem pBin_pow:pBin .Pow=pI CPow fun i j=>.int (i ^ j.toNat):=rfl
theorem pAdd_int:pAdd (.int i) (.int j) G Q=Q (.int (i + j)) G:=rfl
theorem pAdd_str {t:Str}:pAdd (.str s) (.str t) G Q=(s.length + t.length≤sizeLine∧Q (.str (s ++ t)) G):=rfl
theorem pAdd_lst {xs ys:List PV}:pAdd (.lst xs) (.lst ys) G Q=(xs.length + ys.length≤sizeLine∧Q (.lst (xs ++ ys)) G):=by
  show (∃ xs' ys',some xs=some xs'∧some ys=some ys'∧_)=_
  exact propext ⟨fun ⟨_,_,e1,e2,h⟩=>by cases e1; cases e2; exact h,fun h=>⟨_,_,rfl,rfl,h⟩⟩
theorem pAdd_tup {xs ys:List PV}:pAdd (.tup xs) (.tup ys) G Q=(xs≠ []∧ys≠ []∧xs.length + ys.length≤sizeLine∧Q (.tup (xs ++ ys)) G):=rfl
theorem pCmp_lt:pCmp .Lt=pI (fun _ _=>True) fun i j=>.bl (decide (i < j)):=rfl
theorem pCmp_le:pCmp .LtE=pI (fun _ _=>True) fun i j=>.bl (decide (i≤j)):=rfl
theorem pCmp_gt:pCmp .Gt=pI (fun _ _=>True) fun i j=>.bl (decide (j < i)):=rfl
theorem pCmp_ge:pCmp .GtE=pI (fun _ _=>True) fun i j=>.bl (decide (j≤i)):=rfl
theorem pCmp_eq:pCmp .Eq=pEq false:=rfl
theorem pCmp_ne:pCmp .NotEq=pEq true:=rfl
theorem pCmp_is:pCmp .Is=pIs false:=rfl
theorem pCmp_isn:pCmp .IsNot=pIs true:=rfl
theorem pEq_intF:pEq false (.int i) (.int j) G Q=Q (.bl (decide (i=j))) G:=by
  show (true=true∧true=true∧Q (.bl (i == j)) G)=_
  simp only [true_and]; congr 2
theorem pEq_intT:pEq true (.int i) (.int j) G Q=Q (.bl (!decide (i=j))) G:=by
  show (true=true∧true=true∧Q (.bl (!(i == j))) G)=_
  simp only [true_and]; congr 2
theorem pTru_bl {R:Bool→Gh→Prop}:pTru (.bl b) G R=R b G:=rfl
theorem pTru_non {R:Bool→Gh→Prop}:pTru .non G R=R false G:=rfl
theorem pTru_tup {R:Bool→Gh→Prop} {xs:List PV}:pTru (.tup xs) G R=R (!xs.isEmpty) G:=rfl
theorem pNeg_int:pNeg (.int i) G Q=Q (.int (-i)) G:=rfl
theorem pIs_nonF:pIs false .non .non G Q=Q (.bl true) G:=propext ⟨fun h=>h.elim (fun z=>z.2) (fun z=>absurd rfl z.1),fun h=>.inl ⟨rfl,h⟩⟩
theorem pIs_neF (h:x≠.non):pIs false x .non G Q=Q (.bl false) G:=propext ⟨fun z=>z.elim (fun z=>absurd z.1 h) (fun z=>z.2),fun q=>.inr ⟨h,q⟩⟩
theorem pIdx_tup {xs:List PV}:pIdx (.tup xs) (.int i) G Q=(∃ v,atI xs i=some v∧Q v G):=rfl
theorem pIdx_scr {ns:List Int}:pIdx (.scr ns) (.int i) G Q=(∃ n,atI ns i=some n∧Q (.int n) G):=rfl
theorem pIdx_lst {xs:List PV}:pIdx (.lst xs) (.int i) G Q=(∃ v,atI xs i=some v∧Q v G):=by
  show (∃ ys v,some xs=some ys∧_)=_
  exact propext ⟨fun ⟨_,v,e1,h⟩=>by cases e1; exact ⟨v,h⟩,fun ⟨v,h⟩=>⟨_,v,rfl,h⟩⟩
theorem lstOf_ref {xs:List PV} (h:G a=some (.lst xs)):lstOf G (.ref a)=some xs:=by unfold lstOf; dsimp only; rw [h]
theorem lstOf_lst {xs:List PV}:lstOf G (.lst xs)=some xs:=rfl
theorem lstOf_gup {xs:List PV}:lstOf (gup G a (.lst xs)) (.ref a)=some xs:=lstOf_ref gup_same
theorem pIdx_ref {xs:List PV} (h:G a=some (.lst xs)):pIdx (.ref a) (.int i) G Q=(∃ v,atI xs i=some v∧Q v G):=by
  show (∃ ys v,lstOf G (.ref a)=some ys∧_)=_
  rw [lstOf_ref h]
  exact propext ⟨fun ⟨_,v,e1,h⟩=>by cases e1; exact ⟨v,h⟩,fun ⟨v,h⟩=>⟨_,v,rfl,h⟩⟩
theorem pIdx_gup {xs:List PV}:pIdx (.ref a) (.int i) (gup G a (.lst xs)) Q=(∃ v,atI xs i=some v∧Q v (gup G a (.lst xs))):=pIdx_ref gup_same
theorem pSet_ref {xs:List PV} {v:PV} {R:Gh→Prop} (h:G a=some (.lst xs)):pSet (.ref a) (.int i) v G R=(∃ j,ixN xs.length i=some j∧R (gup G a (.lst (xs.set j v)))):=propext
  ⟨fun ⟨_,_,_,j,e1,e2,e3,e4,r⟩=>by cases e1; cases e2; rw [h] at e3; cases e3; exact ⟨j,e4,r⟩,fun ⟨j,e4,r⟩=>⟨_,_,_,j,rfl,rfl,h,e4,r⟩⟩
theorem pSet_gup {xs:List PV} {v:PV} {R:Gh→Prop}:pSet (.ref a) (.int i) v (gup G a (.lst xs)) R=(∃ j,ixN xs.length i=some j∧R (gup G a (.lst (xs.set j v)))):=by
  rw [pSet_ref gup_same]; simp only [gup_gup]
variable {cs:List String}
theorem pLen_tup {xs:List PV}:pBlt cs .len [.tup xs] G Q=Q (.int xs.length) G:=by
  refine propext ⟨fun h=>?_,fun q=>.inl ⟨_,rfl,q⟩⟩
  rcases h with ⟨ys,e,q⟩ | ⟨ys,e,q⟩ | ⟨z,e,_⟩ | ⟨ys,e,q⟩
  · cases e; exact q
  · cases e
  · cases e
  · cases e
theorem pLen_scr {xs:List Int}:pBlt cs .len [.scr xs] G Q=Q (.int xs.length) G:=by
  refine propext ⟨fun h=>?_,fun q=>.inr (.inl ⟨_,rfl,q⟩)⟩
  rcases h with ⟨ys,e,q⟩ | ⟨ys,e,q⟩ | ⟨z,e,_⟩ | ⟨ys,e,q⟩
  · cases e
  · cases e; exact q
  · cases e
  · cases e
theorem pLen_lst {xs:List PV}:pBlt cs .len [.lst xs] G Q=Q (.int xs.length) G:=by
  refine propext ⟨fun h=>?_,fun q=>.inr (.inr (.inr ⟨_,rfl,q⟩))⟩
  rcases h with ⟨ys,e,q⟩ | ⟨ys,e,q⟩ | ⟨z,e,_⟩ | ⟨ys,e,q⟩
  · cases e
  · cases e
  · cases e
  · cases e; exact q
theorem pAbs_int:pBlt cs .abs [.int i] G Q=Q (.int (i.natAbs:Int)) G:=rfl
theorem pMax_int:pBlt cs .max [.int i,.int j] G Q=Q (.int (max i j)) G:=rfl
theorem pMin_int:pBlt cs .min [.int i,.int j] G Q=Q (.int (min i j)) G:=rfl
theorem pInt_int:pBlt cs .int [.int i] G Q=Q (.int i) G:=rfl
theorem pInt_bl:pBlt cs .int [.bl b] G Q=Q (.int (if b then 1 else 0)) G:=rfl
theorem pIsi_ty {n T:String} (h:bNam x G=some n):pBlt cs .isi [x,.ty T] G Q=(T∈okTs∧Q (.bl (isTy n T)) G):=propext
  ⟨fun ⟨hT,h'⟩=>⟨hT,by
    rcases h' with ⟨m,e,q⟩ | ⟨c,e,_,q⟩
    · rw [h] at e; cases e; exact q
    · exfalso; cases x <;> first | (cases e; done) | skip
      · cases h
      · unfold bNam at h; unfold cNam at e; dsimp only at h e
        split at h
        · rename_i q; rw [q] at e; cases e
        · cases h⟩,fun ⟨hT,q⟩=>⟨hT,.inl ⟨n,h,q⟩⟩⟩
theorem bNam_int:bNam (.int i) G=some "int":=rfl
theorem bNam_bl:bNam (.bl b) G=some "bool":=rfl
theorem bNam_str:bNam (.str s) G=some "str":=rfl
theorem bNam_non:bNam .non G=some "NoneType":=rfl
theorem bNam_tup {xs:List PV}:bNam (.tup xs) G=some "tuple":=rfl
theorem bNam_lst {xs:List PV}:bNam (.lst xs) G=some "list":=rfl
theorem pIsi_int {T:String}:pBlt cs .isi [.int i,.ty T] G Q=(T∈okTs∧Q (.bl (isTy "int" T)) G):=pIsi_ty rfl
theorem pIsi_tup {T:String} {xs:List PV}:pBlt cs .isi [.tup xs,.ty T] G Q=(T∈okTs∧Q (.bl (isTy "tuple" T)) G):=pIsi_ty rfl
theorem pIsi_ob {c:String} {ns:List Str} {xs:List PV}:pBlt cs .isi [.ob c ns xs,.cl c] G Q=(c∈cs∧Q (.bl true) G):=propext
  ⟨fun ⟨hc,h'⟩=>⟨hc,by
    rcases h' with ⟨m,e,q⟩ | ⟨c',e,_,q⟩
    · cases e
    · cases e; rw [decide_eq_true rfl] at q; exact q⟩,fun ⟨hc,q⟩=>⟨hc,.inr ⟨c,rfl,hc,by rw [decide_eq_true rfl]; exact q⟩⟩⟩
theorem pTup_lst {xs:List PV}:pBlt cs .tuple [.lst xs] G Q=Q (.tup xs) G:=propext
  ⟨fun h=>by
    rcases h with ⟨ys,e,q⟩ | ⟨ys,e,q⟩
    · cases e
    · cases e; exact q,fun q=>.inr ⟨_,rfl,q⟩⟩
theorem pTup_ref {xs:List PV} (h:G a=some (.lst xs)):pBlt cs .tuple [.ref a] G Q=Q (.tup xs) G:=propext
  ⟨fun h'=>by
    rcases h' with ⟨ys,e,q⟩ | ⟨ys,e,q⟩
    · cases e
    · rw [lstOf_ref h] at e; cases e; exact q,fun q=>.inr ⟨_,lstOf_ref h,q⟩⟩
theorem pTup_gup {xs:List PV}:pBlt cs .tuple [.ref a] (gup G a (.lst xs)) Q=Q (.tup xs) (gup G a (.lst xs)):=pTup_ref gup_same
theorem pAll_lst {xs:List PV}:pBlt cs .all [.lst xs] G Q=(∃ b,allP xs=some b∧Q (.bl b) G):=propext
  ⟨fun ⟨_,b,e,eb,q⟩=>by cases e; exact ⟨b,eb,q⟩,fun ⟨b,eb,q⟩=>⟨_,b,rfl,eb,q⟩⟩
theorem gupL_t {xs:List PV}:gupL true G xs Q= ∀ p,G p=none→Q (.ref p) (gup G p (.lst xs)):=rfl
theorem gupL_f {xs:List PV}:gupL false G xs Q=Q (.lst xs) G:=rfl
theorem seqI_tup {xs:List PV} {R:(Gh→Prop)→List PV→Gh→Prop}:seqI (.tup xs) G R=R (fun _=>True) xs G:=rfl
theorem seqI_lst {xs:List PV} {R:(Gh→Prop)→List PV→Gh→Prop}:seqI (.lst xs) G R=R (fun _=>True) xs G:=rfl
theorem seqI_scr {xs:List Int} {R:(Gh→Prop)→List PV→Gh→Prop}:seqI (.scr xs) G R=R (fun _=>True) (xs.map .int) G:=rfl
theorem bl_eq {k:Bool} {R:Bool→Prop}:(∃ c,PV.bl k=PV.bl c∧R c)=R k:=propext ⟨fun ⟨_,e,r⟩=>by cases e; exact r,fun r=>⟨k,rfl,r⟩⟩
theorem tup_eq {k:List PV} {R:List PV→Prop}:(∃ c,PV.tup k=PV.tup c∧R c)=R k:=propext ⟨fun ⟨_,e,r⟩=>by cases e; exact r,fun r=>⟨k,rfl,r⟩⟩
theorem cons_eq {x:PV} {xs:List PV} {R:PV→List PV→Prop}:(∃ y ys,x :: xs=y :: ys∧R y ys)=R x xs:=propext ⟨fun ⟨_,_,e,r⟩=>by cases e; exact r,fun r=>⟨_,_,rfl,r⟩⟩
theorem var_eq {v:PV} {R:PV→Prop}:(∃ c,some (some v)=some (some c)∧R c)=R v:=propext ⟨fun ⟨_,e,r⟩=>by cases e; exact r,fun r=>⟨v,rfl,r⟩⟩
theorem some_eq {α:Type} {v:α} {R:α→Prop}:(∃ c,some v=some c∧R c)=R v:=propext ⟨fun ⟨_,e,r⟩=>by cases e; exact r,fun r=>⟨v,rfl,r⟩⟩
end
theorem at0 {α:Type} {x:α} {xs:List α}:atI (x :: xs) 0=some x:=atI_nat (xs:=x :: xs) (j:=0) rfl
theorem at1 {α:Type} {x y:α} {xs:List α}:atI (x :: y :: xs) 1=some y:=atI_nat (xs:=x :: y :: xs) (j:=1) rfl
theorem at2 {α:Type} {x y z:α} {xs:List α}:atI (x :: y :: z :: xs) 2=some z:=atI_nat (xs:=x :: y :: z :: xs) (j:=2) rfl
theorem at3 {α:Type} {x y z u:α} {xs:List α}:atI (x :: y :: z :: u :: xs) 3=some u:=atI_nat (xs:=x :: y :: z :: u :: xs) (j:=3) rfl
theorem at4 {α:Type} {x y z u v:α} {xs:List α}:atI (x :: y :: z :: u :: v :: xs) 4=some v:=atI_nat (xs:=x :: y :: z :: u :: v :: xs) (j:=4) rfl
theorem endP_rt {Q:PK1}:(endP Q).rt=Wk Q:=rfl
theorem endP_nx {Q:PK1} {σ:PSt} {G:Gh}:(endP Q).nx σ G=Wk Q .non G:=rfl
theorem mem_ty:("int"∈okTs)=True∧("bool"∈okTs)=True∧("tuple"∈okTs)=True∧("str"∈okTs)=True∧("list"∈okTs)=True:=⟨eq_true (by decide),eq_true (by decide),eq_true (by decide),eq_true (by decide),eq_true (by decide)⟩
theorem isTy_1:isTy "int" "int"=true:=by decide
theorem isTy_2:isTy "int" "bool"=false:=by decide
theorem isTy_3:isTy "tuple" "tuple"=true:=by decide
theorem sz2:(2:Nat)≤sizeLine:=by decide
theorem sz1:(1:Nat)≤sizeLine:=by decide
theorem sz3:(3:Nat)≤sizeLine:=by decide
theorem szN {n:Nat} (h:n≤1000):n≤sizeLine:=Nat.le_trans h (by decide)
end L3
namespace L3
open PySem PySem.Spec
open PyProof.Rows hiding St
open L2
noncomputable def FQ (q:Rat):PV:=.tup [.int q.num,.int (q.den:Int)]
noncomputable def spWhole:Sp3:=fun xs G Q=>∃ i,xs=[.int i]∧Q (.bl true) G
noncomputable def spCommon:Sp3:=fun xs G Q=>∃ i j:Int,xs=[.int i,.int j]∧0≤i∧0≤j∧Q (.int (Int.gcd i j)) G
noncomputable def spIsFrac:Sp3:=fun xs G Q=>∃ q,xs=[FQ q]∧Q (.bl true) G
noncomputable def spLowest:Sp3:=fun xs G Q=>∃ t b:Int,xs=[.int t,.int b]∧b≠0∧Sm 9000 b∧Q (FQ (Rat.divInt t b)) G
noncomputable def Bd (n:Nat) (q:Rat):Prop:=Sm n q.num∧Sm n (q.den:Int)
theorem Bd.mono {n m:Nat} {q:Rat} (h:Bd n q) (e:n≤m):Bd m q:=⟨h.1.mono e,h.2.mono e⟩
theorem gcd_pos' {t b:Int} (hb:b≠0):0 < b.gcd t:=Int.gcd_pos_of_ne_zero_left _ hb
theorem Bd.divInt {n:Nat} {t b:Int} (ht:Sm n t) (hb:Sm n b) (h0:b≠0):Bd n (Rat.divInt t b):=by
  have gp:(0:Int) < (b.gcd t:Int):=by have:=gcd_pos' (t:=t) h0; omega
  constructor
  · rw [Rat.num_divInt]
    have e:Sm n (b.sign * t):=by
      rcases Int.lt_trichotomy b 0 with z | z | z
      · rw [Int.sign_eq_neg_one_of_neg z,Int.neg_one_mul]; exact ht.neg
      · exact absurd z h0
      · rw [Int.sign_eq_one_of_pos z,Int.one_mul]; exact ht
    exact e.div gp
  · rw [Rat.den_divInt,if_neg h0]
    have e:Sm n ((b.natAbs:Int)):=by unfold Sm at *; omega
    have:=e.div gp
    rw [Int.natCast_ediv]
    exact this
theorem FQ_low {t b:Int} (hb:0 < b):FQ (Rat.divInt t b)= .tup [.int (t / (Int.gcd t b:Int)),.int (b / (Int.gcd t b:Int))]:=by
  unfold FQ
  rw [Rat.num_divInt,Rat.den_divInt,if_neg (by omega),Int.sign_eq_one_of_pos hb,Int.one_mul,Int.gcd_comm,Int.natCast_ediv]
  have:(b.natAbs:Int)=b:=by omega
  rw [this]
theorem q_add (a b:Rat):Rat.divInt (a.num * (b.den:Int) + b.num * (a.den:Int)) ((a.den:Int) * (b.den:Int))=a + b:=by
  rw [Rat.add_def',←Rat.divInt_ofNat,Int.natCast_mul]
theorem q_sub (a b:Rat):Rat.divInt (a.num * (b.den:Int) - b.num * (a.den:Int)) ((a.den:Int) * (b.den:Int))=a - b:=by
  rw [Rat.sub_def',←Rat.divInt_ofNat,Int.natCast_mul]
theorem q_mul (a b:Rat):Rat.divInt (a.num * b.num) ((a.den:Int) * (b.den:Int))=a * b:=by
  rw [Rat.mul_def',←Rat.divInt_ofNat,Int.natCast_mul]
theorem q_div (a b:Rat):Rat.divInt (a.num * (b.den:Int)) ((a.den:Int) * b.num)=a / b:=by
  rw [Rat.div_def,Rat.inv_def]
  conv=>rhs; rw [←Rat.num_divInt_den a]
  rw [Rat.divInt_mul_divInt]
theorem den_ne {q:Rat}:(q.den:Int)≠0:=by have:=q.den_pos; omega
theorem den_pos' {q:Rat}:(0:Int) < q.den:=by have:=q.den_pos; omega
theorem mul_ne {a b:Int} (ha:a≠0) (hb:b≠0):a * b≠0:=Int.mul_ne_zero ha hb
theorem Bd.add {n m l:Nat} {a b:Rat} (ha:Bd n a) (hb:Bd m b) (e:n + m + 1≤l):Bd l (a + b):=by
  rw [←q_add]
  refine Bd.divInt ?_ ?_ (mul_ne den_ne den_ne)
  · exact ((ha.1.mul hb.2)).add ((hb.1.mul ha.2).mono (by omega)) e
  · exact (ha.2.mul hb.2).mono (by omega)
theorem Bd.sub {n m l:Nat} {a b:Rat} (ha:Bd n a) (hb:Bd m b) (e:n + m + 1≤l):Bd l (a - b):=by
  rw [←q_sub]
  refine Bd.divInt ?_ ?_ (mul_ne den_ne den_ne)
  · exact ((ha.1.mul hb.2)).sub ((hb.1.mul ha.2).mono (by omega)) e
  · exact (ha.2.mul hb.2).mono (by omega)
theorem Bd.mul {n m l:Nat} {a b:Rat} (ha:Bd n a) (hb:Bd m b) (e:n + m≤l):Bd l (a * b):=by
  rw [←q_mul]
  exact Bd.divInt ((ha.1.mul hb.1).mono e) ((ha.2.mul hb.2).mono e) (mul_ne den_ne den_ne)
theorem Bd.dv {n m l:Nat} {a b:Rat} (ha:Bd n a) (hb:Bd m b) (h0:b≠0) (e:n + m≤l):Bd l (a / b):=by
  rw [←q_div]
  exact Bd.divInt ((ha.1.mul hb.2).mono e) ((ha.2.mul hb.1).mono e) (mul_ne den_ne (fun z=>h0 (Rat.num_eq_zero.mp z)))
theorem Bd.int {n:Nat} {i:Int} (h:Sm n i) (e:1≤n):Bd n (i:Rat):=⟨h,by
  show Sm n ((1:Nat):Int)
  unfold Sm
  have:2 ^ 1≤2 ^ n:=Nat.pow_le_pow_right (by decide) e
  show 1 < 2 ^ n
  omega⟩
theorem FQ_int {i:Int}:PV.tup [.int i,.int 1]=FQ (i:Rat):=rfl
theorem smK {x:Int} {n:Nat} (a: -1000000000000≤x) (b:x < 1000000000000) (e:41≤n):Sm n x:=by
  have:Sm 41 x:=by unfold Sm; omega
  exact this.mono e
noncomputable def spNeedF:Sp3:=fun xs G Q=>∃ qs:List Rat,xs=[.tup (qs.map FQ)]∧qs.length≤2∧Q .non G
noncomputable def spPlus:Sp3:=fun xs G Q=>∃ a b,xs=[FQ a,FQ b]∧Bd 4000 a∧Bd 4000 b∧Q (FQ (a + b)) G
noncomputable def spMinus:Sp3:=fun xs G Q=>∃ a b,xs=[FQ a,FQ b]∧Bd 4000 a∧Bd 4000 b∧Q (FQ (a - b)) G
noncomputable def spTimes:Sp3:=fun xs G Q=>∃ a b,xs=[FQ a,FQ b]∧Bd 4000 a∧Bd 4000 b∧Q (FQ (a * b)) G
noncomputable def spOver:Sp3:=fun xs G Q=>∃ a b,xs=[FQ a,FQ b]∧Bd 4000 a∧Bd 4000 b∧b≠0∧Q (FQ (a / b)) G
noncomputable def spBelow:Sp3:=fun xs G Q=>∃ a b,xs=[FQ a,FQ b]∧Bd 4000 a∧Bd 4000 b∧Q (.bl (decide (a < b))) G
noncomputable def nw (q:Rat):Int:=(2 * q.num + (q.den:Int)) / (2 * (q.den:Int))
noncomputable def spNear:Sp3:=fun xs G Q=>∃ a,xs=[FQ a]∧Bd 8900 a∧Q (.int (nw a)) G
noncomputable def spIsShare:Sp3:=fun xs G Q=>∃ a,xs=[FQ a]∧0≤a∧a≤1∧Q (.bl true) G
noncomputable def SH (a b c:Rat):PV:=.ob "Shade" ["ember","leaf","sky"] [FQ a,FQ b,FQ c]
noncomputable def In1 (a:Rat):Prop:=0≤a∧a≤1
noncomputable def spShade:Sp3:=fun xs G Q=>∃ a b c,xs=[FQ a,FQ b,FQ c]∧In1 a∧In1 b∧In1 c∧Q (SH a b c) G
noncomputable def spShadeI:Sp3:=fun xs G Q=>∃ p a b c,xs=[.ref p,FQ a,FQ b,FQ c]∧G p=some (.ins "Shade" [] [])∧In1 a∧In1 b∧In1 c∧Q .non (gup G p (.ins "Shade" ["ember","leaf","sky"] [FQ a,FQ b,FQ c]))
noncomputable def spIsShade:Sp3:=fun xs G Q=>∃ a b c,xs=[SH a b c]∧Q (.bl true) G
noncomputable def spNeedS:Sp3:=fun xs G Q=>∃ a b c,xs=[SH a b c]∧Q .non G
noncomputable def spSharesOf:Sp3:=fun xs G Q=>∃ a b c,xs=[SH a b c]∧Q (.tup [FQ a,FQ b,FQ c]) G
noncomputable def spShadeOf:Sp3:=fun xs G Q=>∃ x a b c,xs=[x]∧lstOf G x=some [FQ a,FQ b,FQ c]∧In1 a∧In1 b∧In1 c∧Q (SH a b c) G
noncomputable def spNeedGr:Sp3:=fun xs G Q=>∃ g:Int,xs=[.int g]∧1≤g∧g≤1000∧Q .non G
noncomputable def spIsGr:Sp3:=fun xs G Q=>∃ g:Int,xs=[.int g]∧1≤g∧g≤1000∧Q (.bl true) G
noncomputable def spIsStep:Sp3:=fun xs G Q=>∃ s g:Int,xs=[.int s,.int g]∧0≤s∧s≤g∧Q (.bl true) G
noncomputable def spNeedStep:Sp3:=fun xs G Q=>∃ s g:Int,xs=[.int s,.int g]∧0≤s∧s≤g∧Q .non G
noncomputable def stp (a:Rat) (g:Int):PV:=.int (nw (a * (g:Rat)))
noncomputable def spPrinted:Sp3:=fun xs G Q=>∃ a b c g,xs=[SH a b c,.int g]∧1≤g∧g≤1000∧Bd 3000 a∧Bd 3000 b∧Bd 3000 c∧Q (.tup [stp a g,stp b g,stp c g]) G
noncomputable def spanLo (s g:Int):Rat:=Rat.divInt (max (2 * s - 1) 0) (2 * g)
noncomputable def spanHi (s g:Int):Rat:=if s=g then 1 else Rat.divInt (2 * s + 1) (2 * g)
noncomputable def spSpan:Sp3:=fun xs G Q=>∃ s g:Int,xs=[.int s,.int g]∧1≤g∧g≤1000∧0≤s∧s≤g∧Q (.tup [FQ (spanLo s g),FQ (spanHi s g),.bl (decide (s=g))]) G
structure PT (T:Tb):Prop where
  is_whole:T.S "is_whole"=spWhole
  common:T.S "common"=spCommon
  is_fraction:T.S "is_fraction"=spIsFrac
  lowest:T.S "lowest"=spLowest
  need_fractions:T.S "need_fractions"=spNeedF
  plus:T.S "plus"=spPlus
  minus:T.S "minus"=spMinus
  times:T.S "times"=spTimes
  over:T.S "over"=spOver
  below:T.S "below"=spBelow
  nearest_whole:T.S "nearest_whole"=spNear
  is_share:T.S "is_share"=spIsShare
  shade:T.S "Shade"=spShade
  shadeI:T.S "Shade.__init__"=spShadeI
  is_shade:T.S "is_shade"=spIsShade
  need_shade:T.S "need_shade"=spNeedS
  shares_of:T.S "shares_of"=spSharesOf
  shade_of:T.S "shade_of"=spShadeOf
  is_grade:T.S "is_grade"=spIsGr
  need_grade:T.S "need_grade"=spNeedGr
  is_step:T.S "is_step"=spIsStep
  need_step:T.S "need_step"=spNeedStep
  printed:T.S "printed"=spPrinted
  span_of:T.S "span_of"=spSpan
  gv_ONE:T.gv "ONE"=FQ 1
  gv_ZERO:T.gv "ZERO"=FQ 0
  gv_MOST_GRADE:T.gv "MOST_GRADE"= .int 1000
  gv_Shade:T.gv "Shade"= .cl "Shade"
  cs: "Shade"∈T.cs
  fl_e:("Shade",("ember":Str))∈T.fl
  fl_l:("Shade",("leaf":Str))∈T.fl
  fl_s:("Shade",("sky":Str))∈T.fl
  ty_int:T.gv "int"= .ty "int"
  ty_bool:T.gv "bool"= .ty "bool"
  ty_tuple:T.gv "tuple"= .ty "tuple"
theorem FQ_len {q:Rat} {G:Gh} {Q:PK1} {cs:List String}:pBlt cs .len [FQ q] G Q=Q (.int 2) G:=pLen_tup
theorem FQ_0 {q:Rat} {G:Gh} {Q:PK1}:pIdx (FQ q) (.int 0) G Q=Q (.int q.num) G:=by unfold FQ; rw [pIdx_tup,at0,some_eq]
theorem FQ_1 {q:Rat} {G:Gh} {Q:PK1}:pIdx (FQ q) (.int 1) G Q=Q (.int q.den) G:=by unfold FQ; rw [pIdx_tup,at1,some_eq]
theorem FQ_isi {q:Rat} {G:Gh} {Q:PK1} {cs:List String} {t:String}:pBlt cs .isi [FQ q,.ty t] G Q=(t∈okTs∧Q (.bl (isTy "tuple" t)) G):=pIsi_tup
theorem FQ_inj {a b:Rat}:(FQ a=FQ b)=(a=b):=propext ⟨fun h=>by
  unfold FQ at h
  injection h with h
  injection h with h1 h
  injection h with h2 _
  injection h1 with h1
  injection h2 with h2
  exact Rat.ext h1 (by omega),fun h=>by rw [h]⟩
theorem FQ_den {q:Rat}:(1:Int)≤q.den:=by have:=q.den_pos; omega
theorem FQ_red {q:Rat}:Int.gcd (q.num.natAbs:Int) (q.den:Int)=1:=q.reduced
theorem needF2 {G:Gh} {Q:PK1} {a b:Rat}:spNeedF [.tup [FQ a,FQ b]] G Q=Q .non G:=propext ⟨fun ⟨_,e,_,q⟩=>q,fun q=>⟨[a,b],rfl,by show 2≤2; decide,q⟩⟩
theorem forP_nil {chk:Gh→Prop} {g:PTG} {tb:PTS} {D:PEnds} {σ:PSt} {G:Gh}:forP chk g tb D [] σ G=(chk G∧D.nx σ G):=rfl
theorem forP_cons {chk:Gh→Prop} {g:PTG} {tb:PTS} {D:PEnds} {x:PV} {r:List PV} {σ:PSt} {G:Gh}:forP chk g tb D (x :: r) σ G=(chk G∧g x σ G fun σ2 G2=>tb { D with nx:=forP chk g tb D r,ct:=forP chk g tb D r,bk:=D.nx } σ2 G2):=rfl
theorem compP_nil {chk:Gh→Prop} {g:PTG} {ts:PTT} {te:PTE} {acc:List PV} {σ:PSt} {G:Gh} {Q:List PV→Gh→Prop}:compP chk g ts te [] acc σ G Q=(chk G∧Q acc G):=rfl
theorem compP_cons {chk:Gh→Prop} {g:PTG} {ts:PTT} {te:PTE} {x:PV} {r acc:List PV} {σ:PSt} {G:Gh} {Q:List PV→Gh→Prop}:compP chk g ts te (x :: r) acc σ G Q=(chk G∧g x σ G fun σ2 G2=>ts σ2 G2 fun ok G3=>if ok=true then te σ2 G3 fun y G4=>compP chk g ts te r (acc ++ [y]) σ2 G4 Q else compP chk g ts te r acc σ2 G3 Q):=rfl
theorem enu_1 {a:PV}:enuP [a]=[.tup [.int 0,a]]:=rfl
theorem enu_2 {a b:PV}:enuP [a,b]=[.tup [.int 0,a],.tup [.int 1,b]]:=rfl
theorem enu_3 {a b c:PV}:enuP [a,b,c]=[.tup [.int 0,a],.tup [.int 1,b],.tup [.int 2,c]]:=rfl
theorem rng_3:rngP 0 (3:Int).toNat=[.int 0,.int 1,.int 2]:=rfl
theorem rng_3b:rngP 0 3=[.int 0,.int 1,.int 2]:=rfl
theorem SH_inj {a b c a' b' c':Rat}:(SH a b c=SH a' b' c')=(a=a'∧b=b'∧c=c'):=propext ⟨fun h=>by
  unfold SH at h
  injection h with _ _ h
  injection h with h1 h
  injection h with h2 h
  injection h with h3 _
  rw [FQ_inj] at h1 h2 h3
  exact ⟨h1,h2,h3⟩,fun ⟨h1,h2,h3⟩=>by rw [h1,h2,h3]⟩
local macro_rules | `(tactic| walk_at "rd") => `(tactic| simp only [wpS, wpE, wpL, wpT, wpO, wpI, wpG, wpGs, endP, startP, List.map_cons, List.map_nil, List.length_cons, List.length_nil, List.cons_append, List.nil_append, List.append_nil, List.replicate, Nat.reduceAdd, Nat.reduceSub, Nat.zero_add,
  List.getElem?_cons_zero,List.getElem?_cons_succ,List.set_cons_zero,List.set_cons_succ,var_eq,some_eq,bl_eq,tup_eq,cons_eq,Option.some.injEq,exists_eq_left,exists_eq_left',true_and,and_true,exists_false,ite_self,false_and,and_false,or_false,false_or,
  pI_int,pBin_add,pBin_sub,pBin_mul,pBin_div,pBin_mod,pBin_pow,pAdd_int,pAdd_str,pAdd_lst,pAdd_tup,pCmp_lt,pCmp_le,pCmp_gt,pCmp_ge,pCmp_eq,pCmp_ne,pCmp_is,pCmp_isn,pEq_intF,pEq_intT,pTru_bl,pTru_non,pNeg_int,pIs_nonF,
  pIdx_tup,pIdx_scr,pIdx_lst,pIdx_gup,pSet_gup,pLen_tup,pLen_scr,pLen_lst,pAbs_int,pMax_int,pMin_int,pInt_int,pInt_bl,pIsi_int,pIsi_tup,pTup_lst,pTup_gup,pAll_lst,gupL_t,gupL_f,seqI_tup,seqI_lst,seqI_scr,
  mem_ty.1,mem_ty.2.1,mem_ty.2.2.1,isTy_1,isTy_2,isTy_3,at0,at1,at2,at3,at4,ixN_0,ixN_1,ixN_2,cast0,cast1,cast2,cast3,List.cons.injEq,PV.int.injEq,PV.bl.injEq,PV.str.injEq,PV.ref.injEq,PV.tup.injEq,and_assoc,exists_and_left,eq_self,FQ_0,FQ_1,FQ_len,FQ_isi,FQ_inj,spWhole,spCommon,spIsFrac,spLowest,needF2,exists_eq,exists_eq',forP_nil,forP_cons,compP_nil,compP_cons,enu_1,enu_2,enu_3,rng_3,rng_3b,SH_inj,capP,Option.getD_some,Option.getD_none,List.map,spPlus,spMinus,spTimes,spOver,spBelow,spNear,spIsShare,spShade,spIsShade,spNeedS,spSharesOf,spShadeOf,spNeedGr,spIsGr,spIsStep,spNeedStep,spPrinted,spSpan,Bool.not_true,Bool.not_false,Bool.and_self,Bool.and_true,Bool.true_and,if_true,if_false,ite_true,ite_false,Bool.false_eq_true,decide_eq_true_eq,decide_true,decide_false,reduceCtorEq,sz1,sz2,sz3,Wk.here, *])
section
variable {T:Tb}
noncomputable def code_is_whole:CS:=(.ret (.an (.blt .isi (.cons (.var 0) (.cons (.glo "int") .nil))) (.no (.blt .isi (.cons (.var 0) (.cons (.glo "bool") .nil))))))
theorem w_is_whole (h:PT T):∀ xs G Q,spWhole xs G Q→wpS T code_is_whole (endP Q) (startP 1 xs) G:=by
  rintro xs G Q ⟨i,rfl,q⟩
  unfold code_is_whole
  have:=h.ty_int
  have:=h.ty_bool
  walk_at "rd"
theorem gcd_step {x y:Int} (hx:0≤x) (hy:0 < y):Int.gcd y (x % y)=Int.gcd x y:=by
  rw [Int.gcd_comm x y]
  show y.natAbs.gcd (x % y).natAbs=y.natAbs.gcd x.natAbs
  have e:(x % y).natAbs=x.natAbs % y.natAbs:=by rw [Int.natAbs_emod_of_nonneg hx]
  rw [e,Nat.gcd_rec y.natAbs x.natAbs,Nat.gcd_comm]
noncomputable def code_common:CS:=(.seq (.wh (.tsb (.cmp .NotEq (.var 1) (.int 0))) (.par 0 1 (.var 1) (.bin .Mod (.var 0) (.var 1))))
  (.ret (.var 0)))
theorem w_common (h:PT T):∀ xs G Q,spCommon xs G Q→wpS T code_common (endP Q) (startP 2 xs) G:=by
  rintro xs G Q ⟨i,j,rfl,hi,hj,q⟩
  unfold code_common
  walk_at "rd"
  refine ⟨fun m σ H=>∃ x y,σ=[some (.int x),some (.int y)]∧H=G∧0≤x∧0≤y∧Int.gcd x y=Int.gcd i j∧m=y.toNat,⟨_,i,j,rfl,rfl,hi,hj,rfl,rfl⟩, ?_⟩
  rintro m σ H ⟨x,y,rfl,rfl,hx,hy,hg,rfl⟩
  walk_at "rd"
  split
  · rename_i hy0
    have hy0:y≠0:=by simpa using hy0
    have h2:=Int.emod_lt_of_pos x (show 0 < y by omega)
    have h3:=Int.emod_nonneg x (show y≠0 by omega)
    exact ⟨by show 0 < y; omega,(x % y).toNat,by omega,h3,(gcd_step hx (by omega)).trans hg,rfl⟩
  · rename_i hy0
    have e:y=0:=by simpa using hy0
    subst e
    have g:((Int.gcd x 0:Nat):Int)=x:=by rw [Int.gcd_zero_right]; omega
    refine Wk.here ?_
    rw [←g,hg]; exact q
noncomputable def code_is_fraction:CS:=(.seq (.iff (.oo (.no (.tst (.blt .isi (.cons (.var 0) (.cons (.glo "tuple") .nil))))) (.tsb (.cmp .NotEq (.blt .len (.cons (.var 0) .nil)) (.int 2)))) (.ret (.bl false)) .nil)
  (.seq (.asg (.gt 2 (.cons (.gn 1) (.cons (.gn 2) .nil))) (.var 0))
  (.ret (.an (.cal "is_whole" (.cons (.var 1) .nil)) (.an (.cal "is_whole" (.cons (.var 2) .nil)) (.an (.cmp .GtE (.var 2) (.int 1)) (.cmp .Eq (.cal "common" (.cons (.blt .abs (.cons (.var 1) .nil)) (.cons (.var 2) .nil))) (.int 1))))))))
theorem w_is_fraction (h:PT T):∀ xs G Q,spIsFrac xs G Q→wpS T code_is_fraction (endP Q) (startP 3 xs) G:=by
  rintro xs G Q ⟨q,rfl,hq⟩
  unfold code_is_fraction
  have:=h.ty_tuple
  have:=h.is_whole
  have:=h.common
  have h1:=FQ_den (q:=q)
  have h2:=FQ_red (q:=q)
  unfold FQ
  walk_at "rd"
  exact ⟨by omega,by omega⟩
noncomputable def code_lowest:CS:=(.seq (.iff (.tsb (.cmp .Lt (.var 1) (.int 0))) (.par 0 1 (.neg (.var 0)) (.neg (.var 1))) .nil)
  (.seq (.asg (.gn 2) (.cal "common" (.cons (.blt .abs (.cons (.var 0) .nil)) (.cons (.var 1) .nil))))
  (.ret (.tup (.cons (.bin .FloorDiv (.var 0) (.var 2)) (.cons (.bin .FloorDiv (.var 1) (.var 2)) .nil))))))
theorem gcd_nat (t b:Int):Int.gcd (t.natAbs:Int) b=Int.gcd t b:=by show (t.natAbs:Int).natAbs.gcd _=_; rw [Int.natAbs_natCast]; rfl
theorem low_div {t b:Int} (hb:0 < b) (sb:Sm 9000 b):CDivG t (Int.gcd t b:Int)∧CDivG b (Int.gcd t b:Int):=by
  have gp:(0:Int) < (Int.gcd t b:Int):=by have:=Int.gcd_pos_of_ne_zero_right t (show b≠0 by omega); omega
  have gl:(Int.gcd t b:Int)≤b:=Int.le_of_dvd hb (Int.gcd_dvd_right _ _)
  have sg:Sm 9000 (Int.gcd t b:Int):=sb.le (by omega) gl
  exact ⟨divB gp sg,divB gp sg⟩
theorem w_lowest (h:PT T):∀ xs G Q,spLowest xs G Q→wpS T code_lowest (endP Q) (startP 3 xs) G:=by
  rintro xs G Q ⟨t,b,rfl,h0,sb,hq⟩
  unfold code_lowest
  have:=h.common
  walk_at "rd"
  split
  · rename_i hb
    obtain ⟨d1,d2⟩:=low_div (t:= -t) (b:= -b) (by omega) sb.neg
    simp only [gcd_nat]
    refine ⟨by omega,by omega,d1,d2,Wk.here ?_⟩
    rw [←FQ_low (by omega),Rat.neg_divInt_neg]; exact hq
  · rename_i hb
    obtain ⟨d1,d2⟩:=low_div (t:=t) (b:=b) (by omega) sb
    simp only [gcd_nat]
    refine ⟨by omega,by omega,d1,d2,Wk.here ?_⟩
    rw [←FQ_low (by omega)]; exact hq
end
end L3
namespace L3
open PySem PySem.Spec
open PyProof.Rows hiding St
open L2
local macro_rules | `(tactic| walk_at "rd") => `(tactic| simp only [wpS, wpE, wpL, wpT, wpO, wpI, wpG, wpGs, endP, startP, List.map_cons, List.map_nil, List.length_cons, List.length_nil, List.cons_append, List.nil_append, List.append_nil, List.replicate, Nat.reduceAdd, Nat.reduceSub, Nat.zero_add,
  List.getElem?_cons_zero,List.getElem?_cons_succ,List.set_cons_zero,List.set_cons_succ,var_eq,some_eq,bl_eq,tup_eq,cons_eq,Option.some.injEq,exists_eq_left,exists_eq_left',true_and,and_true,exists_false,ite_self,false_and,and_false,or_false,false_or,
  pI_int,pBin_add,pBin_sub,pBin_mul,pBin_div,pBin_mod,pBin_pow,pAdd_int,pAdd_str,pAdd_lst,pAdd_tup,pCmp_lt,pCmp_le,pCmp_gt,pCmp_ge,pCmp_eq,pCmp_ne,pCmp_is,pCmp_isn,pEq_intF,pEq_intT,pTru_bl,pTru_non,pNeg_int,pIs_nonF,
  pIdx_tup,pIdx_scr,pIdx_lst,pIdx_gup,pSet_gup,pLen_tup,pLen_scr,pLen_lst,pAbs_int,pMax_int,pMin_int,pInt_int,pInt_bl,pIsi_int,pIsi_tup,pTup_lst,pTup_gup,pAll_lst,gupL_t,gupL_f,seqI_tup,seqI_lst,seqI_scr,
  mem_ty.1,mem_ty.2.1,mem_ty.2.2.1,isTy_1,isTy_2,isTy_3,at0,at1,at2,at3,at4,ixN_0,ixN_1,ixN_2,cast0,cast1,cast2,cast3,List.cons.injEq,PV.int.injEq,PV.bl.injEq,PV.str.injEq,PV.ref.injEq,PV.tup.injEq,and_assoc,exists_and_left,eq_self,FQ_0,FQ_1,FQ_len,FQ_isi,FQ_inj,spWhole,spCommon,spIsFrac,spLowest,needF2,exists_eq,exists_eq',forP_nil,forP_cons,compP_nil,compP_cons,enu_1,enu_2,enu_3,rng_3,rng_3b,SH_inj,capP,Option.getD_some,Option.getD_none,List.map,spPlus,spMinus,spTimes,spOver,spBelow,spNear,spIsShare,spShade,spIsShade,spNeedS,spSharesOf,spShadeOf,spNeedGr,spIsGr,spIsStep,spNeedStep,spPrinted,spSpan,Bool.not_true,Bool.not_false,Bool.and_self,Bool.and_true,Bool.true_and,if_true,if_false,ite_true,ite_false,Bool.false_eq_true,decide_eq_true_eq,decide_true,decide_false,reduceCtorEq,sz1,sz2,sz3,Wk.here, *])
section
variable {T:Tb}
noncomputable def code_need_fractions:CS:=(.fr (.gt 2 (.cons (.gn 1) (.cons (.gn 2) .nil))) (.ien (.var 0)) (.iff (.no (.tst (.cal "is_fraction" (.cons (.var 2) .nil)))) .nev .nil))
theorem w_need_fractions (h:PT T):∀ xs G Q,spNeedF xs G Q→wpS T code_need_fractions (endP Q) (startP 3 xs) G:=by
  rintro xs G Q ⟨qs,rfl,hl,hq⟩
  unfold code_need_fractions
  have:=h.is_fraction
  match qs,hl with
  | [],_=>simp only [List.map_nil]; walk_at "rd"; exact ⟨trivial,Wk.here hq⟩
  | [a],_=>simp only [List.map_cons,List.map_nil]; walk_at "rd"
  | [a,b],_=>simp only [List.map_cons,List.map_nil]; walk_at "rd"
noncomputable def code_times:CS:=(.seq (.ex (.cal "need_fractions" (.cons (.tup (.cons (.var 0) (.cons (.var 1) .nil))) .nil)))
  (.ret (.cal "lowest" (.cons (.bin .Mult (.idx (.var 0) (.int 0)) (.idx (.var 1) (.int 0))) (.cons (.bin .Mult (.idx (.var 0) (.int 1)) (.idx (.var 1) (.int 1))) .nil)))))
theorem den2 {a b:Rat} (ha:Bd 4000 a) (hb:Bd 4000 b):Sm 9000 ((a.den:Int) * (b.den:Int)):=(ha.2.mul hb.2).mono (by decide)
theorem w_times (h:PT T):∀ xs G Q,spTimes xs G Q→wpS T code_times (endP Q) (startP 2 xs) G:=by
  rintro xs G Q ⟨a,b,rfl,ha,hb,hq⟩
  unfold code_times
  have:=h.need_fractions
  have:=h.lowest
  walk_at "rd"
  refine ⟨mulB ha.1 hb.1,mulB ha.2 hb.2,mul_ne den_ne den_ne,den2 ha hb,Wk.here ?_⟩
  rw [q_mul]; exact hq
noncomputable def code_plus:CS:=(.seq (.ex (.cal "need_fractions" (.cons (.tup (.cons (.var 0) (.cons (.var 1) .nil))) .nil)))
  (.ret (.cal "lowest" (.cons (.bin .Add (.bin .Mult (.idx (.var 0) (.int 0)) (.idx (.var 1) (.int 1))) (.bin .Mult (.idx (.var 1) (.int 0)) (.idx (.var 0) (.int 1)))) (.cons (.bin .Mult (.idx (.var 0) (.int 1)) (.idx (.var 1) (.int 1))) .nil)))))
theorem w_plus (h:PT T):∀ xs G Q,spPlus xs G Q→wpS T code_plus (endP Q) (startP 2 xs) G:=by
  rintro xs G Q ⟨a,b,rfl,ha,hb,hq⟩
  unfold code_plus
  have:=h.need_fractions
  have:=h.lowest
  walk_at "rd"
  refine ⟨mulB ha.1 hb.2,mulB hb.1 ha.2,mulB ha.2 hb.2,mul_ne den_ne den_ne,den2 ha hb,Wk.here ?_⟩
  rw [q_add]; exact hq
noncomputable def code_minus:CS:=(.seq (.ex (.cal "need_fractions" (.cons (.tup (.cons (.var 0) (.cons (.var 1) .nil))) .nil)))
  (.ret (.cal "lowest" (.cons (.bin .Sub (.bin .Mult (.idx (.var 0) (.int 0)) (.idx (.var 1) (.int 1))) (.bin .Mult (.idx (.var 1) (.int 0)) (.idx (.var 0) (.int 1)))) (.cons (.bin .Mult (.idx (.var 0) (.int 1)) (.idx (.var 1) (.int 1))) .nil)))))
theorem w_minus (h:PT T):∀ xs G Q,spMinus xs G Q→wpS T code_minus (endP Q) (startP 2 xs) G:=by
  rintro xs G Q ⟨a,b,rfl,ha,hb,hq⟩
  unfold code_minus
  have:=h.need_fractions
  have:=h.lowest
  walk_at "rd"
  refine ⟨mulB ha.1 hb.2,mulB hb.1 ha.2,mulB ha.2 hb.2,mul_ne den_ne den_ne,den2 ha hb,Wk.here ?_⟩
  rw [q_sub]; exact hq
noncomputable def code_is_share:CS:=(.ret (.an (.cal "is_fraction" (.cons (.var 0) .nil)) (.chn .LtE .LtE (.int 0) (.idx (.var 0) (.int 0)) (.idx (.var 0) (.int 1)))))
theorem num_nn {a:Rat} (h:0≤a):0≤a.num:=Rat.num_nonneg.mpr h
theorem num_le {a:Rat} (h:a≤1):a.num≤(a.den:Int):=by
  have:=(Rat.le_iff a 1).mp h
  simpa using this
theorem w_is_share (h:PT T):∀ xs G Q,spIsShare xs G Q→wpS T code_is_share (endP Q) (startP 1 xs) G:=by
  rintro xs G Q ⟨a,rfl,h0,h1,hq⟩
  unfold code_is_share
  have:=h.is_fraction
  have:=num_nn h0
  have:=num_le h1
  walk_at "rd"
noncomputable def code_is_shade:CS:=(.ret (.blt .isi (.cons (.var 0) (.cons (.glo "Shade") .nil))))
theorem SH_isi {a b c:Rat} {G:Gh} {Q:PK1} {cs:List String}:pBlt cs .isi [SH a b c,.cl "Shade"] G Q=("Shade"∈cs∧Q (.bl true) G):=pIsi_ob
theorem w_is_shade (h:PT T):∀ xs G Q,spIsShade xs G Q→wpS T code_is_shade (endP Q) (startP 1 xs) G:=by
  rintro xs G Q ⟨a,b,c,rfl,hq⟩
  unfold code_is_shade
  have:=h.gv_Shade
  have:=h.cs
  have:=@SH_isi
  walk_at "rd"
noncomputable def code_need_shade:CS:=(.iff (.no (.tst (.cal "is_shade" (.cons (.var 0) .nil)))) .nev .nil)
theorem w_need_shade (h:PT T):∀ xs G Q,spNeedS xs G Q→wpS T code_need_shade (endP Q) (startP 1 xs) G:=by
  rintro xs G Q ⟨a,b,c,rfl,hq⟩
  unfold code_need_shade
  have:=h.is_shade
  walk_at "rd"
noncomputable def code_shares_of:CS:=(.seq (.ex (.cal "need_shade" (.cons (.var 0) .nil)))
  (.ret (.tup (.cons (.att (.var 0) "ember") (.cons (.att (.var 0) "leaf") (.cons (.att (.var 0) "sky") .nil))))))
theorem pAtt_ob {c:String} {ns:List Str} {xs:List PV} {f:Str} {v:PV} {G:Gh} {Q:PK1} (hf:(c,f)∈T.fl) (hl:(ns.zip xs).lookup f=some v):pAtt T (.ob c ns xs) f G Q=Q v G:=by
  refine propext ⟨fun h=>?_,fun q=>⟨_,_,_,_,.inl rfl,hf,hl,q⟩⟩
  obtain ⟨c',ns',xs',v',e,_,l,q⟩:=h
  rcases e with e | ⟨_,e,_⟩
  · cases e
    rw [hl] at l
    cases l
    exact q
  · cases e
theorem SH_e (h:PT T) {a b c:Rat} {G:Gh} {Q:PK1}:pAtt T (SH a b c) "ember" G Q=Q (FQ a) G:=pAtt_ob h.fl_e rfl
theorem SH_l (h:PT T) {a b c:Rat} {G:Gh} {Q:PK1}:pAtt T (SH a b c) "leaf" G Q=Q (FQ b) G:=pAtt_ob h.fl_l rfl
theorem SH_s (h:PT T) {a b c:Rat} {G:Gh} {Q:PK1}:pAtt T (SH a b c) "sky" G Q=Q (FQ c) G:=pAtt_ob h.fl_s rfl
theorem w_shares_of (h:PT T):∀ xs G Q,spSharesOf xs G Q→wpS T code_shares_of (endP Q) (startP 1 xs) G:=by
  rintro xs G Q ⟨a,b,c,rfl,hq⟩
  unfold code_shares_of
  have:=h.need_shade
  have e1:=@SH_e T h
  have e2:=@SH_l T h
  have e3:=@SH_s T h
  walk_at "rd"
noncomputable def code_Shade___init__:CS:=(.seq (.fr (.gt 2 (.cons (.gn 4) (.cons (.gn 5) .nil))) (.ien (.tup (.cons (.var 1) (.cons (.var 2) (.cons (.var 3) .nil))))) (.iff (.no (.tst (.cal "is_share" (.cons (.var 5) .nil)))) .nev .nil))
  (.seq (.fld (.var 0) "ember" (.var 1))
  (.seq (.fld (.var 0) "leaf" (.var 2))
  (.fld (.var 0) "sky" (.var 3)))))
theorem w_Shade___init__ (h:PT T):∀ xs G Q,spShadeI xs G Q→wpS T code_Shade___init__ (endP Q) (startP 6 xs) G:=by
  rintro xs G Q ⟨p,a,b,c,rfl,hp,⟨a1,a2⟩,⟨b1,b2⟩,⟨c1,c2⟩,hq⟩
  unfold code_Shade___init__
  have:=h.is_share
  walk_at "rd"
  refine ⟨"Shade",[],[],rfl,h.fl_e,by decide,"Shade",["ember"],[FQ a],gup_same,h.fl_l,by decide,"Shade",["ember","leaf"],[FQ a,FQ b],gup_same,h.fl_s,by decide, ?_⟩
  simp only [gup_gup]
  exact Wk.here hq
theorem mk_Shade (h:PT T):MkSp T "Shade" "Shade" "Shade.__init__":=by
  intro xs G Q q p hp
  rw [h.shade] at q
  rw [h.shadeI]
  obtain ⟨a,b,c,rfl,ha,hb,hc,q⟩:=q
  refine ⟨p,a,b,c,rfl,gup_same,ha,hb,hc,rfl,_,_,gup_same, ?_⟩
  rw [gup_gup,gdel_gup hp]
  exact q
end
end L3
namespace L3
open PySem PySem.Spec
open PyProof.Rows hiding St
open L2
noncomputable def PU (x y z:Int):GO:=.lst [.int x,.int y,.int z]
noncomputable def Pu (p:Addr) (G:Gh):Prop:= ∃ x y z,G p=some (PU x y z)
noncomputable def Pn (p:Addr) (G G':Gh):Prop:= ∃ x y z,G'=gup G p (PU x y z)
theorem Pn.pu {p:Addr} {G G':Gh} (h:Pn p G G'):Pu p G':=let ⟨x,y,z,e⟩:=h; ⟨x,y,z,by rw [e]; exact gup_same⟩
theorem Pn.ne {p q:Addr} {G G':Gh} (h:Pn p G G') (n:q≠p):G' q=G q:=let ⟨x,y,z,e⟩:=h; by rw [e]; exact gup_ne n
theorem Pn.trans {p:Addr} {G G1 G2:Gh} (a:Pn p G G1) (b:Pn p G1 G2):Pn p G G2:=let ⟨x,y,z,e⟩:=a; let ⟨x',y',z',e'⟩:=b; ⟨x',y',z',by rw [e',e,gup_gup]⟩
theorem Pu.ne {p q:Addr} {G:Gh} (h:Pu p G) (n:G q=none):q≠p:=fun e=>by subst e; obtain ⟨_,_,_,e⟩:=h; rw [n] at e; cases e
theorem Pu.new {p q:Addr} {G:Gh} {o:GO} (h:Pu p G) (n:G q=none):Pu p (gup G q o):=let ⟨x,y,z,e⟩:=h; ⟨x,y,z,by rw [gup_ne (Ne.symm (h.ne n))]; exact e⟩
theorem Pn.drop {p q:Addr} {G G1 G2:Gh} {o:GO} (h:Pn p (gup G q o) G1) (n:G q=none) (hp:Pu p G):∃ G',Pn p G G'∧∀ a u,G' a=some u→G1 a=some u:=by
  obtain ⟨x,y,z,e⟩:=h
  refine ⟨gup G p (PU x y z),⟨x,y,z,rfl⟩,fun a u q'=>?_⟩
  rw [e]
  by_cases ea:a=p
  · subst ea; rw [gup_same] at q' ⊢; exact q'
  · rw [gup_ne ea] at q' ⊢
    have:a≠q:=fun z=>by subst z; rw [n] at q'; cases q'
    rw [gup_ne this]; exact q'
noncomputable def spPick:Sp3:=fun xs G Q=>∃ p m,xs=[.ref p,.int m]∧Pu p G∧0 < m∧Sm 8000 m∧∀ r G',0≤r→r < m→Pn p G G'→Q (.int r) G'
noncomputable def spCell:Sp3:=fun xs G Q=>∃ (ns:List Int) (k:Int),xs=[.scr ns,.int k]∧0≤k∧k < 64∧∀ c,Q (.int c) G
noncomputable def spPurse:Sp3:=fun xs G Q=>∃ c:Int,xs=[.int c]∧∀ p x y z,G p=none→Q (.ref p) (gup G p (PU x y z))
noncomputable def spShareL:Sp3:=fun xs G Q=>∃ p,xs=[.ref p]∧Pu p G∧∀ q G',In1 q→Bd 12 q→Pn p G G'→Q (FQ q) G'
noncomputable def spSharesL:Sp3:=fun xs G Q=>∃ p,xs=[.ref p]∧Pu p G∧∀ a b c G',In1 a→In1 b→In1 c→Bd 12 a→Bd 12 b→Bd 12 c→Pn p G G'→Q (.tup [FQ a,FQ b,FQ c]) G'
noncomputable def spMade:Sp3:=fun xs G Q=>∃ p a b c,xs=[.ref p,.tup [FQ a,FQ b,FQ c]]∧Pu p G∧In1 a∧In1 b∧In1 c∧∀ G',Pn p G G'→Q (SH a b c) G'
noncomputable def spIsFracB:Sp3:=fun xs G Q=>∃ q,xs=[FQ q]∧Bd 8900 q∧Q (.bl true) G
structure LT (T:Tb):Prop where
  cell:T.S "_law_cell"=spCell
  purse:T.S "_law_purse"=spPurse
  pick:T.S "_law_pick"=spPick
  whole:T.S "_law_whole"=spWhole
  low:T.S "_law_low"=spLowest
  plus:T.S "_law_plus"=spPlus
  minus:T.S "_law_minus"=spMinus
  times:T.S "_law_times"=spTimes
  over:T.S "_law_over"=spOver
  below:T.S "_law_below"=spBelow
  is_fraction:T.S "_law_is_fraction"=spIsFracB
  share:T.S "_law_share"=spShareL
  shares:T.S "_law_shares"=spSharesL
structure LM (T:Tb):Prop where
  made:T.S "_law_made"=spMade
local macro_rules | `(tactic| walk_at "rd") => `(tactic| simp only [wpS, wpE, wpL, wpT, wpO, wpI, wpG, wpGs, endP, startP, List.map_cons, List.map_nil, List.length_cons, List.length_nil, List.cons_append, List.nil_append, List.append_nil, List.replicate, Nat.reduceAdd, Nat.reduceSub, Nat.zero_add,
  List.getElem?_cons_zero,List.getElem?_cons_succ,List.set_cons_zero,List.set_cons_succ,var_eq,some_eq,bl_eq,tup_eq,cons_eq,Option.some.injEq,exists_eq_left,exists_eq_left',true_and,and_true,exists_false,ite_self,false_and,and_false,or_false,false_or,
  pI_int,pBin_add,pBin_sub,pBin_mul,pBin_div,pBin_mod,pBin_pow,pAdd_int,pAdd_str,pAdd_lst,pAdd_tup,pCmp_lt,pCmp_le,pCmp_gt,pCmp_ge,pCmp_eq,pCmp_ne,pCmp_is,pCmp_isn,pEq_intF,pEq_intT,pTru_bl,pTru_non,pNeg_int,pIs_nonF,
  pIdx_tup,pIdx_scr,pIdx_lst,pIdx_gup,pSet_gup,pLen_tup,pLen_scr,pLen_lst,pAbs_int,pMax_int,pMin_int,pInt_int,pInt_bl,pIsi_int,pIsi_tup,pTup_lst,pTup_gup,pAll_lst,gupL_t,gupL_f,seqI_tup,seqI_lst,seqI_scr,
  mem_ty.1,mem_ty.2.1,mem_ty.2.2.1,isTy_1,isTy_2,isTy_3,at0,at1,at2,at3,at4,ixN_0,ixN_1,ixN_2,cast0,cast1,cast2,cast3,List.cons.injEq,PV.int.injEq,PV.bl.injEq,PV.str.injEq,PV.ref.injEq,PV.tup.injEq,and_assoc,exists_and_left,eq_self,FQ_0,FQ_1,FQ_len,FQ_isi,FQ_inj,spWhole,spCommon,spIsFrac,spLowest,needF2,exists_eq,exists_eq',forP_nil,forP_cons,compP_nil,compP_cons,enu_1,enu_2,enu_3,rng_3,rng_3b,SH_inj,capP,Option.getD_some,Option.getD_none,List.map,spPlus,spMinus,spTimes,spOver,spBelow,spNear,spIsShare,spShade,spIsShade,spNeedS,spSharesOf,spShadeOf,spNeedGr,spIsGr,spIsStep,spNeedStep,spPrinted,spSpan,Bool.not_true,Bool.not_false,Bool.and_self,Bool.and_true,Bool.true_and,if_true,if_false,ite_true,ite_false,Bool.false_eq_true,decide_eq_true_eq,decide_true,decide_false,reduceCtorEq,sz1,sz2,sz3,Wk.here, *])
section
variable {T:Tb}
noncomputable def code_l_whole:CS:=code_is_whole
theorem w_l_whole (h:PT T):∀ xs G Q,spWhole xs G Q→wpS T code_l_whole (endP Q) (startP 1 xs) G:=w_is_whole h
noncomputable def code_l_pick:CS:=(.seq (.sub (.var 0) (.int 2) (.bin .Add (.idx (.var 0) (.int 2)) (.int 1)))
  (.seq (.asg (.gn 2) (.bin .Mod (.idx (.var 0) (.int 0)) (.int 999999937)))
  (.seq (.sub (.var 0) (.int 0) (.bin .Add (.bin .Mult (.var 2) (.bin .Add (.bin .Mod (.var 2) (.int 50021)) (.int 20011))) (.bin .Mult (.int 90001) (.idx (.var 0) (.int 2)))))
  (.seq (.iff (.tsb (.cmp .Gt (.idx (.var 0) (.int 1)) (.int 0))) (.seq (.asg (.gn 3) (.bin .Mod (.idx (.var 0) (.int 1)) (.var 1)))
  (.seq (.sub (.var 0) (.int 1) (.bin .FloorDiv (.idx (.var 0) (.int 1)) (.var 1)))
  (.ret (.var 3)))) .nil)
  (.ret (.bin .Mod (.bin .FloorDiv (.bin .Mod (.idx (.var 0) (.int 0)) (.int 999999937)) (.int 16)) (.var 1)))))))
theorem gup_self {G:Gh} {p:Addr} {o:GO} (h:G p=some o):gup G p o=G:=by
  funext b; unfold gup; split
  · rename_i e; rw [e]; exact h.symm
  · rfl
theorem sm64 {x:Int} (a:0≤x) (b:x < 1000000000000):Sm 64 x:=by unfold Sm; omega
theorem w_l_pick:∀ xs G Q,spPick xs G Q→wpS T code_l_pick (endP Q) (startP 4 xs) G:=by
  rintro xs G Q ⟨p,m,rfl,⟨x,y,z,hp⟩,h0,h1,hq⟩
  unfold code_l_pick
  have e:G=gup G p (.lst [.int x,.int y,.int z]):=(gup_self hp).symm
  have fin:∀ r x' y' z',0≤r→r < m→Q (.int r) (gup G p (.lst [.int x',.int y',.int z'])):=fun r x' y' z' a b=>hq r _ a b ⟨x',y',z',rfl⟩
  generalize hG:gup G p (.lst [.int x,.int y,.int z])=G1 at e
  rw [←hG] at e
  rw [e]
  clear e hG
  walk_at "rd"
  refine ⟨by show (0:Int) < 999999937; decide,by show (0:Int) < 50021; decide,mulL (sm64 (Int.emod_nonneg _ (by decide)) (Int.lt_trans (Int.emod_lt_of_pos _ (by decide)) (by decide))),mulL (sm64 (by decide) (by decide)), ?_⟩
  split
  · exact ⟨h0,divB (k:=8000) h0 h1,Wk.here (fin _ _ _ _ (Int.emod_nonneg _ (by omega)) (Int.emod_lt_of_pos _ h0))⟩
  · exact ⟨by show (0:Int) < 999999937; decide,divB (k:=64) (by decide) (sm64 (by decide) (by decide)),h0,Wk.here (fin _ _ _ _ (Int.emod_nonneg _ (by omega)) (Int.emod_lt_of_pos _ h0))⟩
noncomputable def code_l_purse:CS:=(.ret (.lst true (.cons (.bin .Add (.bin .Mult (.bin .Mod (.var 0) (.int 999999937)) (.int 7001)) (.int 3301)) (.cons (.idx (.lst false (.cons (.int 0) (.cons (.var 0) .nil))) (.blt .int (.cons (.cmp .GtE (.var 0) (.bin .Pow (.int 10) (.int 18))) .nil))) (.cons (.int 0) .nil)))))
theorem w_l_purse:∀ xs G Q,spPurse xs G Q→wpS T code_l_purse (endP Q) (startP 1 xs) G:=by
  rintro xs G Q ⟨c,rfl,hq⟩
  unfold code_l_purse
  walk_at "rd"
  refine ⟨by show (0:Int) < 999999937; decide,mulR (sm64 (by decide) (by decide)),⟨by decide,by decide,by decide⟩, ?_⟩
  have e:∃ x,atI [PV.int 0,PV.int c] (if decide ((10:Int) ^ Int.toNat 18≤c)=true then 1 else 0)=some (.int x):=by
    split
    · exact ⟨_,at1⟩
    · exact ⟨_,at0⟩
  obtain ⟨x,e⟩:=e
  simp only [decide_eq_true_eq] at e
  refine ⟨_,e,fun p n=>Wk.here (hq p _ _ _ n)⟩
noncomputable def low_rest:CS:=(.seq (.par 2 3 (.blt .abs (.cons (.var 0) .nil)) (.var 1))
  (.seq (.wh (.tsb (.cmp .Gt (.var 3) (.int 0))) (.par 2 3 (.var 3) (.bin .Mod (.var 2) (.var 3))))
  (.ret (.tup (.cons (.bin .FloorDiv (.var 0) (.var 2)) (.cons (.bin .FloorDiv (.var 1) (.var 2)) .nil))))))
noncomputable def code_l_low:CS:=(.seq (.iff (.tsb (.cmp .Lt (.var 1) (.int 0))) (.par 0 1 (.bin .Sub (.int 0) (.var 0)) (.bin .Sub (.int 0) (.var 1))) .nil) low_rest)
theorem low_loop {t b:Int} {G:Gh} {Q:PK1} (hb:0 < b) (sb:Sm 9000 b) (hq:Q (FQ (Rat.divInt t b)) G) :
    wpS T low_rest (endP Q) [some (.int t),some (.int b),none,none] G:=by
  unfold low_rest
  walk_at "rd"
  refine ⟨fun m σ H=>∃ x y,σ=[some (.int t),some (.int b),some (.int x),some (.int y)]∧H=G∧0≤x∧0≤y∧Int.gcd x y=Int.gcd t b∧m=y.toNat,⟨_,_,_,rfl,rfl,by omega,by omega,gcd_nat t b,rfl⟩, ?_⟩
  rintro m σ H ⟨x,y,rfl,rfl,hx,hy,hg,rfl⟩
  walk_at "rd"
  split
  · rename_i hy0
    have h2:=Int.emod_lt_of_pos x (show 0 < y by omega)
    have h3:=Int.emod_nonneg x (show y≠0 by omega)
    exact ⟨by show 0 < y; omega,(x % y).toNat,by omega,h3,(gcd_step hx (by omega)).trans hg,rfl⟩
  · rename_i hy0
    have e:y=0:=by omega
    subst e
    have g:x=((Int.gcd t b:Nat):Int):=by rw [←hg,Int.gcd_zero_right]; omega
    obtain ⟨d1,d2⟩:=low_div (t:=t) (b:=b) hb sb
    subst g
    refine ⟨d1,d2,Wk.here ?_⟩
    rw [←FQ_low hb]; exact hq
theorem w_l_low:∀ xs G Q,spLowest xs G Q→wpS T code_l_low (endP Q) (startP 4 xs) G:=by
  rintro xs G Q ⟨t,b,rfl,h0,sb,hq⟩
  unfold code_l_low
  have e0:∀ x:Int,0 - x= -x:=fun x=>by omega
  walk_at "rd"
  split
  · rename_i hb
    refine low_loop (by omega) sb.neg ?_
    rw [Rat.neg_divInt_neg]; exact hq
  · rename_i hb
    exact low_loop (by omega) sb hq
noncomputable def code_l_plus:CS:=(.ret (.cal "_law_low" (.cons (.bin .Add (.bin .Mult (.idx (.var 0) (.int 0)) (.idx (.var 1) (.int 1))) (.bin .Mult (.idx (.var 1) (.int 0)) (.idx (.var 0) (.int 1)))) (.cons (.bin .Mult (.idx (.var 0) (.int 1)) (.idx (.var 1) (.int 1))) .nil))))
theorem w_l_plus (h:LT T):∀ xs G Q,spPlus xs G Q→wpS T code_l_plus (endP Q) (startP 2 xs) G:=by
  rintro xs G Q ⟨a,b,rfl,ha,hb,hq⟩
  unfold code_l_plus
  have:=h.low
  walk_at "rd"
  refine ⟨mulB ha.1 hb.2,mulB hb.1 ha.2,mulB ha.2 hb.2,mul_ne den_ne den_ne,den2 ha hb,Wk.here ?_⟩
  rw [q_add]; exact hq
noncomputable def code_l_minus:CS:=(.ret (.cal "_law_low" (.cons (.bin .Sub (.bin .Mult (.idx (.var 0) (.int 0)) (.idx (.var 1) (.int 1))) (.bin .Mult (.idx (.var 1) (.int 0)) (.idx (.var 0) (.int 1)))) (.cons (.bin .Mult (.idx (.var 0) (.int 1)) (.idx (.var 1) (.int 1))) .nil))))
theorem w_l_minus (h:LT T):∀ xs G Q,spMinus xs G Q→wpS T code_l_minus (endP Q) (startP 2 xs) G:=by
  rintro xs G Q ⟨a,b,rfl,ha,hb,hq⟩
  unfold code_l_minus
  have:=h.low
  walk_at "rd"
  refine ⟨mulB ha.1 hb.2,mulB hb.1 ha.2,mulB ha.2 hb.2,mul_ne den_ne den_ne,den2 ha hb,Wk.here ?_⟩
  rw [q_sub]; exact hq
noncomputable def code_l_times:CS:=(.ret (.cal "_law_low" (.cons (.bin .Mult (.idx (.var 0) (.int 0)) (.idx (.var 1) (.int 0))) (.cons (.bin .Mult (.idx (.var 0) (.int 1)) (.idx (.var 1) (.int 1))) .nil))))
theorem w_l_times (h:LT T):∀ xs G Q,spTimes xs G Q→wpS T code_l_times (endP Q) (startP 2 xs) G:=by
  rintro xs G Q ⟨a,b,rfl,ha,hb,hq⟩
  unfold code_l_times
  have:=h.low
  walk_at "rd"
  refine ⟨mulB ha.1 hb.1,mulB ha.2 hb.2,mul_ne den_ne den_ne,den2 ha hb,Wk.here ?_⟩
  rw [q_mul]; exact hq
noncomputable def code_l_is_fraction:CS:=(.seq (.iff (.oo (.no (.tst (.blt .isi (.cons (.var 0) (.cons (.glo "tuple") .nil))))) (.oo (.tsb (.cmp .NotEq (.blt .len (.cons (.var 0) .nil)) (.int 2))) (.oo (.no (.tst (.cal "_law_whole" (.cons (.idx (.var 0) (.int 0)) .nil)))) (.no (.tst (.cal "_law_whole" (.cons (.idx (.var 0) (.int 1)) .nil))))))) (.ret (.bl false)) .nil)
  (.ret (.an (.cmp .Gt (.idx (.var 0) (.int 1)) (.int 0)) (.cmp .Eq (.cal "_law_low" (.cons (.idx (.var 0) (.int 0)) (.cons (.idx (.var 0) (.int 1)) .nil))) (.var 0)))))
theorem shp_FQ {q:Rat}:shp (FQ q)=true:=rfl
theorem pur_FQ {G:Gh} {q:Rat}:pur G (FQ q)=FQ q:=rfl
theorem peq_FQ {a b:Rat}:peq (FQ a) (FQ b)=decide (a=b):=by
  have:peq (FQ a) (FQ b)=(a.num == b.num && ((a.den:Int) == (b.den:Int) && true)):=by unfold FQ; simp only [peq,peqs]
  rw [this,Bool.and_true,Bool.eq_iff_iff,Bool.and_eq_true,decide_eq_true_eq,beq_iff_eq,beq_iff_eq]
  exact ⟨fun ⟨x,y⟩=>Rat.ext x (by omega),fun e=>by rw [e]; exact ⟨rfl,rfl⟩⟩
theorem pEq_FQF {G:Gh} {Q:PK1} {a b:Rat}:pEq false (FQ a) (FQ b) G Q=Q (.bl (decide (a=b))) G:=by
  show (shp (pur G (FQ a))=true∧shp (pur G (FQ b))=true∧Q (.bl (peq (FQ a) (FQ b))) G)=_
  rw [pur_FQ,pur_FQ,shp_FQ,shp_FQ,peq_FQ]; simp
theorem w_l_is_fraction (hp:PT T) (h:LT T):∀ xs G Q,spIsFracB xs G Q→wpS T code_l_is_fraction (endP Q) (startP 1 xs) G:=by
  rintro xs G Q ⟨q,rfl,hb,hq⟩
  unfold code_l_is_fraction
  have:=hp.ty_tuple
  have:=h.whole
  have:=h.low
  have:=den_pos' (q:=q)
  have:=hb.2.mono (show 8900≤9000 by decide)
  have:=den_ne (q:=q)
  have:=Rat.num_divInt_den q
  have:=@pEq_FQF
  walk_at "rd"
  exact den_ne
end
end L3
namespace L3
open PySem PySem.Spec
open PyProof.Rows hiding St
open L2
local macro_rules | `(tactic| walk_at "rd") => `(tactic| simp only [wpS, wpE, wpL, wpT, wpO, wpI, wpG, wpGs, endP, startP, List.map_cons, List.map_nil, List.length_cons, List.length_nil, List.cons_append, List.nil_append, List.append_nil, List.replicate, Nat.reduceAdd, Nat.reduceSub, Nat.zero_add,
  List.getElem?_cons_zero,List.getElem?_cons_succ,List.set_cons_zero,List.set_cons_succ,var_eq,some_eq,bl_eq,tup_eq,cons_eq,Option.some.injEq,exists_eq_left,exists_eq_left',true_and,and_true,exists_false,ite_self,false_and,and_false,or_false,false_or,
  pI_int,pBin_add,pBin_sub,pBin_mul,pBin_div,pBin_mod,pBin_pow,pAdd_int,pAdd_str,pAdd_lst,pAdd_tup,pCmp_lt,pCmp_le,pCmp_gt,pCmp_ge,pCmp_eq,pCmp_ne,pCmp_is,pCmp_isn,pEq_intF,pEq_intT,pTru_bl,pTru_non,pNeg_int,pIs_nonF,
  pIdx_tup,pIdx_scr,pIdx_lst,pIdx_gup,pSet_gup,pLen_tup,pLen_scr,pLen_lst,pAbs_int,pMax_int,pMin_int,pInt_int,pInt_bl,pIsi_int,pIsi_tup,pTup_lst,pTup_gup,lstOf_lst,lstOf_gup,pAll_lst,gupL_t,gupL_f,seqI_tup,seqI_lst,seqI_scr,
  mem_ty.1,mem_ty.2.1,mem_ty.2.2.1,isTy_1,isTy_2,isTy_3,at0,at1,at2,at3,at4,ixN_0,ixN_1,ixN_2,cast0,cast1,cast2,cast3,List.cons.injEq,PV.int.injEq,PV.bl.injEq,PV.str.injEq,PV.ref.injEq,PV.tup.injEq,and_assoc,exists_and_left,eq_self,FQ_0,FQ_1,FQ_len,FQ_isi,FQ_inj,spWhole,spCommon,spIsFrac,spLowest,needF2,pEq_FQF,SH_isi,Int.reduceToNat,Int.reducePow,exists_eq,exists_eq',forP_nil,forP_cons,compP_nil,compP_cons,enu_1,enu_2,enu_3,rng_3,rng_3b,SH_inj,capP,Option.getD_some,Option.getD_none,List.map,spPlus,spMinus,spTimes,spOver,spBelow,spNear,spPick,spShareL,spSharesL,spMade,spCell,spPurse,spIsFracB,spIsShare,spShade,spIsShade,spNeedS,spSharesOf,spShadeOf,spNeedGr,spIsGr,spIsStep,spNeedStep,spPrinted,spSpan,Bool.not_true,Bool.not_false,Bool.and_self,Bool.and_true,Bool.true_and,if_true,if_false,ite_true,ite_false,Bool.false_eq_true,decide_eq_true_eq,decide_true,decide_false,reduceCtorEq,sz1,sz2,sz3,Wk.here, *])
section
variable {T:Tb}
noncomputable def code_l_cell:CS:=(.seq (.iff (.tsb (.cmp .Lt (.var 1) (.blt .len (.cons (.var 0) .nil)))) (.ret (.idx (.var 0) (.var 1))) .nil)
  (.seq (.asg (.gn 2) (.bin .Mod (.bin .Mult (.int 60013) (.bin .Add (.bin .Add (.bin .Mult (.var 1) (.var 1)) (.bin .Mult (.int 7) (.var 1))) (.int 3))) (.int 999999937)))
  (.seq (.fr (.gn 3) (.isq (.sli (.var 0) .nil (.tst (.int 4)))) (.asg (.gn 2) (.bin .Mod (.bin .Add (.bin .Mult (.var 2) (.int 30103)) (.var 3)) (.int 999999937))))
  (.ret (.var 2)))))
theorem forP_inv {g:PTG} {tb:PTS} {D:PEnds} (I:PSt→Gh→Prop):∀ {xs:List PV} {σ:PSt} {G:Gh},I σ G→(∀ x∈xs,∀ σ G R,I σ G→(∀ σ' G',I σ' G'→R σ' G')→g x σ G fun σ2 G2=>tb { D with nx:=R,ct:=R,bk:=D.nx } σ2 G2)→(∀ σ G,I σ G→D.nx σ G)→forP (fun _=>True) g tb D xs σ G
  | [],σ,G,h,_,hd=>⟨trivial,hd σ G h⟩
  | x :: r,σ,G,h,hs,hd=>⟨trivial,hs x (List.mem_cons_self ..) σ G _ h fun σ' G' h'=>forP_inv I h' (fun y hy=>hs y (List.mem_cons_of_mem _ hy)) hd⟩
theorem pSli_scr {ns:List Int} {lo hi:Option Int} {G:Gh} {Q:PK1}:pSli (.scr ns) lo hi G Q=Q (.lst (cutP (ns.map .int) lo hi)) G:=rfl
theorem pSli_lst {ns:List PV} {lo hi:Option Int} {G:Gh} {Q:PK1}:pSli (.lst ns) lo hi G Q=Q (.lst (cutP ns lo hi)) G:=propext ⟨fun ⟨_,e,q⟩=>by cases e; exact q,fun q=>⟨_,rfl,q⟩⟩
theorem w_l_cell:∀ xs G Q,spCell xs G Q→wpS T code_l_cell (endP Q) (startP 4 xs) G:=by
  rintro xs G Q ⟨ns,k,rfl,h0,h1,hq⟩
  unfold code_l_cell
  have:=@pSli_scr
  walk_at "rd"
  split
  · rename_i hk
    obtain ⟨j,rfl⟩:=Int.eq_ofNat_of_zero_le h0
    have hj:j < ns.length:=by omega
    exact ⟨ns[j],atI_nat (by simp [hj])⟩
  · have sk:Sm 64 k:=sm64 h0 (by omega)
    refine ⟨mulL sk,mulR sk,mulL (sm64 (by decide) (by decide)),by show (0:Int) < 999999937; decide, ?_⟩
    refine forP_inv (fun σ G'=>G'=G∧∃ st u,σ=[some (.scr ns),some (.int k),some (.int st),u]∧0≤st∧st < 999999937) ⟨rfl,_,_,rfl,Int.emod_nonneg _ (by decide),Int.emod_lt_of_pos _ (by decide)⟩ ?_ ?_
    · rintro x hx σ G' R ⟨rfl,st,u,rfl,a1,a2⟩ hR
      have hx':x∈ns.map PV.int:=by
        unfold cutP at hx
        exact List.mem_of_mem_drop (List.mem_of_mem_take hx)
      obtain ⟨c,_,rfl⟩:=List.mem_map.mp hx'
      walk_at "rd"
      exact ⟨mulL (sm64 a1 (by omega)),by show (0:Int) < 999999937; decide,hR _ _ ⟨rfl,_,_,rfl,Int.emod_nonneg _ (by decide),Int.emod_lt_of_pos _ (by decide)⟩⟩
    · rintro σ G' ⟨rfl,st,u,rfl,a1,a2⟩
      walk_at "rd"
theorem menu10 {r k:Int} (a:0≤r) (b:r < 10) (c:0≤k) (d:k < 997):∃ v,atI [PV.int 1,PV.int 2,PV.int 3,PV.int 4,PV.int 6,PV.int 12,PV.int 60,PV.int 255,PV.int 510,PV.int (1 + k)] r=some (.int v)∧1≤v∧v≤997:=by
  have e:r=0∨r=1∨r=2∨r=3∨r=4∨r=5∨r=6∨r=7∨r=8∨r=9:=by omega
  rcases e with rfl | rfl | rfl | rfl | rfl | rfl | rfl | rfl | rfl | rfl
  · exact ⟨_,at0,by omega,by omega⟩
  · exact ⟨_,at1,by omega,by omega⟩
  · exact ⟨_,at2,by omega,by omega⟩
  · exact ⟨_,at3,by omega,by omega⟩
  · exact ⟨_,at4,by omega,by omega⟩
  · exact ⟨_,atI_nat (j:=5) rfl,by omega,by omega⟩
  · exact ⟨_,atI_nat (j:=6) rfl,by omega,by omega⟩
  · exact ⟨_,atI_nat (j:=7) rfl,by omega,by omega⟩
  · exact ⟨_,atI_nat (j:=8) rfl,by omega,by omega⟩
  · exact ⟨_,atI_nat (j:=9) rfl,by omega,by omega⟩
noncomputable def code_l_share:CS:=(.seq (.asg (.gn 1) (.cal "_law_pick" (.cons (.var 0) (.cons (.int 10) .nil))))
  (.seq (.asg (.gn 2) (.idx (.lst false (.cons (.int 1) (.cons (.int 2) (.cons (.int 3) (.cons (.int 4) (.cons (.int 6) (.cons (.int 12) (.cons (.int 60) (.cons (.int 255) (.cons (.int 510) (.cons (.bin .Add (.int 1) (.cal "_law_pick" (.cons (.var 0) (.cons (.int 997) .nil)))) .nil))))))))))) (.var 1)))
  (.ret (.cal "_law_low" (.cons (.cal "_law_pick" (.cons (.var 0) (.cons (.bin .Add (.var 2) (.int 1)) .nil))) (.cons (.var 2) .nil))))))
theorem smP {x:Int} (a:0≤x) (b:x < 1000000000000):Sm 8000 x:=smK (by omega) b (by decide)
theorem in1_div {t b:Int} (h0:0≤t) (h1:t≤b) (hb:0 < b):In1 (Rat.divInt t b):=by
  constructor
  · exact Rat.divInt_nonneg h0 (by omega)
  · rw [Rat.divInt_eq_div]
    have hb':(0:Rat) < (b:Rat):=Rat.intCast_pos.mpr hb
    have h2:(t:Rat)≤(b:Rat):=Rat.intCast_le_intCast.mpr h1
    have h3:(t:Rat) / (b:Rat) * (b:Rat)=(t:Rat):=Rat.div_mul_cancel (by grind)
    refine Rat.le_of_mul_le_mul_right (c:=(b:Rat)) ?_ hb'
    grind
theorem bd_div {t b:Int} {n:Nat} (ht:Sm n t) (hb:Sm n b) (h0:b≠0):Bd n (Rat.divInt t b):=Bd.divInt ht hb h0
theorem w_l_share (h:LT T):∀ xs G Q,spShareL xs G Q→wpS T code_l_share (endP Q) (startP 3 xs) G:=by
  rintro xs G Q ⟨p,rfl,hp,hq⟩
  unfold code_l_share
  have:=h.pick
  have:=h.low
  walk_at "rd"
  refine ⟨by decide,smP (by decide) (by decide),fun r1 G1 a1 b1 n1=>⟨n1.pu,by decide,smP (by decide) (by decide),fun r2 G2 a2 b2 n2=>?_⟩⟩
  obtain ⟨v,e,c1,c2⟩:=menu10 a1 b1 a2 b2
  refine ⟨by decide,_,e, ?_⟩
  walk_at "rd"
  refine ⟨n2.pu,by omega,smP (by omega) (by omega),fun r3 G3 a3 b3 n3=>?_⟩
  refine ⟨by omega,smK (by omega) (by omega) (by decide),Wk.here (hq _ _ (in1_div a3 (by omega) (by omega)) (bd_div ?_ ?_ (by omega)) ((n1.trans n2).trans n3))⟩
  · unfold Sm; omega
  · unfold Sm; omega
noncomputable def Pk (p:Addr) (G K:Gh):Prop:= ∃ G',Pn p G G'∧∀ a u,G' a=some u→K a=some u
theorem Pk.of {p:Addr} {G G':Gh} (h:Pn p G G'):Pk p G G':=⟨G',h,fun _ _ z=>z⟩
theorem Pk.new {p l:Addr} {G K:Gh} {o:GO} (h:Pk p G K) (n:K l=none):Pk p G (gup K l o):=by
  obtain ⟨G',a,b⟩:=h
  refine ⟨G',a,fun x u q=>?_⟩
  have:=b x u q
  rw [gup_ne (fun e=>by rw [e,n] at this; cases this)]; exact this
theorem Pk.set {p l:Addr} {G K:Gh} {o:GO} (h:Pk p G K) (n:G l=none) (ne:l≠p):Pk p G (gup K l o):=by
  obtain ⟨G',a,b⟩:=h
  refine ⟨G',a,fun x u q=>?_⟩
  have e:x≠l:=fun e=>by rw [e,a.ne ne,n] at q; cases q
  rw [gup_ne e]; exact b x u q
theorem Pk.pick {p:Addr} {G K K':Gh} (h:Pk p G K) (m:Pn p K K'):Pk p G K':=by
  obtain ⟨G',a,b⟩:=h
  obtain ⟨x,y,z,e⟩:=m
  refine ⟨gup G' p (PU x y z),a.trans ⟨x,y,z,rfl⟩,fun c u q=>?_⟩
  rw [e]
  by_cases ec:c=p
  · subst ec; rw [gup_same] at q ⊢; exact q
  · rw [gup_ne ec] at q ⊢; exact b c u q
theorem Pk.end_ {p:Addr} {G K:Gh} {Q:PK1} {x:PV} (h:Pk p G K) (q:∀ G',Pn p G G'→Q x G'):Wk Q x K:=let ⟨G',a,b⟩:=h; Wk.of (q G' a) b
noncomputable def code_l_shares:CS:=(.seq (.asg (.gn 1) (.cal "_law_pick" (.cons (.var 0) (.cons (.int 8) .nil))))
  (.seq (.asg (.gn 2) (.cmpr true (.gn 1) (.irg (.cons (.int 3) .nil)) .nil (.cal "_law_share" (.cons (.var 2) .nil)) [none,none,some 0]))
  (.seq (.iff (.tsb (.cmp .Eq (.var 1) (.int 1))) (.sub (.var 2) (.bin .Add (.int 1) (.cal "_law_pick" (.cons (.var 0) (.cons (.int 2) .nil)))) (.idx (.var 2) (.int 0))) .nil)
  (.seq (.iff (.tsb (.cmp .Eq (.var 1) (.int 3))) (.asg (.gn 2) (.lst true (.cons (.idx (.var 2) (.int 0)) (.cons (.idx (.var 2) (.int 0)) (.cons (.idx (.var 2) (.int 0)) .nil))))) .nil)
  (.ret (.blt .tuple (.cons (.var 2) .nil)))))))
theorem irg_1 {j:Int} {R:Int→Prop} {A:Int→Int→Prop}:((∃ k,[PV.int j]=[PV.int k]∧R k)∨(∃ i k,[PV.int j]=[PV.int i,PV.int k]∧A i k))=R j:=propext
  ⟨fun h=>h.elim (fun ⟨_,e,r⟩=>by cases e; exact r) (fun ⟨_,_,e,_⟩=>by cases e),fun r=>.inl ⟨_,rfl,r⟩⟩
theorem w_l_shares (h:LT T):∀ xs G Q,spSharesL xs G Q→wpS T code_l_shares (endP Q) (startP 3 xs) G:=by
  rintro xs G Q ⟨p,rfl,hp,hq⟩
  unfold code_l_shares
  have:=h.pick
  have:=h.share
  walk_at "rd"
  refine ⟨by decide,smP (by decide) (by decide),fun r1 G1 a1 b1 n1=>?_⟩
  refine ⟨by decide,by decide,n1.pu,fun q1 G2 i1 d1 m1=>⟨m1.pu,fun q2 G3 i2 d2 m2=>⟨m2.pu,fun q3 G4 i3 d3 m3 l hl=>?_⟩⟩⟩
  have nn:=((n1.trans m1).trans m2).trans m3
  have lp:l≠p:=m3.pu.ne hl
  have gl:G l=none:=by rw [←nn.ne lp]; exact hl
  have k0:Pk p G (gup G4 l (.lst [FQ q1,FQ q2,FQ q3])):=(Pk.of nn).new hl
  split
  · rename_i e1
    refine ⟨m3.pu.new hl,by decide,smP (by decide) (by decide),fun r G5 a b m4=>?_⟩
    have g5:G5 l=some (.lst [FQ q1,FQ q2,FQ q3]):=by rw [m4.ne lp]; exact gup_same
    have hr:r=0∨r=1:=by omega
    rw [pSet_ref g5]
    have ne3:¬r1=3:=by omega
    have k1:∀ o,Pk p G (gup G5 l o):=fun o=>(k0.pick m4).set gl lp
    rcases hr with rfl | rfl
    · refine ⟨1,ixN_1, ?_⟩
      rw [if_neg ne3,pTup_gup]
      exact (k1 _).end_ fun G' g=>hq _ _ _ G' i1 i1 i3 d1 d1 d3 g
    · refine ⟨2,ixN_2, ?_⟩
      rw [if_neg ne3,pTup_gup]
      exact (k1 _).end_ fun G' g=>hq _ _ _ G' i1 i2 i1 d1 d2 d1 g
  · split
    · intro l2 hl2
      exact (k0.new hl2).end_ fun G' g=>hq _ _ _ G' i1 i1 i1 d1 d1 d1 g
    · exact k0.end_ fun G' g=>hq _ _ _ G' i1 i2 i3 d1 d2 d3 g
noncomputable def code_l_made:CS:=(.seq (.iff (.tsb (.cmp .Eq (.cal "_law_pick" (.cons (.var 0) (.cons (.int 2) .nil))) (.int 1))) (.ret (.cak "Shade" .nil (.cons (.idx (.var 1) (.int 2)) (.cons (.idx (.var 1) (.int 0)) (.cons (.idx (.var 1) (.int 1)) .nil))) [.arg 1,.arg 2,.arg 0])) .nil)
  (.ret (.cal "Shade" (.cons (.idx (.var 1) (.int 0)) (.cons (.idx (.var 1) (.int 1)) (.cons (.idx (.var 1) (.int 2)) .nil))))))
theorem w_l_made (hp:PT T) (h:LT T):∀ xs G Q,spMade xs G Q→wpS T code_l_made (endP Q) (startP 2 xs) G:=by
  rintro xs G Q ⟨p,a,b,c,rfl,hpu,ha,hb,hc,hq⟩
  unfold code_l_made
  have:=h.pick
  have:=hp.shade
  walk_at "rd"
  refine ⟨by decide,smP (by decide) (by decide),fun r1 G1 a1 b1 n1=>?_⟩
  have:=hq G1 n1
  simp only [Ar.val,List.getD_cons_zero,List.getD_cons_succ]
  walk_at "rd"
end
end L3
namespace L3
open PySem PySem.Spec
open PyProof.Rows hiding St
open L2
noncomputable abbrev R3:=Rat×Rat×Rat
noncomputable def shV (r:R3):PV:=SH r.1 r.2.1 r.2.2
theorem bd0:Bd 2 0:=⟨by unfold Sm; decide,by unfold Sm; decide⟩
noncomputable def spEqS:Sp3:=fun xs G Q=>∃ a b c a' b' c',xs=[SH a b c,SH a' b' c']∧Q (.bl (decide (a=a') && (decide (b=b') && decide (c=c')))) G
theorem shp_3 {a b c:Rat}:shp (.tup [FQ a,FQ b,FQ c])=true:=rfl
theorem peqs_nil:peqs [] []=true:=by simp only [peqs]
theorem peqs_cons {x y:PV} {xs ys:List PV}:peqs (x :: xs) (y :: ys)=(peq x y && peqs xs ys):=by simp only [peqs]
theorem pEq_SS {G:Gh} {Q:PK1} {a b c a' b' c':Rat}:pEq false (.tup [FQ a,FQ b,FQ c]) (.tup [FQ a',FQ b',FQ c']) G Q=Q (.bl (decide (a=a') && (decide (b=b') && decide (c=c')))) G:=by
  show (shp (.tup [FQ a,FQ b,FQ c])=true∧shp (.tup [FQ a',FQ b',FQ c'])=true∧Q (.bl (peq (.tup [FQ a,FQ b,FQ c]) (.tup [FQ a',FQ b',FQ c']))) G)=_
  simp only [shp_3,true_and,peq,peqs_cons,peqs_nil,peq_FQ,Bool.and_true]
theorem pEq_SST {G:Gh} {Q:PK1} {a b c a' b' c':Rat}:pEq true (.tup [FQ a,FQ b,FQ c]) (.tup [FQ a',FQ b',FQ c']) G Q=Q (.bl (!(decide (a=a') && (decide (b=b') && decide (c=c'))))) G:=by
  show (shp (.tup [FQ a,FQ b,FQ c])=true∧shp (.tup [FQ a',FQ b',FQ c'])=true∧Q (.bl (!peq (.tup [FQ a,FQ b,FQ c]) (.tup [FQ a',FQ b',FQ c']))) G)=_
  simp only [shp_3,true_and,peq,peqs_cons,peqs_nil,peq_FQ,Bool.and_true]
theorem av0 {xs:List PV} {x:PV}:Ar.val (x :: xs) (.arg 0)=x:=rfl
theorem av1 {xs:List PV} {x y:PV}:Ar.val (x :: y :: xs) (.arg 1)=y:=rfl
theorem av2 {xs:List PV} {x y z:PV}:Ar.val (x :: y :: z :: xs) (.arg 2)=z:=rfl
theorem avn {xs:List PV}:Ar.val xs .non= .non:=rfl
local macro_rules | `(tactic| walk_at "rd") => `(tactic| simp only [wpS, wpE, wpL, wpT, wpO, wpI, wpG, wpGs, endP, startP, List.map_cons, List.map_nil, List.length_cons, List.length_nil, List.cons_append, List.nil_append, List.append_nil, List.replicate, Nat.reduceAdd, Nat.reduceSub, Nat.zero_add,
  List.getElem?_cons_zero,List.getElem?_cons_succ,List.set_cons_zero,List.set_cons_succ,var_eq,some_eq,bl_eq,tup_eq,cons_eq,Option.some.injEq,exists_eq_left,exists_eq_left',true_and,and_true,exists_false,ite_self,false_and,and_false,or_false,false_or,
  pI_int,pBin_add,pBin_sub,pBin_mul,pBin_div,pBin_mod,pBin_pow,pAdd_int,pAdd_str,pAdd_lst,pAdd_tup,pCmp_lt,pCmp_le,pCmp_gt,pCmp_ge,pCmp_eq,pCmp_ne,pCmp_is,pCmp_isn,pEq_intF,pEq_intT,pTru_bl,pTru_non,pNeg_int,pIs_nonF,
  pIdx_tup,pIdx_scr,pIdx_lst,pIdx_gup,pSet_gup,pLen_tup,pLen_scr,pLen_lst,pAbs_int,pMax_int,pMin_int,pInt_int,pInt_bl,pIsi_int,pIsi_tup,pTup_lst,pTup_gup,lstOf_lst,lstOf_gup,pAll_lst,gupL_t,gupL_f,seqI_tup,seqI_lst,seqI_scr,
  mem_ty.1,mem_ty.2.1,mem_ty.2.2.1,isTy_1,isTy_2,isTy_3,at0,at1,at2,at3,at4,ixN_0,ixN_1,ixN_2,cast0,cast1,cast2,cast3,List.cons.injEq,PV.int.injEq,PV.bl.injEq,PV.str.injEq,PV.ref.injEq,PV.tup.injEq,and_assoc,exists_and_left,eq_self,FQ_0,FQ_1,FQ_len,FQ_isi,FQ_inj,spWhole,spCommon,spIsFrac,spLowest,needF2,pEq_FQF,SH_isi,Int.reduceToNat,Int.reducePow,exists_eq,exists_eq',compP_nil,compP_cons,enu_1,enu_2,enu_3,rng_3,rng_3b,SH_inj,capP,Option.getD_some,Option.getD_none,List.map,spPlus,spMinus,spTimes,spOver,spBelow,spNear,spPick,spShareL,spSharesL,spMade,spCell,spPurse,spIsFracB,spIsShare,spShade,spIsShade,spNeedS,spSharesOf,spShadeOf,spNeedGr,spIsGr,spIsStep,spNeedStep,spPrinted,spSpan,Bool.not_true,Bool.not_false,Bool.and_self,Bool.and_true,Bool.true_and,if_true,if_false,ite_true,ite_false,Bool.false_eq_true,decide_eq_true_eq,decide_true,decide_false,reduceCtorEq,sz1,sz2,sz3,Wk.here,pEq_SS,spEqS, *])
section
variable {T:Tb}
noncomputable def code_shade_of:CS:=(.seq (.asg (.gl 3 (.cons (.gn 1) (.cons (.gn 2) (.cons (.gn 3) .nil)))) (.var 0))
  (.ret (.cal "Shade" (.cons (.var 1) (.cons (.var 2) (.cons (.var 3) .nil))))))
theorem w_shade_of (h:PT T):∀ xs G Q,spShadeOf xs G Q→wpS T code_shade_of (endP Q) (startP 4 xs) G:=by
  rintro xs G Q ⟨x,a,b,c,rfl,hx,ia,ib,ic,hq⟩
  unfold code_shade_of
  have:=h.shade
  walk_at "rd"
noncomputable def code_Shade___eq__:CS:=(.ret (.an (.blt .isi (.cons (.var 1) (.cons (.glo "Shade") .nil))) (.cmp .Eq (.cal "shares_of" (.cons (.var 0) .nil)) (.cal "shares_of" (.cons (.var 1) .nil)))))
theorem w_Shade___eq__ (h:PT T):∀ xs G Q,spEqS xs G Q→wpS T code_Shade___eq__ (endP Q) (startP 2 xs) G:=by
  rintro xs G Q ⟨a,b,c,a',b',c',rfl,hq⟩
  unfold code_Shade___eq__
  have:=h.shares_of
  have:=h.gv_Shade
  have:=h.cs
  walk_at "rd"
end
end L3
namespace L3
open PySem PySem.Spec
open PyProof.Rows hiding St
open L2
noncomputable def sg:Nat→Nat | 0=>0 | 1=>1 | 2=>1 | 3=>2 | 4=>2 | _=>0
noncomputable def sl:Nat→Nat | 0=>2 | 1=>2 | 2=>0 | 3=>0 | 4=>1 | _=>1
noncomputable def sm:Nat→Nat | 0=>1 | 1=>0 | 2=>2 | 3=>1 | 4=>0 | _=>2
noncomputable def ss:Nat→Int | 0=>0 | 1=>2 | 2=>2 | 3=>4 | 4=>4 | _=>6
noncomputable def sw:Nat→Int | 0=>1 | 1=> -1 | 2=>1 | 3=> -1 | 4=>1 | _=> -1
noncomputable def p3 (i:Nat) (a b c:Rat):Rat:=match i with | 0=>a | 1=>b | _=>c
noncomputable def fall (k:Nat) (a b c:Rat):Bool:= !decide (p3 (sg k) a b c < p3 (sm k) a b c) && !decide (p3 (sm k) a b c < p3 (sl k) a b c)
noncomputable def kOf (a b c:Rat):Nat:=if fall 0 a b c=true then 0 else if fall 1 a b c=true then 1 else if fall 2 a b c=true then 2 else if fall 3 a b c=true then 3 else if fall 4 a b c=true then 4 else 5
noncomputable def lo (a b c:Rat):Rat:=p3 (sl (kOf a b c)) a b c
noncomputable def hi (a b c:Rat):Rat:=p3 (sg (kOf a b c)) a b c
noncomputable def mi (a b c:Rat):Rat:=p3 (sm (kOf a b c)) a b c
noncomputable def tn (a b c:Rat):Rat:=(ss (kOf a b c):Rat) + (sw (kOf a b c):Rat) * ((mi a b c - lo a b c) / (hi a b c - lo a b c))
noncomputable def tO (a b c:Rat):Option Rat:=if hi a b c=lo a b c then none else some (tn a b c)
noncomputable def c0 (t:Rat):Rat:=if t≤1 then 1 else if t≤2 then 2 - t else if t≤4 then 0 else if t≤5 then t - 4 else 1
noncomputable def c1 (t:Rat):Rat:=if t≤1 then t else if t≤3 then 1 else if t≤4 then 4 - t else 0
noncomputable def c2 (t:Rat):Rat:=if t≤2 then 0 else if t≤3 then t - 2 else if t≤5 then 1 else 6 - t
noncomputable def At (w g t a b c:Rat):Prop:=a=w + c0 t * (g - w)∧b=w + c1 t * (g - w)∧c=w + c2 t * (g - w)
noncomputable def r6 (q:Rat):Rat:=q - ((6 * (q.num / (6 * (q.den:Int))):Int):Rat)
theorem sub_int (q:Rat) (z:Int):(q - (z:Rat)).num=q.num - z * (q.den:Int)∧(q - (z:Rat)).den=q.den:=by
  have e:q - (z:Rat)=Rat.divInt (q.num - z * (q.den:Int)) (q.den:Int):=by
    have:=q_sub q (z:Rat)
    rw [←this]
    show Rat.divInt (q.num * ((1:Nat):Int) - z * (q.den:Int)) ((q.den:Int) * ((1:Nat):Int))=_
    congr 1 <;> omega
  have hd:=den_pos' (q:=q)
  have g:Int.gcd (q.den:Int) (q.num - z * (q.den:Int))=1:=by
    rw [Int.gcd_sub_mul_right_right]
    have:=q.reduced
    rw [Int.gcd_comm]; exact this
  constructor
  · rw [e,Rat.num_divInt,g,Int.sign_eq_one_of_pos hd]; simp
  · rw [e,Rat.den_divInt,if_neg (by omega),g]; simp
noncomputable def stV (k:Nat):PV:=.tup [.int (sg k:Int),.int (sl k:Int),.int (sm k:Int),.int (ss k),.int (sw k)]
noncomputable def tV:Option Rat→PV
  | none=>.non
  | some t=>FQ t
noncomputable def wheelV (a b c:Rat):PV:=.tup [tV (tO a b c),FQ (lo a b c),FQ (1 - hi a b c)]
noncomputable def TOk (w b:Rat):Option Rat→Prop
  | none=>w + b=1
  | some t=>(0≤t∧t < 6)∧w + b < 1
noncomputable def TBd (n:Nat):Option Rat→Prop
  | none=>True
  | some t=>Bd n t
noncomputable def BW (w b:Rat) (o:Option Rat) (x y z:Rat):Prop:=match o with
  | none=>x=w∧y=w∧z=w
  | some t=>At w (1 - b) t x y z
noncomputable def rot (n:Int) (a b c:Rat):R3:=if n % 3=0 then (a,b,c) else if n % 3=1 then (c,a,b) else (b,c,a)
noncomputable def spLess:Sp3:=fun xs G Q=>∃ a b,xs=[FQ a,FQ b]∧Bd 4000 a∧Bd 4000 b∧Q (.bl (decide (a < b))) G
noncomputable def spFalls:Sp3:=fun xs G Q=>∃ a b c k,xs=[.tup [FQ a,FQ b,FQ c],stV k]∧Bd 4000 a∧Bd 4000 b∧Bd 4000 c∧Q (.bl (fall k a b c)) G
noncomputable def spStretch:Sp3:=fun xs G Q=>∃ a b c,xs=[.tup [FQ a,FQ b,FQ c]]∧Bd 4000 a∧Bd 4000 b∧Bd 4000 c∧Q (stV (kOf a b c)) G
noncomputable def spWheel:Sp3:=fun xs G Q=>∃ a b c,xs=[SH a b c]∧Bd 600 a∧Bd 600 b∧Bd 600 c∧Q (wheelV a b c) G
noncomputable def spFrom0:Sp3:=fun xs G Q=>∃ a,xs=[FQ a]∧0≤a∧Q (.bl true) G
noncomputable def spNeedT:Sp3:=fun xs G Q=>∃ w b o,xs=[FQ w,FQ b,tV o]∧TOk w b o∧Bd 600 w∧Bd 600 b∧TBd 3000 o∧Q .non G
noncomputable def spByW:Sp3:=fun xs G Q=>∃ w b o,xs=[FQ w,FQ b,tV o]∧0≤w∧0≤b∧TOk w b o∧Bd 300 w∧Bd 300 b∧TBd 1100 o∧∀ x y z,BW w b o x y z→Q (SH x y z) G
noncomputable def spPartOf:Sp3:=fun xs G Q=>∃ p,xs=[FQ p]∧In1 p∧Q (FQ p) G
noncomputable def spToward:Sp3:=fun xs G Q=>∃ a b c q p,xs=[SH a b c,FQ q,FQ p]∧(In1 a∧In1 b∧In1 c)∧In1 q∧In1 p∧(Bd 260 a∧Bd 260 b∧Bd 260 c)∧Bd 2 q∧Bd 12 p∧Q (SH (a + p * (q - a)) (b + p * (q - b)) (c + p * (q - c))) G
noncomputable def spDeed (q:Rat):Sp3:=fun xs G Q=>∃ a b c p,xs=[SH a b c,FQ p]∧(In1 a∧In1 b∧In1 c)∧In1 p∧(Bd 260 a∧Bd 260 b∧Bd 260 c)∧Bd 12 p∧Q (SH (a + p * (q - a)) (b + p * (q - b)) (c + p * (q - c))) G
noncomputable def spOpp:Sp3:=fun xs G Q=>∃ a b c,xs=[SH a b c]∧(In1 a∧In1 b∧In1 c)∧(Bd 260 a∧Bd 260 b∧Bd 260 c)∧Q (SH (1 - a) (1 - b) (1 - c)) G
noncomputable def spTurned:Sp3:=fun xs G Q=>∃ a b c n,xs=[SH a b c,.int n]∧(In1 a∧In1 b∧In1 c)∧Q (shV (rot n a b c)) G
noncomputable def spLen0:Sp3:=fun xs G Q=>xs=[SH 0 0 0]∧Q (.int 0) G
noncomputable def spTurnRow:Sp3:=fun xs G Q=>∃ p,xs=[.ref p]∧Pu p G∧∀ w b o G',0≤w→0≤b→TOk w b o→Bd 12 w→Bd 40 b→TBd 12 o→Pn p G G'→Q (.tup [FQ w,FQ b,tV o]) G'
noncomputable def spRound:Sp3:=fun xs G Q=>∃ o n,xs=[tV o,.int n]∧TBd 1100 o∧Sm 80 n∧Q (tV (o.map fun t=>r6 (t + (n:Rat)))) G
noncomputable def spLifted:Sp3:=fun xs G Q=>∃ w b p,xs=[FQ w,FQ b,FQ p]∧Bd 600 w∧Bd 600 b∧Bd 12 p∧Q (.tup [FQ (w + p * (1 - w)),FQ (b - p * b)]) G
noncomputable def spRight:Sp3:=fun xs G Q=>∃ x a b c n p,xs=[x,SH a b c,.int n,FQ p]∧(In1 a∧In1 b∧In1 c)∧(Bd 250 a∧Bd 250 b∧Bd 250 c)∧Sm 75 n∧In1 p∧Bd 12 p∧Q (.bl true) G
structure L17 (T:Tb):Prop where
  less:T.S "less"=spLess
  falls:T.S "falls"=spFalls
  stretch_of:T.S "stretch_of"=spStretch
  wheel_of:T.S "wheel_of"=spWheel
  is_from_0:T.S "is_from_0"=spFrom0
  need_turn:T.S "need_turn"=spNeedT
  by_wheel:T.S "by_wheel"=spByW
  part_of:T.S "part_of"=spPartOf
  toward:T.S "toward"=spToward
  darker:T.S "darker"=spDeed 0
  lighter:T.S "lighter"=spDeed 1
  opposite:T.S "opposite"=spOpp
  turned:T.S "turned"=spTurned
  eqS:T.S "Shade.__eq__"=spEqS
  lenS:T.S "Shade.__len__"=spLen0
  turn_row:T.S "_law_turn_row"=spTurnRow
  round:T.S "_law_round"=spRound
  lifted:T.S "_law_lifted"=spLifted
  right:T.S "_law_right"=spRight
  gv_HALF:T.gv "HALF"= .tup [.int 1,.int 2]
  gv_ST:T.gv "STRETCHES"= .tup [stV 0,stV 1,stV 2,stV 3,stV 4,stV 5]
end L3
namespace L3
open PySem PySem.Spec
open PyProof.Rows hiding St
open L2
noncomputable def fallV (a b c:Rat):PV→Bool
  | .tup [.int g,.int l,.int m,_,_]=> !decide (p3 g.toNat a b c < p3 m.toNat a b c) && !decide (p3 m.toNat a b c < p3 l.toNat a b c)
  | _=>false
theorem fallV_st {k:Nat} {a b c:Rat}:fallV a b c (stV k)=fall k a b c:=rfl
theorem tV_none {o:Option Rat} {G:Gh} {Q:PK1}:pIs false (tV o) .non G Q=Q (.bl o.isNone) G:=by
  cases o with
  | none=>exact pIs_nonF
  | some t=>exact pIs_neF (fun z=>by cases z)
local macro_rules | `(tactic| walk_at "rd") => `(tactic| simp only [wpS, wpE, wpL, wpT, wpO, wpI, wpG, wpGs, endP, startP, List.map_cons, List.map_nil, List.length_cons, List.length_nil, List.cons_append, List.nil_append, List.append_nil, List.replicate, Nat.reduceAdd, Nat.reduceSub, Nat.zero_add,
  List.getElem?_cons_zero,List.getElem?_cons_succ,List.set_cons_zero,List.set_cons_succ,var_eq,some_eq,bl_eq,tup_eq,cons_eq,Option.some.injEq,exists_eq_left,exists_eq_left',true_and,and_true,exists_false,ite_self,false_and,and_false,or_false,false_or,
  pI_int,pBin_add,pBin_sub,pBin_mul,pBin_div,pBin_mod,pBin_pow,pAdd_int,pAdd_str,pAdd_lst,pAdd_tup,pCmp_lt,pCmp_le,pCmp_gt,pCmp_ge,pCmp_eq,pCmp_ne,pCmp_is,pCmp_isn,pEq_intF,pEq_intT,pTru_bl,pTru_non,pNeg_int,pIs_nonF,
  pIdx_tup,pIdx_scr,pIdx_lst,pIdx_gup,pSet_gup,pLen_tup,pLen_scr,pLen_lst,pAbs_int,pMax_int,pMin_int,pInt_int,pInt_bl,pIsi_int,pIsi_tup,pTup_lst,pTup_gup,lstOf_lst,lstOf_gup,pAll_lst,gupL_t,gupL_f,seqI_tup,seqI_lst,seqI_scr,
  mem_ty.1,mem_ty.2.1,mem_ty.2.2.1,isTy_1,isTy_2,isTy_3,at0,at1,at2,at3,at4,ixN_0,ixN_1,ixN_2,cast0,cast1,cast2,cast3,List.cons.injEq,PV.int.injEq,PV.bl.injEq,PV.str.injEq,PV.ref.injEq,PV.tup.injEq,and_assoc,exists_and_left,eq_self,FQ_0,FQ_1,FQ_len,FQ_isi,FQ_inj,spWhole,spCommon,spIsFrac,spLowest,needF2,pEq_FQF,SH_isi,Int.reduceToNat,Int.reducePow,exists_eq,exists_eq',compP_nil,compP_cons,enu_1,enu_2,enu_3,rng_3,rng_3b,SH_inj,capP,Option.getD_some,Option.getD_none,List.map,spPlus,spMinus,spTimes,spOver,spBelow,spNear,spPick,spShareL,spSharesL,spMade,spCell,spPurse,spIsFracB,spIsShare,spShade,spIsShade,spNeedS,spSharesOf,spShadeOf,spNeedGr,spIsGr,spIsStep,spNeedStep,spPrinted,spSpan,Bool.not_true,Bool.not_false,Bool.and_self,Bool.and_true,Bool.true_and,if_true,if_false,ite_true,ite_false,Bool.false_eq_true,decide_eq_true_eq,decide_true,decide_false,reduceCtorEq,sz1,sz2,sz3,Wk.here,pEq_SS,spLess,spFalls,spStretch,spFrom0,spPartOf,spToward,spDeed,spNeedT,tV_none, *])
section
variable {T:Tb}
noncomputable def code_over:CS:=(.seq (.ex (.cal "need_fractions" (.cons (.tup (.cons (.var 0) (.cons (.var 1) .nil))) .nil)))
  (.seq (.iff (.tsb (.cmp .Eq (.idx (.var 1) (.int 0)) (.int 0))) .nev .nil)
  (.ret (.cal "lowest" (.cons (.bin .Mult (.idx (.var 0) (.int 0)) (.idx (.var 1) (.int 1))) (.cons (.bin .Mult (.idx (.var 0) (.int 1)) (.idx (.var 1) (.int 0))) .nil))))))
theorem w_over (h:PT T):∀ xs G Q,spOver xs G Q→wpS T code_over (endP Q) (startP 2 xs) G:=by
  rintro xs G Q ⟨a,b,rfl,ha,hb,h0,hq⟩
  unfold code_over
  have:=h.need_fractions
  have:=h.lowest
  have n0:¬b.num=0:=fun z=>h0 (Rat.num_eq_zero.mp z)
  walk_at "rd"
  refine ⟨mulB ha.1 hb.2,mulB ha.2 hb.1,mul_ne den_ne n0,(ha.2.mul hb.1).mono (by decide),Wk.here ?_⟩
  rw [q_div]; exact hq
theorem bd1:Bd 2 1:=⟨by unfold Sm; decide,by unfold Sm; decide⟩
end
end L3
namespace L3
open PySem PySem.Spec
open PyProof.Rows hiding St
open L2
theorem in_tow {a q p:Rat} (ha:In1 a) (hq:In1 q) (hp:In1 p):In1 (a + p * (q - a)):=by
  have x1:0≤(1 - p) * a:=Rat.mul_nonneg (by have:=hp.2; grind) ha.1
  have x2:0≤p * q:=Rat.mul_nonneg hp.1 hq.1
  have x3:0≤(1 - p) * (1 - a):=Rat.mul_nonneg (by have:=hp.2; grind) (by have:=ha.2; grind)
  have x4:0≤p * (1 - q):=Rat.mul_nonneg hp.1 (by have:=hq.2; grind)
  exact ⟨by grind,by grind⟩
theorem in_opp {a:Rat} (h:In1 a):In1 (1 - a):=⟨by have:=h.2; grind,by have:=h.1; grind⟩
theorem in_0:In1 0:=⟨by decide,by decide⟩
theorem in_1:In1 1:=⟨by decide,by decide⟩
theorem pIdx_dct {ks:List Key} {xs:List PV} {i:Int} {G:Gh} {Q:PK1}:pIdx (.dct ks xs) (.int i) G Q=(∃ v,lookD ks xs (.inl i)=some v∧Q v G):=rfl
local macro_rules | `(tactic| walk_at "rd") => `(tactic| simp only [wpS, wpE, wpL, wpT, wpO, wpI, wpG, wpGs, endP, startP, List.map_cons, List.map_nil, List.length_cons, List.length_nil, List.cons_append, List.nil_append, List.append_nil, List.replicate, Nat.reduceAdd, Nat.reduceSub, Nat.zero_add,
  List.getElem?_cons_zero,List.getElem?_cons_succ,List.set_cons_zero,List.set_cons_succ,var_eq,some_eq,bl_eq,tup_eq,cons_eq,Option.some.injEq,exists_eq_left,exists_eq_left',true_and,and_true,exists_false,ite_self,false_and,and_false,or_false,false_or,
  pI_int,pBin_add,pBin_sub,pBin_mul,pBin_div,pBin_mod,pBin_pow,pAdd_int,pAdd_str,pAdd_lst,pAdd_tup,pCmp_lt,pCmp_le,pCmp_gt,pCmp_ge,pCmp_eq,pCmp_ne,pCmp_is,pCmp_isn,pEq_intF,pEq_intT,pTru_bl,pTru_non,pNeg_int,pIs_nonF,
  pIdx_tup,pIdx_scr,pIdx_lst,pIdx_gup,pSet_gup,pLen_tup,pLen_scr,pLen_lst,pAbs_int,pMax_int,pMin_int,pInt_int,pInt_bl,pIsi_int,pIsi_tup,pTup_lst,pTup_gup,lstOf_lst,lstOf_gup,pAll_lst,gupL_t,gupL_f,seqI_tup,seqI_lst,seqI_scr,
  mem_ty.1,mem_ty.2.1,mem_ty.2.2.1,isTy_1,isTy_2,isTy_3,at0,at1,at2,at3,at4,ixN_0,ixN_1,ixN_2,cast0,cast1,cast2,cast3,List.cons.injEq,PV.int.injEq,PV.bl.injEq,PV.str.injEq,PV.ref.injEq,PV.tup.injEq,and_assoc,exists_and_left,eq_self,FQ_0,FQ_1,FQ_len,FQ_isi,FQ_inj,spWhole,spCommon,spIsFrac,spLowest,needF2,pEq_FQF,SH_isi,Int.reduceToNat,Int.reducePow,exists_eq,exists_eq',forP_nil,forP_cons,compP_nil,compP_cons,enu_1,enu_2,enu_3,rng_3,rng_3b,SH_inj,capP,Option.getD_some,Option.getD_none,List.map,spPlus,spMinus,spTimes,spOver,spBelow,spNear,spPick,spShareL,spSharesL,spMade,spCell,spPurse,spIsFracB,spIsShare,spShade,spIsShade,spNeedS,spSharesOf,spShadeOf,spNeedGr,spIsGr,spIsStep,spNeedStep,spPrinted,spSpan,Bool.not_true,Bool.not_false,Bool.and_self,Bool.and_true,Bool.true_and,if_true,if_false,ite_true,ite_false,Bool.false_eq_true,decide_eq_true_eq,decide_true,decide_false,reduceCtorEq,sz1,sz2,sz3,Wk.here,pEq_SS,spFrom0,spPartOf,tV_none,pIdx_dct, *])
section
variable {T:Tb}
noncomputable def code_part_of:CS:=(.seq (.iff (.tsb (.cmp .Is (.var 0) .non)) (.ret (.glo "HALF")) .nil)
  (.seq (.iff (.no (.tst (.cal "is_share" (.cons (.var 0) .nil)))) .nev .nil)
  (.ret (.var 0))))
theorem pIs_FQ {t:Rat} {G:Gh} {Q:PK1}:pIs false (FQ t) .non G Q=Q (.bl false) G:=pIs_neF (fun z=>by cases z)
noncomputable def code_toward:CS:=(.ret (.cal "shade_of" (.cons (.cmpr false (.gn 1) (.isq (.cal "shares_of" (.cons (.var 0) .nil))) .nil (.cal "plus" (.cons (.var 1) (.cons (.cal "times" (.cons (.var 3) (.cons (.cal "minus" (.cons (.var 2) (.cons (.var 1) .nil))) .nil))) .nil))) [none,none,some 1,some 2]) .nil)))
noncomputable def code_darker:CS:=(.seq (.ex (.cal "need_shade" (.cons (.var 0) .nil)))
  (.ret (.cal "toward" (.cons (.var 0) (.cons (.glo "ZERO") (.cons (.cal "part_of" (.cons (.var 1) .nil)) .nil))))))
noncomputable def code_lighter:CS:=(.seq (.ex (.cal "need_shade" (.cons (.var 0) .nil)))
  (.ret (.cal "toward" (.cons (.var 0) (.cons (.glo "ONE") (.cons (.cal "part_of" (.cons (.var 1) .nil)) .nil))))))
noncomputable def code_opposite:CS:=(.ret (.cal "shade_of" (.cons (.cmpr false (.gn 1) (.isq (.cal "shares_of" (.cons (.var 0) .nil))) .nil (.cal "minus" (.cons (.glo "ONE") (.cons (.var 1) .nil))) [none,none]) .nil)))
theorem w_opposite (h:PT T):∀ xs G Q,spOpp xs G Q→wpS T code_opposite (endP Q) (startP 1 xs) G:=by
  rintro xs G Q ⟨a,b,c,rfl,⟨ia,ib,ic⟩,⟨ba,bb,bc⟩,hq⟩
  unfold code_opposite
  have:=h.shares_of
  have:=h.minus
  have:=h.shade_of
  have:=h.gv_ONE
  have b1:=bd1.mono (show 2≤4000 by decide)
  have a4:=ba.mono (show 260≤4000 by decide)
  have b4:=bb.mono (show 260≤4000 by decide)
  have c4:=bc.mono (show 260≤4000 by decide)
  walk_at "rd"
  exact ⟨in_opp ia,in_opp ib,in_opp ic⟩
noncomputable def code_turned:CS:=(.seq (.ex (.cal "need_shade" (.cons (.var 0) .nil)))
  (.seq (.iff (.tsb (.cmp .Is (.var 1) .non)) (.asg (.gn 1) (.int 1)) .nil)
  (.seq (.iff (.no (.tst (.cal "is_whole" (.cons (.var 1) .nil)))) .nev .nil)
  (.seq (.asg (.gn 2) (.cal "shares_of" (.cons (.var 0) .nil)))
  (.ret (.cal "shade_of" (.cons (.cmpr false (.gn 1) (.irg (.cons (.int 3) .nil)) .nil (.idx (.var 3) (.bin .Mod (.bin .Sub (.var 1) (.var 2)) (.int 3))) [none,none,some 1,some 2]) .nil)))))))
theorem pIs_intF {n:Int} {G:Gh} {Q:PK1}:pIs false (.int n) .non G Q=Q (.bl false) G:=pIs_neF (fun z=>by cases z)
theorem w_turned (h:PT T):∀ xs G Q,spTurned xs G Q→wpS T code_turned (endP Q) (startP 3 xs) G:=by
  rintro xs G Q ⟨a,b,c,n,rfl,⟨ia,ib,ic⟩,hq⟩
  unfold code_turned
  have:=h.need_shade
  have:=h.is_whole
  have:=h.shares_of
  have:=h.shade_of
  have:=@irg_1
  have:=@pIs_intF
  unfold rot shV at hq
  have e:n % 3=0∨n % 3=1∨n % 3=2:=by omega
  have c3:∀ i:Int,CModG i 3:=fun _=>by show (0:Int) < 3; decide
  rcases e with e | e | e
  · rw [if_pos e] at hq
    have e0:(0 - n) % 3=0:=by omega
    have e1:(1 - n) % 3=1:=by omega
    have e2:(2 - n) % 3=2:=by omega
    walk_at "rd"
    exact ⟨by decide,by decide⟩
  · rw [if_neg (by omega),if_pos e] at hq
    have e0:(0 - n) % 3=2:=by omega
    have e1:(1 - n) % 3=0:=by omega
    have e2:(2 - n) % 3=1:=by omega
    walk_at "rd"
    exact ⟨by decide,by decide⟩
  · rw [if_neg (by omega),if_neg (by omega)] at hq
    have e0:(0 - n) % 3=1:=by omega
    have e1:(1 - n) % 3=2:=by omega
    have e2:(2 - n) % 3=0:=by omega
    walk_at "rd"
    exact ⟨by decide,by decide⟩
end
end L3
namespace L3
open PySem PySem.Spec
open PyProof.Rows hiding St
open L2
theorem join_eq {sep:Str} {ys:List Str}:Txt.join sep ys=Str.join sep ys:=eq_of_beq (join_closes rfl)
theorem join1 {s:Str}:Txt.join ("":Str) [s]=s:=by rw [join_eq]; rfl
noncomputable def iT (n:Int):Str:=toString n
theorem iT_len {n:Int} (h:n.natAbs < 10 ^ 64):(iT n).length≤65:=by
  have h1:=int_text_length_le10 (k:=64) (by decide) h
  unfold iT
  show (Str.ofString (toString n)).length≤65
  rw [PySem.ofString_length]; omega
noncomputable def wr (q:Rat):Str:=if (q.den:Int)=1 then iT q.num else iT q.num ++ (("/":Str) ++ iT (q.den:Int))
noncomputable def str3 (r:R3):Str:=Txt.join (" ":Str) [wr r.1,wr r.2.1,wr r.2.2]
noncomputable def rep3 (r:R3):Str:=("Shade(":Str) ++ str3 r ++ (")":Str)
theorem len_app {a b:Str}:(a ++ b).length=a.length + b.length:=by
  show (a ++ b).cps.size=_
  rw [Str.cps_append,Array.size_append]; rfl
theorem sm200 {n:Int} (h:Sm 200 n):n.natAbs < 10 ^ 64:=Nat.lt_trans (show n.natAbs < 2 ^ 200 from h) (by decide)
theorem wr_len {q:Rat} (h:Bd 200 q):(wr q).length≤131:=by
  have h1:=iT_len (sm200 h.1)
  have h2:=iT_len (sm200 h.2)
  have h3:("/":Str).length=1:=rfl
  unfold wr
  split
  · omega
  · rw [len_app,len_app]; omega
theorem str3_len {r:R3} (h1:Bd 200 r.1) (h2:Bd 200 r.2.1) (h3:Bd 200 r.2.2):(str3 r).length≤395:=by
  unfold str3
  rw [join_eq]
  show (wr r.1 ++ (" ":Str) ++ (wr r.2.1 ++ (" ":Str) ++ wr r.2.2)).length≤395
  have e:(" ":Str).length=1:=rfl
  have:=wr_len h1
  have:=wr_len h2
  have:=wr_len h3
  rw [len_app,len_app,len_app,len_app,e]; omega
noncomputable def hlf:Rat:=⟨1,2,by decide,by decide⟩
noncomputable def hf (o:Option Rat):Rat:=o.getD hlf
noncomputable def POk (o:Option Rat):Prop:= ∀ p,o=some p→In1 p∧Bd 12 p
theorem half_in:In1 hlf:=⟨by decide,by decide⟩
theorem half_bd:Bd 12 hlf:=⟨by unfold Sm; decide,by unfold Sm; decide⟩
theorem POk.hf {o:Option Rat} (h:POk o):In1 (hf o)∧Bd 12 (L3.hf o):=by
  cases o with
  | none=>exact ⟨half_in,half_bd⟩
  | some p=>exact h p rfl
noncomputable def Sh7 (n:Nat) (r:R3):Prop:=(In1 r.1∧In1 r.2.1∧In1 r.2.2)∧Bd n r.1∧Bd n r.2.1∧Bd n r.2.2
theorem Sh7.mono {n m:Nat} {r:R3} (h:Sh7 n r) (e:n≤m):Sh7 m r:=⟨h.1,h.2.1.mono e,h.2.2.1.mono e,h.2.2.2.mono e⟩
noncomputable def tw (q p:Rat) (r:R3):R3:=(r.1 + p * (q - r.1),r.2.1 + p * (q - r.2.1),r.2.2 + p * (q - r.2.2))
noncomputable def md (r:R3):Rat:=(r.1 + r.2.1 + r.2.2) / 3
noncomputable def op3 (r:R3):R3:=(1 - r.1,1 - r.2.1,1 - r.2.2)
noncomputable def rt (n:Int) (r:R3):R3:=rot n r.1 r.2.1 r.2.2
noncomputable def iV:Option Int→PV
  | none=>.non
  | some n=>.int n
noncomputable def cnt (r:R3):Int:=((if 0 < r.1 then 1 else 0) + (if 0 < r.2.1 then 1 else 0) + (if 0 < r.2.2 then 1 else 0):Int)
theorem md_in {r:R3} (h:In1 r.1∧In1 r.2.1∧In1 r.2.2):In1 (md r):=by
  obtain ⟨⟨a,b⟩,⟨c,d⟩,e,f⟩:=h
  have e3:md r * 3=r.1 + r.2.1 + r.2.2:=Rat.div_mul_cancel (by decide)
  constructor
  · grind
  · grind
theorem tw_in {q p:Rat} {r:R3} (h:In1 r.1∧In1 r.2.1∧In1 r.2.2) (hq:In1 q) (hp:In1 p):In1 (tw q p r).1∧In1 (tw q p r).2.1∧In1 (tw q p r).2.2:=⟨in_tow h.1 hq hp,in_tow h.2.1 hq hp,in_tow h.2.2 hq hp⟩
theorem bd3q:Bd 3 3:=⟨by unfold Sm; decide,by unfold Sm; decide⟩
theorem md_bd {n:Nat} {r:R3} (h1:Bd n r.1) (h2:Bd n r.2.1) (h3:Bd n r.2.2):Bd (3 * n + 5) (md r):=((h1.add h2 (show n + n + 1≤2 * n + 1 by omega)).add h3 (show 2 * n + 1 + n + 1≤3 * n + 2 by omega)).dv bd3q (by decide) (by omega)
theorem tw_sh {n m:Nat} {q p:Rat} {r:R3} (s:Sh7 n r) (hq:In1 q) (bq:Bd m q) (hp:In1 p) (bp:Bd 12 p):Sh7 (2 * n + m + 14) (tw q p r) :=
  ⟨tw_in s.1 hq hp,s.2.1.add (bp.mul (bq.sub s.2.1 (show m + n + 1≤m + n + 1 by omega)) (show 12 + (m + n + 1)≤m + n + 13 by omega)) (by omega),s.2.2.1.add (bp.mul (bq.sub s.2.2.1 (show m + n + 1≤m + n + 1 by omega)) (show 12 + (m + n + 1)≤m + n + 13 by omega)) (by omega),s.2.2.2.add (bp.mul (bq.sub s.2.2.2 (show m + n + 1≤m + n + 1 by omega)) (show 12 + (m + n + 1)≤m + n + 13 by omega)) (by omega)⟩
theorem op_sh {n:Nat} {r:R3} (s:Sh7 n r):Sh7 (n + 3) (op3 r) :=
  ⟨⟨in_opp s.1.1,in_opp s.1.2.1,in_opp s.1.2.2⟩,bd1.sub s.2.1 (by omega),bd1.sub s.2.2.1 (by omega),bd1.sub s.2.2.2 (by omega)⟩
theorem rt_sh {n:Nat} {k:Int} {r:R3} (s:Sh7 n r):Sh7 n (rt k r):=by
  obtain ⟨⟨a,b,c⟩,d,e,f⟩:=s
  unfold rt rot
  split
  · exact ⟨⟨a,b,c⟩,d,e,f⟩
  · split
    · exact ⟨⟨c,a,b⟩,f,d,e⟩
    · exact ⟨⟨b,c,a⟩,e,f,d⟩
noncomputable def rV (r:R3):PV:=.tup [FQ r.1,FQ r.2.1,FQ r.2.2]
noncomputable def spFig:Sp3:=fun xs G Q=>∃ n:Int,xs=[.int n]∧0≤n∧Sm 200 n∧Q (.str (iT n)) G
noncomputable def spWr:Sp3:=fun xs G Q=>∃ q,xs=[FQ q]∧0≤q∧Bd 200 q∧Q (.str (wr q)) G
noncomputable def spStr7:Sp3:=fun xs G Q=>∃ r,xs=[shV r]∧Sh7 200 r∧Q (.str (str3 r)) G
noncomputable def spRep7:Sp3:=fun xs G Q=>∃ r,xs=[shV r]∧Sh7 200 r∧Q (.str (rep3 r)) G
noncomputable def spLen7:Sp3:=fun xs G Q=>∃ r,xs=[shV r]∧Q (.int (cnt r)) G
noncomputable def spPart7:Sp3:=fun xs G Q=>∃ o,xs=[tV o]∧POk o∧Q (FQ (hf o)) G
noncomputable def spTow7:Sp3:=fun xs G Q=>∃ r q p,xs=[shV r,FQ q,FQ p]∧Sh7 40 r∧In1 q∧Bd 140 q∧In1 p∧Bd 12 p∧Q (shV (tw q p r)) G
noncomputable def spDeed7 (f:R3→Rat):Sp3:=fun xs G Q=>∃ r o,xs=[shV r,tV o]∧Sh7 40 r∧POk o∧Q (shV (tw (f r) (hf o) r)) G
noncomputable def spOpp7:Sp3:=fun xs G Q=>∃ r,xs=[shV r]∧Sh7 40 r∧Q (shV (op3 r)) G
noncomputable def spTurn7:Sp3:=fun xs G Q=>∃ r o,xs=[shV r,iV o]∧Sh7 40 r∧Q (shV (rt (o.getD 1) r)) G
noncomputable def Dd (w:Str) (x:PV) (f:R3→R3):Prop :=
  (w="lighter"∧∃ o,x=tV o∧POk o∧f=tw 1 (hf o))∨(w="darker"∧∃ o,x=tV o∧POk o∧f=tw 0 (hf o))∨(w="duller"∧∃ o,x=tV o∧POk o∧f=fun r=>tw (md r) (hf o) r)∨
  (w="turned"∧∃ o,x=iV o∧f=rt (o.getD 1))∨(w="opposite"∧∃ o,x=tV o∧f=op3)
noncomputable def words:List Str:=["lighter","darker","duller","turned","opposite"]
noncomputable def spDeedL:Sp3:=fun xs G Q=>∃ r w x f,xs=[rV r,.str w,x]∧Sh7 12 r∧Dd w x f∧Q (rV (f r)) G
noncomputable def spAsk7:Sp3:=fun xs G Q=>∃ r w x f i,xs=[.str w,shV r,x,.int i]∧(i=0∨i=1)∧Sh7 12 r∧Dd w x f∧Q (shV (f r)) G
noncomputable def spBy7:Sp3:=fun xs G Q=>∃ p w,xs=[.ref p,.str w]∧Pu p G∧w∈words∧∀ x f G',Dd w x f→Pn p G G'→Q x G'
noncomputable def spText:Sp3:=spWr
noncomputable def spIs7:Sp3:=fun xs G Q=>∃ r,xs=[shV r,rV r]∧Sh7 200 r∧Q (.bl true) G
noncomputable def spLeft:Sp3:=fun xs G Q=>∃ r,xs=[shV r,rV r]∧Sh7 12 r∧Q (.bl true) G
noncomputable def spHome:Sp3:=fun xs G Q=>∃ r n,xs=[shV r,rV r,.int n]∧Sh7 12 r∧1≤n∧n≤50∧Q (.bl true) G
structure L7 (T:Tb):Prop where
  figures:T.S "figures"=spFig
  written:T.S "written"=spWr
  strS:T.S "Shade.__str__"=spStr7
  repS:T.S "Shade.__repr__"=spRep7
  lenS:T.S "Shade.__len__"=spLen7
  eqS:T.S "Shade.__eq__"=spEqS
  part_of:T.S "part_of"=spPart7
  toward:T.S "toward"=spTow7
  lighter:T.S "lighter"=spDeed7 (fun _=>1)
  darker:T.S "darker"=spDeed7 (fun _=>0)
  duller:T.S "duller"=spDeed7 md
  opposite:T.S "opposite"=spOpp7
  turned:T.S "turned"=spTurn7
  deed:T.S "_law_deed"=spDeedL
  asked:T.S "_law_asked"=spAsk7
  by_:T.S "_law_by"=spBy7
  text:T.S "_law_text"=spText
  is_:T.S "_law_is"=spIs7
  left:T.S "_law_left_out"=spLeft
  home:T.S "_law_home"=spHome
  gv_HALF:T.gv "HALF"= .tup [.int 1,.int 2]
  gv_PIECE:T.gv "PIECE"= .int (10 ^ 64)
  gv_PF:T.gv "PIECE_FIGURES"= .int 64
  gv_str:T.gv "str"= .ty "str"
end L3
namespace L3
open PySem PySem.Spec
open PyProof.Rows hiding St
open L2
theorem FQ_hf:PV.tup [.int 1,.int 2]=FQ hlf:=rfl
theorem FQ_3q:PV.tup [.int 3,.int 1]=FQ 3:=rfl
theorem pStr_int {i:Int} {cs:List String} {G:Gh} {Q:PK1}:pBlt cs .str [.int i] G Q=(i.natAbs.log2 < 1920∧Q (.str (iT i)) G):=rfl
theorem lg200 {i:Int} (h:Sm 200 i):i.natAbs.log2 < 1920:=by
  by_cases e:i.natAbs=0
  · rw [e]; decide
  · exact Nat.lt_of_lt_of_le ((Nat.log2_lt e).mpr h) (by decide)
theorem pow64:(10:Int) ^ 64=10000000000000000000000000000000000000000000000000000000000000000:=by decide
theorem lt64 {n:Int} (h:Sm 200 n):n < 10 ^ 64:=by
  have:n.natAbs < 10 ^ 64:=sm200 h
  have e:((10 ^ 64:Nat):Int)=(10:Int) ^ 64:=by decide
  omega
theorem shV_e {r:R3}:shV r=SH r.1 r.2.1 r.2.2:=rfl
theorem pow_ne {n:Int} (h:Sm 200 n):¬(10:Int) ^ 64≤n:=by have:=lt64 h; omega
local macro_rules | `(tactic| walk_at "rd") => `(tactic| simp only [wpS, wpE, wpL, wpT, wpO, wpI, wpG, wpGs, endP, startP, List.map_cons, List.map_nil, List.length_cons, List.length_nil, List.cons_append, List.nil_append, List.append_nil, List.replicate, Nat.reduceAdd, Nat.reduceSub, Nat.zero_add,
  List.getElem?_cons_zero,List.getElem?_cons_succ,List.set_cons_zero,List.set_cons_succ,var_eq,some_eq,bl_eq,tup_eq,cons_eq,Option.some.injEq,exists_eq_left,exists_eq_left',true_and,and_true,exists_false,ite_self,false_and,and_false,or_false,false_or,
  pI_int,pBin_add,pBin_sub,pBin_mul,pBin_div,pBin_mod,pBin_pow,pAdd_int,pAdd_str,pAdd_lst,pAdd_tup,pCmp_lt,pCmp_le,pCmp_gt,pCmp_ge,pCmp_eq,pCmp_ne,pCmp_is,pCmp_isn,pEq_intF,pEq_intT,pTru_bl,pTru_non,pNeg_int,pIs_nonF,
  pIdx_tup,pIdx_scr,pIdx_lst,pIdx_gup,pSet_gup,pLen_tup,pLen_scr,pLen_lst,pAbs_int,pMax_int,pMin_int,pInt_int,pInt_bl,pIsi_int,pIsi_tup,pTup_lst,pTup_gup,lstOf_lst,lstOf_gup,pAll_lst,gupL_t,gupL_f,seqI_tup,seqI_lst,seqI_scr,
  mem_ty.1,mem_ty.2.1,mem_ty.2.2.1,isTy_1,isTy_2,isTy_3,at0,at1,at2,at3,at4,ixN_0,ixN_1,ixN_2,cast0,cast1,cast2,cast3,List.cons.injEq,PV.int.injEq,PV.bl.injEq,PV.str.injEq,PV.ref.injEq,PV.tup.injEq,and_assoc,exists_and_left,eq_self,FQ_0,FQ_1,FQ_len,FQ_isi,FQ_inj,spWhole,spCommon,spIsFrac,spLowest,needF2,pEq_FQF,SH_isi,Int.reduceToNat,Int.reducePow,exists_eq,exists_eq',forP_nil,forP_cons,compP_nil,compP_cons,enu_1,enu_2,enu_3,rng_3,rng_3b,SH_inj,capP,Option.getD_some,Option.getD_none,List.map,spPlus,spMinus,spTimes,spOver,spBelow,spNear,spPick,spShareL,spSharesL,spMade,spCell,spPurse,spIsFracB,spIsShare,spShade,spIsShade,spNeedS,spSharesOf,spShadeOf,spNeedGr,spIsGr,spIsStep,spNeedStep,spPrinted,spSpan,Bool.not_true,Bool.not_false,Bool.and_self,Bool.and_true,Bool.true_and,if_true,if_false,ite_true,ite_false,Bool.false_eq_true,decide_eq_true_eq,decide_true,decide_false,reduceCtorEq,sz1,sz2,sz3,Wk.here,pEq_SS,tV_none,FQ_hf,FQ_3q,pIs_FQ,pIs_intF,pStr_int,shV_e,wpJ,Str.empty_append, *])
section
variable {T:Tb}
noncomputable def code_figures:CS:=(.seq (.asg (.gn 1) (.lst true .nil))
  (.seq (.wh (.tsb (.cmp .GtE (.var 0) (.glo "PIECE"))) .nev)
  (.seq (.ex (.app (.var 1) (.blt .str (.cons (.var 0) .nil))))
  (.ret (.joi (.str "") (.rev (.var 1)))))))
theorem w_figures (k:L7 T):∀ xs G Q,spFig xs G Q→wpS T code_figures (endP Q) (startP 3 xs) G:=by
  rintro xs G Q ⟨n,rfl,h0,sn,hq⟩
  unfold code_figures
  have:=k.gv_PIECE
  have:=pow_ne sn
  have:=lg200 sn
  walk_at "rd"
  refine ⟨Nat.zero_le _,fun p hp=>?_⟩
  refine ⟨fun m σ H=>σ=[some (.int n),some (.ref p),none]∧H=gup G p (.lst []),⟨0,rfl,rfl⟩, ?_⟩
  rintro m σ H ⟨rfl,rfl⟩
  walk_at "rd"
  rw [if_neg (by rw [←pow64]; assumption)]
  refine ⟨_,gup_same,by decide,[iT n],rfl, ?_, ?_⟩
  · have:=iT_len (sm200 sn)
    show (iT n).length + 0 + 1 * 0≤16777216
    omega
  · rw [join1]
    refine Wk.of hq fun a o z=>?_
    rw [gup_gup,gup_ne (fun e=>by subst e; rw [hp] at z; cases z)]; exact z
noncomputable def code_written:CS:=(.seq (.iff (.tsb (.cmp .Eq (.idx (.var 0) (.int 1)) (.int 1))) (.ret (.cal "figures" (.cons (.idx (.var 0) (.int 0)) .nil))) .nil)
  (.ret (.fst (.cons (.cal "figures" (.cons (.idx (.var 0) (.int 0)) .nil)) (.cons (.str "/") (.cons (.cal "figures" (.cons (.idx (.var 0) (.int 1)) .nil)) .nil))))))
theorem w_written (k:L7 T):∀ xs G Q,spWr xs G Q→wpS T code_written (endP Q) (startP 1 xs) G:=by
  rintro xs G Q ⟨q,rfl,h0,bq,hq⟩
  unfold code_written
  have e1:=k.figures
  have fg:∀ {n:Int} {G:Gh} {Q:PK1},0≤n→Sm 200 n→Q (.str (iT n)) G→T.S "figures" [.int n] G Q:=fun {n G Q} h h' q=>by rw [e1]; exact ⟨n,rfl,h,h',q⟩
  clear e1
  unfold wr at hq
  walk_at "rd"
  by_cases e:(q.den:Int)=1
  · rw [if_pos e] at hq ⊢
    exact fg (num_nn h0) bq.1 (Wk.here hq)
  · rw [if_neg e] at hq ⊢
    have l1:=iT_len (sm200 bq.1)
    have l2:=iT_len (sm200 bq.2)
    have l3:("/":Str).length=1:=rfl
    have hs:=sizeLine_eq
    walk_at "rd"
    refine fg (num_nn h0) bq.1 ⟨_,rfl,by omega,by omega,by omega,by rw [len_app]; omega,fg (Int.natCast_nonneg _) bq.2 ⟨_,rfl,by omega, ?_, ?_, ?_⟩⟩
    · rw [len_app,len_app]; omega
    · rw [len_app,len_app]; omega
    · rw [Str.append_assoc]; exact Wk.here hq
theorem sp1:(" ":Str).length=1:=rfl
noncomputable def code_Shade___str__:CS:=(.ret (.joi (.str " ") (.cmpr false (.gn 1) (.isq (.cal "shares_of" (.cons (.var 0) .nil))) .nil (.cal "written" (.cons (.var 1) .nil)) [none,none])))
theorem w_Shade___str__ (h:PT T) (k:L7 T):∀ xs G Q,spStr7 xs G Q→wpS T code_Shade___str__ (endP Q) (startP 1 xs) G:=by
  rintro xs G Q ⟨r,rfl,⟨⟨i1,i2,i3⟩,b1,b2,b3⟩,hq⟩
  unfold code_Shade___str__
  have:=h.shares_of
  have e1:=k.written
  have wt:∀ {q:Rat} {G:Gh} {Q:PK1},In1 q→Bd 200 q→Q (.str (wr q)) G→T.S "written" [FQ q] G Q:=fun {q G Q} h h' z=>by rw [e1]; exact ⟨q,rfl,h.1,h',z⟩
  clear e1
  have l1:=wr_len b1
  have l2:=wr_len b2
  have l3:=wr_len b3
  walk_at "rd"
  refine wt i1 b1 (wt i2 b2 (wt i3 b3 ⟨[wr r.1,wr r.2.1,wr r.2.2],rfl, ?_,Wk.here hq⟩))
  show (wr r.1).length + ((wr r.2.1).length + ((wr r.2.2).length + 0)) + 3 * 1≤16777216
  omega
noncomputable def code_Shade___repr__:CS:=(.ret (.fst (.cons (.str "Shade(") (.cons (.bow .str [("Shade","Shade.__str__")] (.cons (.var 0) .nil)) (.cons (.str ")") .nil)))))
theorem bow_own {b:Bn} {c:String} {m:Str} {ns:List Str} {ys:List PV} {G:Gh} {Q:PK1} (q:T.S m [.ob c ns ys] G fun v G'=>bowQ b v G' Q):pBow T b [(c,m)] [.ob c ns ys] G Q:=.inl ⟨c,m,ns,ys,List.mem_singleton.mpr rfl,rfl,q⟩
theorem w_Shade___repr__ (k:L7 T):∀ xs G Q,spRep7 xs G Q→wpS T code_Shade___repr__ (endP Q) (startP 1 xs) G:=by
  rintro xs G Q ⟨r,rfl,s,hq⟩
  unfold code_Shade___repr__
  have e1:=k.strS
  have l:=str3_len s.2.1 s.2.2.1 s.2.2.2
  have l1:("Shade(":Str).length=6:=rfl
  have l2:(")":Str).length=1:=rfl
  have hs:=sizeLine_eq
  walk_at "rd"
  refine ⟨by decide,by decide,bow_own ?_⟩
  rw [e1]
  refine ⟨r,rfl,s,_,rfl,_,rfl,by omega,by rw [len_app]; omega,by decide,by rw [len_app,len_app]; omega,by rw [len_app,len_app]; omega,Wk.here hq⟩
noncomputable def posV:PV→Bool
  | .tup (.int n :: _)=>decide (0 < n)
  | _=>false
theorem pos_FQ {q:Rat}:posV (FQ q)=decide (0 < q):=decide_eq_decide.mpr (by rw [Rat.lt_iff]; simp)
theorem cnt_len {r:R3}:((([FQ r.1,FQ r.2.1,FQ r.2.2].filter posV).length:Nat):Int)=cnt r:=by
  unfold cnt
  simp only [List.filter_cons,List.filter_nil,pos_FQ,decide_eq_true_eq]
  by_cases h1:0 < r.1 <;> by_cases h2:0 < r.2.1 <;> by_cases h3:0 < r.2.2 <;> simp [h1,h2,h3]
theorem compF2 {chk:Gh→Prop} {ts:PTT} {te:PTE} {G:Gh} {Q:List PV→Gh→Prop} (p:PV→Bool) (hc:chk G) :
    ∀ (l acc:List PV) (v:Option PV),(∀ x∈l,∀ R,R (p x) G→ts [none,some x] G R)→(∀ x∈l,∀ R,R x G→te [none,some x] G R)→Q (acc ++ l.filter p) G→compP chk (fun x σ G Q=>Q (σ.set 1 (some x)) G) ts te l acc [none,v] G Q
  | [],acc,v,_,_,q=>⟨hc,by simpa using q⟩
  | x :: l,acc,v,h1,h2,q=>by
    refine ⟨hc, ?_⟩
    show ts [none,some x] G _
    refine h1 x (List.mem_cons_self ..) _ ?_
    cases hp:p x with
    | true =>
      rw [if_pos rfl]
      refine h2 x (List.mem_cons_self ..) _ ?_
      refine compF2 p hc l (acc ++ [x]) (some x) (fun y hy=>h1 y (List.mem_cons_of_mem _ hy)) (fun y hy=>h2 y (List.mem_cons_of_mem _ hy)) ?_
      rw [List.filter_cons,hp,if_pos rfl] at q
      rw [List.append_assoc]; exact q
    | false =>
      rw [if_neg Bool.false_ne_true]
      refine compF2 p hc l acc (some x) (fun y hy=>h1 y (List.mem_cons_of_mem _ hy)) (fun y hy=>h2 y (List.mem_cons_of_mem _ hy)) ?_
      rw [List.filter_cons,hp,if_neg Bool.false_ne_true] at q
      exact q
theorem mem3 {r:R3} {x:PV} (h:x∈ [FQ r.1,FQ r.2.1,FQ r.2.2]):∃ q,x=FQ q:=by
  simp only [List.mem_cons,List.not_mem_nil,or_false] at h
  rcases h with h | h | h <;> exact ⟨_,h⟩
theorem w_pos {r:R3} {G:Gh} {Q:List PV→Gh→Prop} (hq:Q ([FQ r.1,FQ r.2.1,FQ r.2.2].filter posV) G):compP (fun _=>True) (wpG T (.gn 1)) (wpT T (.tsb (.cmp .Gt (.idx (.var 1) (.int 0)) (.int 0)))) (wpE T (.var 1)) [FQ r.1,FQ r.2.1,FQ r.2.2] [] [none,none] G Q:=by
  simp only [wpG]
  refine compF2 posV trivial _ _ _ ?_ ?_ hq
  · intro x hx R hR
    obtain ⟨q,rfl⟩:=mem3 hx
    have e:posV (FQ q)=decide (0 < q.num):=rfl
    rw [e] at hR
    walk_at "rd"
  · intro x hx R hR
    walk_at "rd"
noncomputable def code_Shade___len___07:CS:=(.ret (.blt .len (.cons (.cmpr false (.gn 1) (.isq (.cal "shares_of" (.cons (.var 0) .nil))) (.tsb (.cmp .Gt (.idx (.var 1) (.int 0)) (.int 0))) (.var 1) [none,none]) .nil)))
theorem w_Shade___len___07 (h:PT T):∀ xs G Q,spLen7 xs G Q→wpS T code_Shade___len___07 (endP Q) (startP 1 xs) G:=by
  rintro xs G Q ⟨r,rfl,hq⟩
  unfold code_Shade___len___07
  have:=h.shares_of
  simp only [wpS,wpE,wpL,wpI,gupL_f,capP,startP,this,spSharesOf]
  refine ⟨_,rfl,_,_,_,rfl,(show 3≤sizeLine by decide),w_pos ?_⟩
  rw [pLen_lst,cnt_len]
  exact Wk.here hq
noncomputable def code_part_of_07:CS:=code_part_of
theorem w_part_of_07 (h:PT T) (k:L7 T):∀ xs G Q,spPart7 xs G Q→wpS T code_part_of_07 (endP Q) (startP 1 xs) G:=by
  rintro xs G Q ⟨o,rfl,ok,hq⟩
  unfold code_part_of_07 code_part_of
  have:=h.is_share
  have:=k.gv_HALF
  cases o with
  | none =>
    have hq':Q (FQ hlf) G:=hq
    simp only [tV]
    walk_at "rd"
  | some p =>
    have hq':Q (FQ p) G:=hq
    obtain ⟨⟨i1,i2⟩,_⟩:=ok p rfl
    simp only [tV]
    walk_at "rd"
noncomputable def code_toward_07:CS:=code_toward
theorem w_toward_07 (h:PT T):∀ xs G Q,spTow7 xs G Q→wpS T code_toward_07 (endP Q) (startP 3 xs) G:=by
  rintro xs G Q ⟨⟨a,b,c⟩,q,p,rfl,⟨⟨ia,ib,ic⟩,ba,bb,bc⟩,iq,bq,ip,bp,hq⟩
  unfold code_toward_07 code_toward
  have:=h.shares_of
  have:=h.minus
  have:=h.plus
  have:=h.times
  have:=h.shade_of
  have q4:=bq.mono (show 140≤4000 by decide)
  have p4:=bp.mono (show 12≤4000 by decide)
  have a4:Bd 4000 a:=ba.mono (by decide)
  have b4:Bd 4000 b:=bb.mono (by decide)
  have c4:Bd 4000 c:=bc.mono (by decide)
  have a1:Bd 4000 (q - a):=bq.sub ba (show 140 + 40 + 1≤4000 by decide)
  have b1:Bd 4000 (q - b):=bq.sub bb (show 140 + 40 + 1≤4000 by decide)
  have c1:Bd 4000 (q - c):=bq.sub bc (show 140 + 40 + 1≤4000 by decide)
  have a2:Bd 4000 (p * (q - a)):=bp.mul (bq.sub ba (show 140 + 40 + 1≤181 by decide)) (show 12 + 181≤4000 by decide)
  have b2:Bd 4000 (p * (q - b)):=bp.mul (bq.sub bb (show 140 + 40 + 1≤181 by decide)) (show 12 + 181≤4000 by decide)
  have c2:Bd 4000 (p * (q - c)):=bp.mul (bq.sub bc (show 140 + 40 + 1≤181 by decide)) (show 12 + 181≤4000 by decide)
  have ja:In1 (a + p * (q - a)):=in_tow ia iq ip
  have jb:In1 (b + p * (q - b)):=in_tow ib iq ip
  have jc:In1 (c + p * (q - c)):=in_tow ic iq ip
  walk_at "rd"
  exact Wk.here hq
theorem s_tow (k:L7 T) {r:R3} {q p:Rat} {G:Gh} {Q:PK1} (s:Sh7 40 r) (iq:In1 q) (bq:Bd 140 q) (ip:In1 p) (bp:Bd 12 p) (z:Q (shV (tw q p r)) G):T.S "toward" [shV r,FQ q,FQ p] G Q:=by
  rw [k.toward]; exact ⟨r,q,p,rfl,s,iq,bq,ip,bp,z⟩
theorem s_part (k:L7 T) {o:Option Rat} {G:Gh} {Q:PK1} (ok:POk o) (z:Q (FQ (hf o)) G):T.S "part_of" [tV o] G Q:=by
  rw [k.part_of]; exact ⟨o,rfl,ok,z⟩
noncomputable def code_lighter_07:CS:=code_lighter
theorem w_lighter_07 (h:PT T) (k:L7 T):∀ xs G Q,spDeed7 (fun _=>1) xs G Q→wpS T code_lighter_07 (endP Q) (startP 2 xs) G:=by
  rintro xs G Q ⟨r,o,rfl,s,ok,hq⟩
  unfold code_lighter_07 code_lighter
  have:=h.need_shade
  have:=h.gv_ONE
  walk_at "rd"
  exact s_part k ok (s_tow k s in_1 (bd1.mono (by decide)) ok.hf.1 ok.hf.2 (Wk.here hq))
noncomputable def code_darker_07:CS:=code_darker
theorem w_darker_07 (h:PT T) (k:L7 T):∀ xs G Q,spDeed7 (fun _=>0) xs G Q→wpS T code_darker_07 (endP Q) (startP 2 xs) G:=by
  rintro xs G Q ⟨r,o,rfl,s,ok,hq⟩
  unfold code_darker_07 code_darker
  have:=h.need_shade
  have:=h.gv_ZERO
  walk_at "rd"
  exact s_part k ok (s_tow k s in_0 (bd0.mono (by decide)) ok.hf.1 ok.hf.2 (Wk.here hq))
noncomputable def code_duller:CS:=(.seq (.ex (.cal "need_shade" (.cons (.var 0) .nil)))
  (.seq (.asg (.gn 2) (.cal "part_of" (.cons (.var 1) .nil)))
  (.seq (.asg (.gn 3) (.cal "plus" (.cons (.cal "plus" (.cons (.att (.var 0) "ember") (.cons (.att (.var 0) "leaf") .nil))) (.cons (.att (.var 0) "sky") .nil))))
  (.ret (.cal "toward" (.cons (.var 0) (.cons (.cal "over" (.cons (.var 3) (.cons (.tup (.cons (.int 3) (.cons (.int 1) .nil))) .nil))) (.cons (.var 2) .nil))))))))
theorem w_duller (h:PT T) (k:L7 T):∀ xs G Q,spDeed7 md xs G Q→wpS T code_duller (endP Q) (startP 4 xs) G:=by
  rintro xs G Q ⟨r,o,rfl,s,ok,hq⟩
  unfold code_duller
  have:=h.need_shade
  have:=h.plus
  have:=h.over
  walk_at "rd"
  refine s_part k ok ?_
  have e1:=@SH_e T h
  have e2:=@SH_l T h
  have e3:=@SH_s T h
  obtain ⟨i3,b1,b2,b3⟩:=s
  have d1:=b1.add b2 (show 40 + 40 + 1≤81 by decide)
  have d2:=d1.add b3 (show 81 + 40 + 1≤122 by decide)
  walk_at "rd"
  exact ⟨b1.mono (by decide),b2.mono (by decide),d1.mono (by decide),b3.mono (by decide),d2.mono (by decide),bd3q.mono (by decide),by decide,s_tow k ⟨i3,b1,b2,b3⟩ (md_in i3) (d2.dv bd3q (by decide) (by decide)) ok.hf.1 ok.hf.2 (Wk.here hq)⟩
noncomputable def code_opposite_07:CS:=code_opposite
theorem w_opposite_07 (h:PT T):∀ xs G Q,spOpp7 xs G Q→wpS T code_opposite_07 (endP Q) (startP 1 xs) G:=by
  rintro xs G Q ⟨⟨a,b,c⟩,rfl,⟨i3,ba,bb,bc⟩,hq⟩
  exact w_opposite h _ _ _ ⟨a,b,c,rfl,i3,⟨ba.mono (by decide),bb.mono (by decide),bc.mono (by decide)⟩,hq⟩
noncomputable def code_turned_07:CS:=code_turned
theorem w_turned_07 (h:PT T):∀ xs G Q,spTurn7 xs G Q→wpS T code_turned_07 (endP Q) (startP 3 xs) G:=by
  rintro xs G Q ⟨⟨a,b,c⟩,o,rfl,s,hq⟩
  cases o with
  | some n=>exact w_turned h _ _ _ ⟨a,b,c,n,rfl,s.1,hq⟩
  | none =>
    obtain ⟨⟨ia,ib,ic⟩,_⟩:=s
    have hq':Q (SH c a b) G:=hq
    unfold code_turned_07 code_turned
    have:=h.need_shade
    have:=h.is_whole
    have:=h.shares_of
    have:=h.shade_of
    have:=@irg_1
    have e0:(0 - 1:Int) % 3=2:=by decide
    have e1:(1 - 1:Int) % 3=0:=by decide
    have e2:(2 - 1:Int) % 3=1:=by decide
    have c3:∀ i:Int,CModG i 3:=fun _=>by show (0:Int) < 3; decide
    simp only [iV]
    walk_at "rd"
    exact ⟨by decide,by decide⟩
end
end L3
namespace L3
open PySem PySem.Spec
open PyProof.Rows hiding St
open L2
theorem FQ_1c:PV.tup [.int 1,.int 1]=FQ 1:=rfl
theorem FQ_0c:PV.tup [.int 0,.int 1]=FQ 0:=rfl
noncomputable def trd:Rat:=⟨1,3,by decide,by decide⟩
theorem FQ_trd:PV.tup [.int 1,.int 3]=FQ trd:=rfl
theorem trd3:trd * 3=1:=by
  rw [Rat.mul_def]; decide
theorem md_eq {r:R3}:trd * (r.1 + (r.2.1 + r.2.2))=md r:=by
  have h:=trd3
  have e3:md r * 3=r.1 + r.2.1 + r.2.2:=Rat.div_mul_cancel (by decide)
  grind
theorem shp_str {a:Str}:shp (.str a)=PyData.strOk a:=by
  show SeqAt.shaped (.str a)=_
  unfold SeqAt.shaped
  have:decide ((PyData.str a).depth≤64)=true:=rfl
  rw [this,Bool.and_true]; rfl
theorem pEq_str {a b:Str} {G:Gh} {Q:PK1}:pEq false (.str a) (.str b) G Q=(PyData.strOk a=true∧PyData.strOk b=true∧Q (.bl (a == b)) G):=by
  show (shp (.str a)=true∧shp (.str b)=true∧Q (.bl (peq (.str a) (.str b))) G)=_
  simp only [shp_str,peq]
theorem pNe_str {a b:Str} {G:Gh} {Q:PK1}:pEq true (.str a) (.str b) G Q=(PyData.strOk a=true∧PyData.strOk b=true∧Q (.bl (!(a == b))) G):=by
  show (shp (.str a)=true∧shp (.str b)=true∧Q (.bl (!peq (.str a) (.str b))) G)=_
  simp only [shp_str,peq]
theorem ok_of (s:String):PyData.strOk (Str.ofString s)=true:=by
  rw [Str.ofString_eq_toList]
  unfold PyData.strOk
  simp only [List.all_toArray,List.all_eq_true,List.mem_map,decide_eq_true_eq]
  rintro x ⟨c,_,rfl⟩
  have h:=c.valid
  show c.val.toNat < 1114112
  rcases h with h | ⟨_,h⟩
  · have:c.val.toNat < 0xd800:=h
    omega
  · have:c.val.toNat < 0x110000:=h
    exact this
theorem ok_app {a b:Str} (ha:PyData.strOk a=true) (hb:PyData.strOk b=true):PyData.strOk (a ++ b)=true:=by
  unfold PyData.strOk at *
  rw [Str.cps_append,Array.all_append,ha,hb]; rfl
theorem so_1:PyData.strOk ("lighter":Str)=true:=ok_of _
theorem so_2:PyData.strOk ("darker":Str)=true:=ok_of _
theorem so_3:PyData.strOk ("duller":Str)=true:=ok_of _
theorem so_4:PyData.strOk ("turned":Str)=true:=ok_of _
theorem so_5:PyData.strOk ("opposite":Str)=true:=ok_of _
theorem ok_wr {q:Rat}:PyData.strOk (wr q)=true:=by
  unfold wr iT
  split
  · exact ok_of _
  · exact ok_app (ok_of _) (ok_app (ok_of _) (ok_of _))
theorem ok_s3 {r:R3}:PyData.strOk (str3 r)=true:=by
  unfold str3
  rw [join_eq]
  exact ok_app (ok_app ok_wr (ok_of _)) (ok_app (ok_app ok_wr (ok_of _)) ok_wr)
theorem ok_r3 {r:R3}:PyData.strOk (rep3 r)=true:=ok_app (ok_app (ok_of _) ok_s3) (ok_of _)
theorem wd_1:(("lighter":Str) == ("opposite":Str))=false:=by decide
theorem wd_2:(("darker":Str) == ("opposite":Str))=false:=by decide
theorem wd_3:(("duller":Str) == ("opposite":Str))=false:=by decide
theorem wd_4:(("turned":Str) == ("opposite":Str))=false:=by decide
theorem wd_5:(("darker":Str) == ("lighter":Str))=false:=by decide
theorem wd_6:(("duller":Str) == ("lighter":Str))=false:=by decide
theorem wd_7:(("turned":Str) == ("lighter":Str))=false:=by decide
theorem wd_8:(("duller":Str) == ("darker":Str))=false:=by decide
theorem wd_9:(("turned":Str) == ("darker":Str))=false:=by decide
theorem wd_a:(("turned":Str) == ("duller":Str))=false:=by decide
theorem wd_b:(("opposite":Str) == ("lighter":Str))=false:=by decide
theorem wd_c:(("opposite":Str) == ("darker":Str))=false:=by decide
theorem wd_d:(("lighter":Str) == ("darker":Str))=false:=by decide
theorem wd_e:(("duller":Str) == ("turned":Str))=false:=by decide
theorem wd_f:(("lighter":Str) == ("turned":Str))=false:=by decide
theorem wd_g:(("darker":Str) == ("turned":Str))=false:=by decide
theorem wd_h:(("opposite":Str) == ("turned":Str))=false:=by decide
theorem wd_s {a:Str}:(a == a)=true:=beq_self_eq_true a
theorem at2i {a b:PV} {i:Int} {P:PV→Prop} (h:i=0∨i=1) (q:P a) (q':P b):∃ v,atI [a,b] i=some v∧P v:=by
  rcases h with rfl | rfl
  · exact ⟨_,at0,q⟩
  · exact ⟨_,at1,q'⟩
local macro_rules | `(tactic| walk_at "rd") => `(tactic| simp only [wpS, wpE, wpL, wpT, wpO, wpI, wpG, wpGs, endP, startP, List.map_cons, List.map_nil, List.length_cons, List.length_nil, List.cons_append, List.nil_append, List.append_nil, List.replicate, Nat.reduceAdd, Nat.reduceSub, Nat.zero_add,
  List.getElem?_cons_zero,List.getElem?_cons_succ,List.set_cons_zero,List.set_cons_succ,var_eq,some_eq,bl_eq,tup_eq,cons_eq,Option.some.injEq,exists_eq_left,exists_eq_left',true_and,and_true,exists_false,ite_self,false_and,and_false,or_false,false_or,
  pI_int,pBin_add,pBin_sub,pBin_mul,pBin_div,pBin_mod,pBin_pow,pAdd_int,pAdd_str,pAdd_lst,pAdd_tup,pCmp_lt,pCmp_le,pCmp_gt,pCmp_ge,pCmp_eq,pCmp_ne,pCmp_is,pCmp_isn,pEq_intF,pEq_intT,pTru_bl,pTru_non,pNeg_int,pIs_nonF,
  pIdx_tup,pIdx_scr,pIdx_lst,pIdx_gup,pSet_gup,pLen_tup,pLen_scr,pLen_lst,pAbs_int,pMax_int,pMin_int,pInt_int,pInt_bl,pIsi_int,pIsi_tup,pTup_lst,pTup_gup,lstOf_lst,lstOf_gup,pAll_lst,gupL_t,gupL_f,seqI_tup,seqI_lst,seqI_scr,
  mem_ty.1,mem_ty.2.1,mem_ty.2.2.1,isTy_1,isTy_2,isTy_3,at0,at1,at2,at3,at4,ixN_0,ixN_1,ixN_2,cast0,cast1,cast2,cast3,List.cons.injEq,PV.int.injEq,PV.bl.injEq,PV.str.injEq,PV.ref.injEq,PV.tup.injEq,and_assoc,exists_and_left,eq_self,FQ_0,FQ_1,FQ_len,FQ_isi,FQ_inj,spWhole,spCommon,spIsFrac,spLowest,needF2,pEq_FQF,SH_isi,Int.reduceToNat,Int.reducePow,exists_eq,exists_eq',forP_nil,forP_cons,compP_nil,compP_cons,enu_1,enu_2,enu_3,rng_3,rng_3b,SH_inj,capP,Option.getD_some,Option.getD_none,List.map,spPlus,spMinus,spTimes,spOver,spBelow,spNear,spPick,spShareL,spSharesL,spMade,spCell,spPurse,spIsFracB,spIsShare,spShade,spIsShade,spNeedS,spSharesOf,spShadeOf,spNeedGr,spIsGr,spIsStep,spNeedStep,spPrinted,spSpan,Bool.not_true,Bool.not_false,Bool.and_self,Bool.and_true,Bool.true_and,if_true,if_false,ite_true,ite_false,Bool.false_eq_true,decide_eq_true_eq,decide_true,decide_false,reduceCtorEq,sz1,sz2,sz3,Wk.here,pEq_SS,tV_none,FQ_hf,FQ_1c,FQ_0c,FQ_trd,pIs_FQ,pIs_intF,pStr_int,shV_e,pEq_str,so_1,so_2,so_3,so_4,so_5,wd_1,wd_2,wd_3,wd_4,wd_5,wd_6,wd_7,wd_8,wd_9,wd_a,wd_b,wd_c,wd_d,wd_e,wd_f,wd_g,wd_h,wd_s,av0,av1,avn, *])
local macro_rules | `(tactic| walk_at "ry") => `(tactic| simp only [wpS, wpT, wpE, endP, startP, List.map_cons, List.map_nil, List.length_cons, List.length_nil, Nat.reduceAdd, Nat.reduceSub, Nat.zero_add, List.replicate, List.append_nil, List.cons_append, List.nil_append, var_eq, List.getElem?_cons_zero, List.getElem?_cons_succ, pCmp_eq, pEq_str, so_1, so_2, so_3, so_4, so_5, wd_5, wd_6, wd_7, wd_8, wd_9, wd_a, wd_b, wd_c, wd_d, wd_1, wd_2, wd_3, wd_4, wd_e, wd_f, wd_g, wd_h, wd_s, bl_eq, true_and, if_true, if_false, Bool.false_eq_true])
section
variable {T:Tb}
noncomputable def code_l_text:CS:=(.ret (.bin .Add (.blt .str (.cons (.idx (.var 0) (.int 0)) .nil)) (.idx (.lst false (.cons (.bin .Add (.str "/") (.blt .str (.cons (.idx (.var 0) (.int 1)) .nil))) (.cons (.str "") .nil))) (.blt .int (.cons (.cmp .Eq (.idx (.var 0) (.int 1)) (.int 1)) .nil)))))
theorem w_l_text:∀ xs G Q,spText xs G Q→wpS T code_l_text (endP Q) (startP 1 xs) G:=by
  rintro xs G Q ⟨q,rfl,h0,bq,hq⟩
  unfold code_l_text
  have l1:=iT_len (sm200 bq.1)
  have l2:=iT_len (sm200 bq.2)
  have g1:=lg200 bq.1
  have g2:=lg200 bq.2
  have l3:("/":Str).length=1:=rfl
  have hs:=sizeLine_eq
  unfold wr at hq
  walk_at "rd"
  refine ⟨by omega,by decide, ?_⟩
  by_cases e:(q.den:Int)=1
  · rw [if_pos e] at hq ⊢
    refine ⟨_,at1, ?_⟩
    rw [pAdd_str]
    refine ⟨by show (iT q.num).length + 0≤sizeLine; omega, ?_⟩
    have ee:iT q.num ++ ("":Str)=iT q.num:=Str.append_empty _
    rw [ee]; exact Wk.here hq
  · rw [if_neg e] at hq ⊢
    refine ⟨_,at0, ?_⟩
    rw [pAdd_str]
    exact ⟨by rw [len_app]; omega,Wk.here hq⟩
theorem s_deed (k:L7 T) {f:R3→Rat} {w:Str} {r:R3} {o:Option Rat} {G:Gh} {Q:PK1} (e:T.S w=spDeed7 f) (s:Sh7 12 r) (ok:POk o) (z:Q (shV (tw (f r) (hf o) r)) G):T.S w [shV r,tV o] G Q:=by
  rw [e]; exact ⟨r,o,rfl,s.mono (by decide),ok,z⟩
theorem s_turn (k:L7 T) {r:R3} {o:Option Int} {G:Gh} {Q:PK1} (s:Sh7 40 r) (z:Q (shV (rt (o.getD 1) r)) G):T.S "turned" [shV r,iV o] G Q:=by
  rw [k.turned]; exact ⟨r,o,rfl,s,z⟩
theorem s_opp (k:L7 T) {r:R3} {G:Gh} {Q:PK1} (s:Sh7 40 r) (z:Q (shV (op3 r)) G):T.S "opposite" [shV r] G Q:=by
  rw [k.opposite]; exact ⟨r,rfl,s,z⟩
noncomputable def asD (w:Str):CS:=(.ret (.idx (.lst false (.cons (.cal w (.cons (.var 1) (.cons (.var 2) .nil))) (.cons (.cak w .nil (.cons (.var 2) (.cons (.var 1) .nil)) [.arg 1,.arg 0]) .nil))) (.var 3)))
noncomputable def asO:CS:=(.ret (.idx (.lst false (.cons (.cal "opposite" (.cons (.var 1) .nil)) (.cons (.cak "opposite" .nil (.cons (.var 1) .nil) [.arg 0]) .nil))) (.var 3)))
noncomputable def code_l_asked_07:CS:=(.seq (.iff (.tsb (.cmp .Eq (.var 0) (.str "opposite"))) asO .nil)
  (.seq (.iff (.tsb (.cmp .Eq (.var 0) (.str "lighter"))) (asD "lighter") .nil)
  (.seq (.iff (.tsb (.cmp .Eq (.var 0) (.str "darker"))) (asD "darker") .nil)
  (.seq (.iff (.tsb (.cmp .Eq (.var 0) (.str "duller"))) (asD "duller") .nil)
  (asD "turned")))))
theorem w_asD {w:Str} {r r':R3} {x:PV} {i:Int} {x0:Option PV} {D:PEnds} {G:Gh} (hi:i=0∨i=1) (z:∀ {G:Gh} {Q:PK1},Q (shV r') G→T.S w [shV r,x] G Q) (hq:D.rt (shV r') G):wpS T (asD w) D [x0,some (shV r),some x,some (.int i)] G:=by
  have z':∀ {G:Gh} {Q:PK1},Q (shV r') G→T.S w [SH r.1 r.2.1 r.2.2,x] G Q:=z
  unfold asD
  walk_at "rd"
  exact z' (z' (at2i hi hq hq))
theorem w_asO {r r':R3} {i:Int} {x0 x2:Option PV} {D:PEnds} {G:Gh} (hi:i=0∨i=1) (z:∀ {G:Gh} {Q:PK1},Q (shV r') G→T.S "opposite" [shV r] G Q) (hq:D.rt (shV r') G):wpS T asO D [x0,some (shV r),x2,some (.int i)] G:=by
  have z':∀ {G:Gh} {Q:PK1},Q (shV r') G→T.S "opposite" [SH r.1 r.2.1 r.2.2] G Q:=z
  unfold asO
  walk_at "rd"
  exact z' (z' (at2i hi hq hq))
theorem w_l_asked_07 (k:L7 T):∀ xs G Q,spAsk7 xs G Q→wpS T code_l_asked_07 (endP Q) (startP 4 xs) G:=by
  rintro xs G Q ⟨r,w,x,f,i,rfl,hi,s,d,hq⟩
  unfold code_l_asked_07
  have s4:=s.mono (show 12≤40 by decide)
  rcases d with ⟨rfl,o,rfl,ok,rfl⟩ | ⟨rfl,o,rfl,ok,rfl⟩ | ⟨rfl,o,rfl,ok,rfl⟩ | ⟨rfl,o,rfl,rfl⟩ | ⟨rfl,o,rfl,rfl⟩
  · walk_at "ry"
    exact w_asD hi (fun q=>s_deed k k.lighter s ok q) (Wk.here hq)
  · walk_at "ry"
    exact w_asD hi (fun q=>s_deed k k.darker s ok q) (Wk.here hq)
  · walk_at "ry"
    exact w_asD hi (fun q=>s_deed k k.duller s ok q) (Wk.here hq)
  · walk_at "ry"
    exact w_asD hi (fun q=>s_turn k s4 q) (Wk.here hq)
  · walk_at "ry"
    exact w_asO hi (fun q=>s_opp k s4 q) (Wk.here hq)
end
end L3
namespace L3
open PySem PySem.Spec
open PyProof.Rows hiding St
open L2
theorem rV_e {r:R3}:rV r= .tup [FQ r.1,FQ r.2.1,FQ r.2.2]:=rfl
theorem iV_none {o:Option Int} {G:Gh} {Q:PK1}:pIs false (iV o) .non G Q=Q (.bl o.isNone) G:=by
  cases o with
  | none=>exact pIs_nonF
  | some t=>exact pIs_neF (fun z=>by cases z)
theorem dk_eq {a p:Rat}:a - p * a=a + p * (0 - a):=by grind
local macro_rules | `(tactic| walk_at "rd") => `(tactic| simp only [wpS, wpE, wpL, wpT, wpO, wpI, wpG, wpGs, endP, startP, List.map_cons, List.map_nil, List.length_cons, List.length_nil, List.cons_append, List.nil_append, List.append_nil, List.replicate, Nat.reduceAdd, Nat.reduceSub, Nat.zero_add,
  List.getElem?_cons_zero,List.getElem?_cons_succ,List.set_cons_zero,List.set_cons_succ,var_eq,some_eq,bl_eq,tup_eq,cons_eq,Option.some.injEq,exists_eq_left,exists_eq_left',true_and,and_true,exists_false,ite_self,false_and,and_false,or_false,false_or,
  pI_int,pBin_add,pBin_sub,pBin_mul,pBin_div,pBin_mod,pBin_pow,pAdd_int,pAdd_str,pAdd_lst,pAdd_tup,pCmp_lt,pCmp_le,pCmp_gt,pCmp_ge,pCmp_eq,pCmp_ne,pCmp_is,pCmp_isn,pEq_intF,pEq_intT,pTru_bl,pTru_non,pNeg_int,pIs_nonF,
  pIdx_tup,pIdx_scr,pIdx_lst,pIdx_gup,pSet_gup,pLen_tup,pLen_scr,pLen_lst,pAbs_int,pMax_int,pMin_int,pInt_int,pInt_bl,pIsi_int,pIsi_tup,pTup_lst,pTup_gup,lstOf_lst,lstOf_gup,pAll_lst,gupL_t,gupL_f,seqI_tup,seqI_lst,seqI_scr,
  mem_ty.1,mem_ty.2.1,mem_ty.2.2.1,isTy_1,isTy_2,isTy_3,at0,at1,at2,at3,at4,ixN_0,ixN_1,ixN_2,cast0,cast1,cast2,cast3,List.cons.injEq,PV.int.injEq,PV.bl.injEq,PV.str.injEq,PV.ref.injEq,PV.tup.injEq,and_assoc,exists_and_left,eq_self,FQ_0,FQ_1,FQ_len,FQ_isi,FQ_inj,spWhole,spCommon,spIsFrac,spLowest,needF2,pEq_FQF,SH_isi,Int.reduceToNat,Int.reducePow,exists_eq,exists_eq',forP_nil,forP_cons,compP_nil,compP_cons,enu_1,enu_2,enu_3,rng_3,rng_3b,SH_inj,capP,Option.getD_some,Option.getD_none,List.map,spPlus,spMinus,spTimes,spOver,spBelow,spNear,spPick,spShareL,spSharesL,spMade,spCell,spPurse,spIsFracB,spIsShare,spShade,spIsShade,spNeedS,spSharesOf,spShadeOf,spNeedGr,spIsGr,spIsStep,spNeedStep,spPrinted,spSpan,Bool.not_true,Bool.not_false,Bool.and_self,Bool.and_true,Bool.true_and,if_true,if_false,ite_true,ite_false,Bool.false_eq_true,decide_eq_true_eq,decide_true,decide_false,reduceCtorEq,sz1,sz2,sz3,Wk.here,pEq_SS,tV_none,FQ_hf,FQ_1c,FQ_0c,FQ_trd,pIs_FQ,pIs_intF,pStr_int,shV_e,pEq_str,so_1,so_2,so_3,so_4,so_5,wd_1,wd_2,wd_3,wd_4,wd_5,wd_6,wd_7,wd_8,wd_9,wd_a,wd_b,wd_c,wd_d,wd_e,wd_f,wd_g,wd_h,wd_s,av0,av1,avn,rV_e,iV_none, *])
local macro_rules | `(tactic| walk_at "ry") => `(tactic| simp only [wpS, wpT, wpE, endP, var_eq, List.getElem?_cons_zero, List.getElem?_cons_succ, pCmp_eq, pEq_str, so_1, so_2, so_3, so_4, so_5, wd_5, wd_6, wd_7, wd_8, wd_9, wd_a, wd_b, wd_c, wd_d, wd_1, wd_2, wd_3, wd_4, wd_e, wd_f, wd_g, wd_h, wd_s, bl_eq, true_and, if_true, if_false, Bool.false_eq_true])
section
variable {T:Tb}
noncomputable def ddT:CS:=(.seq (.asg (.gn 4) (.lst true (.cons .non (.cons .non (.cons .non .nil)))))
  (.seq (.fr (.gn 5) (.irg (.cons (.int 3) .nil)) (.sub (.var 4) (.bin .Mod (.bin .Add (.var 5) (.idx (.lst false (.cons (.var 2) (.cons (.int 1) .nil))) (.blt .int (.cons (.cmp .Is (.var 2) .non) .nil)))) (.int 3)) (.idx (.var 0) (.var 5))))
  (.ret (.blt .tuple (.cons (.var 4) .nil)))))
theorem w_ddT {r:R3} {o:Option Int} {w x3 x4 x5 x6:Option PV} {G:Gh} {Q:PK1} (hq:Q (rV (rt (o.getD 1) r)) G):wpS T ddT (endP Q) [some (rV r),w,some (iV o),x3,x4,x5,x6] G:=by
  obtain ⟨a,b,c⟩:=r
  unfold ddT
  have:=@irg_1
  have c3:∀ i:Int,CModG i 3:=fun _=>by show (0:Int) < 3; decide
  have am:atI [iV o,.int 1] (if o.isNone=true then (1:Int) else 0)=some (.int (o.getD 1)):=by
    cases o with
    | none=>exact at1
    | some n=>exact at0
  unfold rt rot at hq
  generalize o.getD 1=n at *
  walk_at "rd"
  have m3:=Int.emod_nonneg n (show (3:Int)≠0 by decide)
  have m4:=Int.emod_lt_of_pos n (show (0:Int) < 3 by decide)
  intro p hp
  refine ⟨by decide,by decide, ?_⟩
  have fin:∀ {x y z:PV},Q (.tup [x,y,z]) G→Wk Q (.tup [x,y,z]) (gup G p (.lst [x,y,z])):=fun {x y z} q=>Wk.of q fun a o z=>by rw [gup_ne (fun e=>by subst e; rw [hp] at z; cases z)]; exact z
  have e:n % 3=0∨n % 3=1∨n % 3=2:=by omega
  rcases e with e | e | e
  · rw [if_pos e] at hq
    rw [show (0 + n) % 3=0 by omega,show (1 + n) % 3=1 by omega,show (2 + n) % 3=2 by omega]
    exact ⟨0,rfl,1,rfl,2,rfl,fin hq⟩
  · rw [if_neg (by omega),if_pos e] at hq
    rw [show (0 + n) % 3=1 by omega,show (1 + n) % 3=2 by omega,show (2 + n) % 3=0 by omega]
    exact ⟨1,rfl,2,rfl,0,rfl,fin hq⟩
  · rw [if_neg (by omega),if_neg (by omega)] at hq
    rw [show (0 + n) % 3=2 by omega,show (1 + n) % 3=0 by omega,show (2 + n) % 3=1 by omega]
    exact ⟨2,rfl,0,rfl,1,rfl,fin hq⟩
noncomputable def dd1:CS:=(.ret (.blt .tuple (.cons (.cmpr false (.gn 1) (.isq (.var 0)) .nil (.cal "_law_plus" (.cons (.var 1) (.cons (.cal "_law_times" (.cons (.var 2) (.cons (.cal "_law_minus" (.cons (.tup (.cons (.int 1) (.cons (.int 1) .nil))) (.cons (.var 1) .nil))) .nil))) .nil))) [none,none,some 3]) .nil)))
noncomputable def dd2:CS:=(.ret (.blt .tuple (.cons (.cmpr false (.gn 1) (.isq (.var 0)) .nil (.cal "_law_minus" (.cons (.var 1) (.cons (.cal "_law_times" (.cons (.var 2) (.cons (.var 1) .nil))) .nil))) [none,none,some 3]) .nil)))
noncomputable def dd3:CS:=(.ret (.blt .tuple (.cons (.cmpr false (.gn 1) (.isq (.var 0)) .nil (.cal "_law_minus" (.cons (.tup (.cons (.int 1) (.cons (.int 1) .nil))) (.cons (.var 1) .nil))) [none,none]) .nil)))
noncomputable def dd5:CS:=(.seq (.asg (.gn 6) (.cal "_law_times" (.cons (.tup (.cons (.int 1) (.cons (.int 3) .nil))) (.cons (.cal "_law_plus" (.cons (.idx (.var 0) (.int 0)) (.cons (.cal "_law_plus" (.cons (.idx (.var 0) (.int 1)) (.cons (.idx (.var 0) (.int 2)) .nil))) .nil))) .nil))))
  (.ret (.blt .tuple (.cons (.cmpr false (.gn 1) (.isq (.var 0)) .nil (.cal "_law_plus" (.cons (.var 1) (.cons (.cal "_law_times" (.cons (.var 3) (.cons (.cal "_law_minus" (.cons (.var 2) (.cons (.var 1) .nil))) .nil))) .nil))) [none,none,some 6,some 3]) .nil))))
noncomputable def ddR:CS:=(.seq (.iff (.tsb (.cmp .Eq (.var 1) (.str "lighter"))) dd1 .nil)
  (.seq (.iff (.tsb (.cmp .Eq (.var 1) (.str "darker"))) dd2 .nil)
  (.seq (.iff (.tsb (.cmp .Eq (.var 1) (.str "opposite"))) dd3 .nil)
  (.seq (.iff (.tsb (.cmp .Eq (.var 1) (.str "turned"))) ddT .nil) dd5))))
noncomputable def code_l_deed_07:CS:=(.seq (.asg (.gn 3) (.var 2))
  (.seq (.iff (.tsb (.cmp .Is (.var 2) .non)) (.asg (.gn 3) (.tup (.cons (.int 1) (.cons (.int 2) .nil)))) .nil) ddR))
noncomputable def DdR (w:Str) (x y:PV) (f:R3→R3):Prop :=
  (w="lighter"∧∃ p,y=FQ p∧Bd 12 p∧f=tw 1 p)∨(w="darker"∧∃ p,y=FQ p∧Bd 12 p∧f=tw 0 p)∨(w="duller"∧∃ p,y=FQ p∧Bd 12 p∧f=fun r=>tw (md r) p r)∨
  (w="turned"∧∃ o,x=iV o∧f=rt (o.getD 1))∨(w="opposite"∧f=op3)
theorem bd_tr:Bd 3 trd:=⟨by unfold Sm; decide,by unfold Sm; decide⟩
noncomputable def Tw4 (p q:Rat) (r:R3):Prop:=Bd 4000 p∧Bd 4000 (q - r.1)∧Bd 4000 (q - r.2.1)∧Bd 4000 (q - r.2.2)∧Bd 4000 (p * (q - r.1))∧Bd 4000 (p * (q - r.2.1))∧Bd 4000 (p * (q - r.2.2))
theorem tw4 {p q:Rat} {m:Nat} {r:R3} (s:Sh7 12 r) (bp:Bd 12 p) (bq:Bd m q) (hm:m≤1000):Tw4 p q r :=
  ⟨bp.mono (by decide),bq.sub s.2.1 (by omega),bq.sub s.2.2.1 (by omega),bq.sub s.2.2.2 (by omega),bp.mul (bq.sub s.2.1 (Nat.le_refl _)) (by omega),bp.mul (bq.sub s.2.2.1 (Nat.le_refl _)) (by omega),bp.mul (bq.sub s.2.2.2 (Nat.le_refl _)) (by omega)⟩
theorem w_dd1 (l:LT T) {r:R3} {p:Rat} {x1 x2 x4 x5 x6:Option PV} {D:PEnds} {G:Gh} (s:Sh7 12 r) (bp:Bd 12 p) (hq:D.rt (rV (tw 1 p r)) G):wpS T dd1 D [some (rV r),x1,x2,some (FQ p),x4,x5,x6] G:=by
  unfold dd1
  have:=l.plus
  have:=l.minus
  have:=l.times
  obtain ⟨t1,t2,t3,t4,t5,t6,t7⟩:=tw4 s bp bd1 (by decide)
  have o4:Bd 4000 1:=bd1.mono (by decide)
  have a4:=s.2.1.mono (show 12≤4000 by decide)
  have b4:=s.2.2.1.mono (show 12≤4000 by decide)
  have c4:=s.2.2.2.mono (show 12≤4000 by decide)
  walk_at "rd"
  exact hq
theorem w_dd2 (l:LT T) {r:R3} {p:Rat} {x1 x2 x4 x5 x6:Option PV} {D:PEnds} {G:Gh} (s:Sh7 12 r) (bp:Bd 12 p) (hq:D.rt (rV (tw 0 p r)) G):wpS T dd2 D [some (rV r),x1,x2,some (FQ p),x4,x5,x6] G:=by
  unfold dd2
  have:=l.minus
  have:=l.times
  have m1:=bp.mul s.2.1 (show 12 + 12≤4000 by decide)
  have m2:=bp.mul s.2.2.1 (show 12 + 12≤4000 by decide)
  have m3:=bp.mul s.2.2.2 (show 12 + 12≤4000 by decide)
  have p4:=bp.mono (show 12≤4000 by decide)
  have a4:=s.2.1.mono (show 12≤4000 by decide)
  have b4:=s.2.2.1.mono (show 12≤4000 by decide)
  have c4:=s.2.2.2.mono (show 12≤4000 by decide)
  walk_at "rd"
  rw [dk_eq,dk_eq,dk_eq]
  exact hq
theorem w_dd3 (l:LT T) {r:R3} {x1 x2 x3 x4 x5 x6:Option PV} {D:PEnds} {G:Gh} (s:Sh7 12 r) (hq:D.rt (rV (op3 r)) G):wpS T dd3 D [some (rV r),x1,x2,x3,x4,x5,x6] G:=by
  unfold dd3
  have:=l.minus
  have o4:Bd 4000 1:=bd1.mono (by decide)
  have a4:=s.2.1.mono (show 12≤4000 by decide)
  have b4:=s.2.2.1.mono (show 12≤4000 by decide)
  have c4:=s.2.2.2.mono (show 12≤4000 by decide)
  walk_at "rd"
  exact hq
theorem w_dd5 (l:LT T) {r:R3} {p:Rat} {x1 x2 x4 x5 x6:Option PV} {D:PEnds} {G:Gh} (s:Sh7 12 r) (bp:Bd 12 p) (hq:D.rt (rV (tw (md r) p r)) G):wpS T dd5 D [some (rV r),x1,x2,some (FQ p),x4,x5,x6] G:=by
  unfold dd5
  have:=l.plus
  have:=l.minus
  have:=l.times
  have a4:=s.2.1.mono (show 12≤4000 by decide)
  have b4:=s.2.2.1.mono (show 12≤4000 by decide)
  have c4:=s.2.2.2.mono (show 12≤4000 by decide)
  have d1:=s.2.2.1.add s.2.2.2 (show 12 + 12 + 1≤25 by decide)
  have d2:=s.2.1.add d1 (show 12 + 25 + 1≤38 by decide)
  have d3:Bd 60 (md r):=by rw [←md_eq]; exact bd_tr.mul d2 (by decide)
  obtain ⟨t1,t2,t3,t4,t5,t6,t7⟩:=tw4 s bp d3 (by decide)
  have e:=@md_eq r
  have t8:=bd_tr.mono (show 3≤4000 by decide)
  have d1':=d1.mono (show 25≤4000 by decide)
  have d2':=d2.mono (show 38≤4000 by decide)
  have d3':=d3.mono (show 60≤4000 by decide)
  walk_at "rd"
  exact hq
theorem w_ddR (l:LT T) {r:R3} {w:Str} {x y:PV} {f:R3→R3} {x4 x5 x6:Option PV} {G:Gh} {Q:PK1} (s:Sh7 12 r) (d:DdR w x y f) (hq:Q (rV (f r)) G) :
    wpS T ddR (endP Q) [some (rV r),some (.str w),some x,some y,x4,x5,x6] G:=by
  unfold ddR
  rcases d with ⟨rfl,p,rfl,bp,rfl⟩ | ⟨rfl,p,rfl,bp,rfl⟩ | ⟨rfl,p,rfl,bp,rfl⟩ | ⟨rfl,o,rfl,rfl⟩ | ⟨rfl,rfl⟩
  · have z:=fun D h=>w_dd1 (x1:=some (.str "lighter")) (x2:=some x) (x4:=x4) (x5:=x5) (x6:=x6) (D:=D) (G:=G) l s bp h
    walk_at "ry"
    exact z _ (Wk.here hq)
  · have z:=fun D h=>w_dd2 (x1:=some (.str "darker")) (x2:=some x) (x4:=x4) (x5:=x5) (x6:=x6) (D:=D) (G:=G) l s bp h
    walk_at "ry"
    exact z _ (Wk.here hq)
  · have z:=fun D h=>w_dd5 (x1:=some (.str "duller")) (x2:=some x) (x4:=x4) (x5:=x5) (x6:=x6) (D:=D) (G:=G) l s bp h
    walk_at "ry"
    exact z _ (Wk.here hq)
  · walk_at "ry"
    exact w_ddT hq
  · have z:=fun D h=>w_dd3 (x1:=some (.str "opposite")) (x2:=some x) (x3:=some y) (x4:=x4) (x5:=x5) (x6:=x6) (D:=D) (G:=G) l s h
    walk_at "ry"
    exact z _ (Wk.here hq)
theorem w_l_deed_07 (l:LT T):∀ xs G Q,spDeedL xs G Q→wpS T code_l_deed_07 (endP Q) (startP 7 xs) G:=by
  rintro xs G Q ⟨r,w,x,f,rfl,s,d,hq⟩
  unfold code_l_deed_07
  have go:∀ {y:PV},DdR w x y f→wpS T ddR (endP Q) [some (rV r),some (.str w),some x,some y,none,none,none] G:=fun d=>w_ddR l s d hq
  rcases d with ⟨rfl,o,rfl,ok,rfl⟩ | ⟨rfl,o,rfl,ok,rfl⟩ | ⟨rfl,o,rfl,ok,rfl⟩ | ⟨rfl,o,rfl,rfl⟩ | ⟨rfl,o,rfl,rfl⟩
  · walk_at "rd"
    cases o with
    | none=>exact go (.inl ⟨rfl,hlf,rfl,half_bd,rfl⟩)
    | some p=>exact go (.inl ⟨rfl,p,rfl,(ok p rfl).2,rfl⟩)
  · walk_at "rd"
    cases o with
    | none=>exact go (.inr (.inl ⟨rfl,hlf,rfl,half_bd,rfl⟩))
    | some p=>exact go (.inr (.inl ⟨rfl,p,rfl,(ok p rfl).2,rfl⟩))
  · walk_at "rd"
    cases o with
    | none=>exact go (.inr (.inr (.inl ⟨rfl,hlf,rfl,half_bd,rfl⟩)))
    | some p=>exact go (.inr (.inr (.inl ⟨rfl,p,rfl,(ok p rfl).2,rfl⟩)))
  · walk_at "rd"
    cases o with
    | none=>exact go (.inr (.inr (.inr (.inl ⟨rfl,none,rfl,rfl⟩))))
    | some n=>exact go (.inr (.inr (.inr (.inl ⟨rfl,some n,rfl,rfl⟩))))
  · walk_at "rd"
    cases o with
    | none=>exact go (.inr (.inr (.inr (.inr ⟨rfl,rfl⟩))))
    | some n=>exact go (.inr (.inr (.inr (.inr ⟨rfl,rfl⟩))))
end
end L3
namespace L3
open PySem PySem.Spec
open PyProof.Rows hiding St
open L2
theorem mem_words {w:Str} (h:w∈words):w="lighter"∨w="darker"∨w="duller"∨w="turned"∨w="opposite":=by
  simpa [words] using h
theorem ne_tup {T:Tb} {a b c:Rat} {G:Gh} {Q:PK1} (q:Q (.bl false) G):pNeO T [("Shade","Shade.__eq__")] (.tup [FQ a,FQ b,FQ c]) (.tup [FQ a,FQ b,FQ c]) G Q:=by
  refine .inr ?_
  rw [pEq_SST]
  simpa using q
theorem ne_str {T:Tb} {a:Str} {G:Gh} {Q:PK1} (h:PyData.strOk a=true) (q:Q (.bl false) G):pNeO T [("Shade","Shade.__eq__")] (.str a) (.str a) G Q:=by
  refine .inr ?_
  rw [pNe_str]
  refine ⟨h,h, ?_⟩
  rw [wd_s]; exact q
theorem ne_sh {T:Tb} {r:R3} {G:Gh} {Q:PK1} (h:T.S "Shade.__eq__"=spEqS) (q:Q (.bl false) G):pNeO T [("Shade","Shade.__eq__")] (shV r) (shV r) G Q :=
  .inl ⟨"Shade","Shade.__eq__",_,_,_,_,List.mem_singleton.mpr rfl,rfl,rfl,by rw [h]; exact ⟨_,_,_,_,_,_,rfl,true,by simp,q⟩⟩
theorem cnt_in {r:R3}:0≤cnt r∧cnt r < 2 ^ 63:=by
  unfold cnt
  split <;> split <;> split <;> decide
theorem at6 {a b c d e f:PV} {i:Int} {P:PV→Prop} (h0:0≤i) (h6:i < 6) (q0:P a) (q1:P b) (q2:P c) (q3:P d) (q4:P e) (q5:P f):∃ v,atI [a,b,c,d,e,f] i=some v∧P v:=by
  have:i=0∨i=1∨i=2∨i=3∨i=4∨i=5:=by omega
  rcases this with rfl | rfl | rfl | rfl | rfl | rfl
  · exact ⟨_,at0,q0⟩
  · exact ⟨_,at1,q1⟩
  · exact ⟨_,at2,q2⟩
  · exact ⟨_,at3,q3⟩
  · exact ⟨_,at4,q4⟩
  · exact ⟨f,(show atI [a,b,c,d,e,f] ((5:Nat):Int)=some f from atI_nat rfl),q5⟩
theorem pok_none:POk none:=fun _ e=>nomatch e
theorem pok_some {p:Rat} (h:In1 p) (b:Bd 12 p):POk (some p):=fun _ e=>by cases e; exact ⟨h,b⟩
local macro_rules | `(tactic| walk_at "rd") => `(tactic| simp only [wpS, wpE, wpL, wpT, wpO, wpI, wpG, wpGs, endP, startP, List.map_cons, List.map_nil, List.length_cons, List.length_nil, List.cons_append, List.nil_append, List.append_nil, List.replicate, Nat.reduceAdd, Nat.reduceSub, Nat.zero_add,
  List.getElem?_cons_zero,List.getElem?_cons_succ,List.set_cons_zero,List.set_cons_succ,var_eq,some_eq,bl_eq,tup_eq,cons_eq,Option.some.injEq,exists_eq_left,exists_eq_left',true_and,and_true,exists_false,ite_self,false_and,and_false,or_false,false_or,
  pI_int,pBin_add,pBin_sub,pBin_mul,pBin_div,pBin_mod,pBin_pow,pAdd_int,pAdd_str,pAdd_lst,pAdd_tup,pCmp_lt,pCmp_le,pCmp_gt,pCmp_ge,pCmp_eq,pCmp_ne,pCmp_is,pCmp_isn,pEq_intF,pEq_intT,pTru_bl,pTru_non,pNeg_int,pIs_nonF,
  pIdx_tup,pIdx_scr,pIdx_lst,pIdx_gup,pSet_gup,pLen_tup,pLen_scr,pLen_lst,pAbs_int,pMax_int,pMin_int,pInt_int,pInt_bl,pIsi_int,pIsi_tup,pTup_lst,pTup_gup,lstOf_lst,lstOf_gup,pAll_lst,gupL_t,gupL_f,seqI_tup,seqI_lst,seqI_scr,
  mem_ty.1,mem_ty.2.1,mem_ty.2.2.1,isTy_1,isTy_2,isTy_3,at0,at1,at2,at3,at4,ixN_0,ixN_1,ixN_2,cast0,cast1,cast2,cast3,List.cons.injEq,PV.int.injEq,PV.bl.injEq,PV.str.injEq,PV.ref.injEq,PV.tup.injEq,and_assoc,exists_and_left,eq_self,FQ_0,FQ_1,FQ_len,FQ_isi,FQ_inj,spWhole,spCommon,spIsFrac,spLowest,needF2,pEq_FQF,SH_isi,Int.reduceToNat,Int.reducePow,exists_eq,exists_eq',forP_nil,forP_cons,compP_nil,compP_cons,enu_1,enu_2,enu_3,rng_3,rng_3b,SH_inj,capP,Option.getD_some,Option.getD_none,List.map,spPlus,spMinus,spTimes,spOver,spBelow,spNear,spPick,spShareL,spSharesL,spMade,spCell,spPurse,spIsFracB,spIsShare,spShade,spIsShade,spNeedS,spSharesOf,spShadeOf,spNeedGr,spIsGr,spIsStep,spNeedStep,spPrinted,spSpan,Bool.not_true,Bool.not_false,Bool.and_self,Bool.and_true,Bool.true_and,if_true,if_false,ite_true,ite_false,Bool.false_eq_true,decide_eq_true_eq,decide_true,decide_false,reduceCtorEq,sz1,sz2,sz3,Wk.here,pEq_SS,tV_none,FQ_hf,FQ_1c,FQ_0c,pStr_int,shV_e,rV_e,pEq_str,so_1,so_2,so_3,so_4,so_5,wd_f,wd_g,wd_e,wd_h,wd_s, *])
section
variable {T:Tb}
noncomputable def code_l_by_07:CS:=(.seq (.asg (.gn 2) (.cal "_law_pick" (.cons (.var 0) (.cons (.int 6) .nil))))
  (.seq (.iff (.tsb (.cmp .Eq (.var 1) (.str "turned"))) (.seq (.asg (.gn 3) (.lst false (.cons .non (.cons (.int 0) (.cons (.bin .Add (.int 1) (.cal "_law_pick" (.cons (.var 0) (.cons (.int 3) .nil)))) (.cons (.bin .Sub (.bin .Sub (.int 0) (.int 1)) (.cal "_law_pick" (.cons (.var 0) (.cons (.int 7) .nil)))) (.cons (.bin .Add (.bin .Pow (.int 10) (.int 30)) (.cal "_law_pick" (.cons (.var 0) (.cons (.int 9) .nil)))) .nil)))))))
  (.ret (.idx (.bin .Add (.var 3) (.lst false (.cons (.bin .Sub (.bin .Sub (.int 0) (.bin .Pow (.int 10) (.int 20))) (.cal "_law_pick" (.cons (.var 0) (.cons (.int 9) .nil)))) .nil))) (.var 2)))) .nil)
  (.ret (.idx (.lst false (.cons .non (.cons (.tup (.cons (.int 0) (.cons (.int 1) .nil))) (.cons (.tup (.cons (.int 1) (.cons (.int 1) .nil))) (.cons (.tup (.cons (.int 1) (.cons (.int 2) .nil))) (.cons (.cal "_law_share" (.cons (.var 0) .nil)) (.cons (.cal "_law_share" (.cons (.var 0) .nil)) .nil))))))) (.var 2)))))
theorem dd_of {w:Str} (h:w∈words) (ht:¬w="turned") {o:Option Rat} (ok:POk o):∃ f,Dd w (tV o) f:=by
  rcases mem_words h with rfl | rfl | rfl | rfl | rfl
  · exact ⟨_,.inl ⟨rfl,o,rfl,ok,rfl⟩⟩
  · exact ⟨_,.inr (.inl ⟨rfl,o,rfl,ok,rfl⟩)⟩
  · exact ⟨_,.inr (.inr (.inl ⟨rfl,o,rfl,ok,rfl⟩))⟩
  · exact absurd rfl ht
  · exact ⟨_,.inr (.inr (.inr (.inr ⟨rfl,o,rfl,rfl⟩)))⟩
theorem dd_turn {o:Option Int}:Dd "turned" (iV o) (rt (o.getD 1)):=.inr (.inr (.inr (.inl ⟨rfl,o,rfl,rfl⟩)))
theorem ok_words {w:Str} (h:w∈words):PyData.strOk w=true:=by
  rcases mem_words h with rfl | rfl | rfl | rfl | rfl <;> exact ok_of _
theorem w_l_by_07 (l:LT T):∀ xs G Q,spBy7 xs G Q→wpS T code_l_by_07 (endP Q) (startP 4 xs) G:=by
  rintro xs G Q ⟨p,w,rfl,hp,hw,hq⟩
  unfold code_l_by_07
  have:=l.pick
  have:=l.share
  have cp:CPow 10 20:=by unfold CPow; decide
  have cp3:CPow 10 30:=by unfold CPow; decide
  have okw:=ok_words hw
  by_cases ht:w="turned"
  · subst ht
    walk_at "rd"
    refine ⟨by decide,smP (by decide) (by decide),fun r G1 r0 r6 m1=>⟨m1.pu,by decide,smP (by decide) (by decide),fun a G2 _ _ m2=>⟨m2.pu,by decide,smP (by decide) (by decide),fun b G3 _ _ m3=>⟨m3.pu,by decide,smP (by decide) (by decide),fun c G4 _ _ m4=>⟨by decide,m4.pu,by decide,smP (by decide) (by decide),fun d G5 _ _ m5=>⟨by decide, ?_⟩⟩⟩⟩⟩⟩
    have m:=(((m1.trans m2).trans m3).trans m4).trans m5
    have fin:∀ o:Option Int,Wk Q (iV o) G5:=fun o=>Wk.here (hq _ _ _ dd_turn m)
    exact at6 (P:=fun v=>Wk Q v G5) r0 r6 (fin none) (fin (some _)) (fin (some _)) (fin (some _)) (fin (some _)) (fin (some _))
  · have ne:(w == ("turned":Str))=false:=beq_eq_false_iff_ne.mpr ht
    walk_at "rd"
    refine ⟨by decide,smP (by decide) (by decide),fun r G1 r0 r6 m1=>⟨m1.pu,fun q1 G2 i1 b1 m2=>⟨m2.pu,fun q2 G3 i2 b2 m3=>⟨by decide, ?_⟩⟩⟩⟩
    have m:=(m1.trans m2).trans m3
    have fin:∀ {o:Option Rat},POk o→Wk Q (tV o) G3:=fun {o} ok=>by
      obtain ⟨f,d⟩:=dd_of hw ht ok
      exact Wk.here (hq _ f _ d m)
    exact at6 (P:=fun v=>Wk Q v G3) r0 r6 (fin pok_none) (fin (pok_some in_0 (bd0.mono (by decide)))) (fin (pok_some in_1 (bd1.mono (by decide)))) (fin (pok_some half_in half_bd)) (fin (pok_some i1 b1)) (fin (pok_some i2 b2))
noncomputable def is3:CS:=(.seq (.asg (.gn 3) (.bow .len [("Shade","Shade.__len__")] (.cons (.cmpr false (.gn 1) (.isq (.var 1)) (.tsb (.cmp .Gt (.idx (.var 1) (.int 0)) (.int 0))) (.var 1) [none,none]) .nil)))
  (.ret (.an (.cmp .Eq (.bow .len [("Shade","Shade.__len__")] (.cons (.var 0) .nil)) (.var 3)) (.cmp .Eq (.bow .bool [("Shade","Shade.__len__")] (.cons (.var 0) .nil)) (.cmp .Gt (.var 3) (.int 0))))))
theorem w_is3 (k:L7 T) {r:R3} {x2 x3:Option PV} {G:Gh} {Q:PK1} (hq:Q (.bl true) G):wpS T is3 (endP Q) [some (shV r),some (rV r),x2,x3] G:=by
  unfold is3
  have e1:=k.lenS
  obtain ⟨c0,c1⟩:=cnt_in (r:=r)
  simp only [wpS,wpE,wpL,wpI,gupL_f,capP,rV]
  refine ⟨_,rfl,(show 3≤sizeLine by decide),w_pos (.inr ?_)⟩
  rw [pLen_lst,cnt_len]
  walk_at "rd"
  refine bow_own ?_
  rw [e1]
  refine ⟨r,rfl,_,rfl,c0,c1, ?_⟩
  walk_at "rd"
  refine bow_own ?_
  rw [e1]
  refine ⟨r,rfl,_,rfl,c0,c1, ?_⟩
  walk_at "rd"
  have e:(cnt r != 0)=decide (0 < cnt r):=by
    by_cases z:cnt r=0
    · rw [z]; rfl
    · rw [decide_eq_true (by omega)]; simpa using z
  rw [e]
  refine ⟨rfl,rfl, ?_⟩
  simp only [pur,peq,beq_self_eq_true,Bool.false_eq_true,if_false]
  exact Wk.here hq
noncomputable def is2:CS:=(.seq (.iff (.oo (.tsb (.cne [("Shade","Shade.__eq__")] (.bow .str [("Shade","Shade.__str__")] (.cons (.var 0) .nil)) (.var 2))) (.tsb (.cne [("Shade","Shade.__eq__")] (.bow .repr [("Shade","Shade.__repr__")] (.cons (.var 0) .nil)) (.bin .Add (.bin .Add (.str "Shade(") (.var 2)) (.str ")"))))) (.ret (.bl false)) .nil) is3)
theorem w_is2 (k:L7 T) {r:R3} {x3:Option PV} {G:Gh} {Q:PK1} (s:Sh7 200 r) (hq:Q (.bl true) G):wpS T is2 (endP Q) [some (shV r),some (rV r),some (.str (str3 r)),x3] G:=by
  unfold is2
  have e1:=k.strS
  have e2:=k.repS
  have l:=str3_len s.2.1 s.2.2.1 s.2.2.2
  have l1:("Shade(":Str).length=6:=rfl
  have l2:(")":Str).length=1:=rfl
  have hs:=sizeLine_eq
  walk_at "rd"
  refine bow_own ?_
  rw [e1]
  refine ⟨r,rfl,s,_,rfl,ne_str ok_s3 ?_⟩
  walk_at "rd"
  refine bow_own ?_
  rw [e2]
  refine ⟨r,rfl,s,_,rfl,by omega,by rw [len_app]; omega,ne_str ok_r3 ?_⟩
  refine ⟨false,rfl, ?_⟩
  rw [if_neg Bool.false_ne_true]
  exact w_is3 k hq
noncomputable def is1:CS:=(.seq (.asg (.gn 2) (.joi (.str " ") (.cmpr false (.gn 1) (.isq (.var 1)) .nil (.cal "_law_text" (.cons (.var 1) .nil)) [none,none]))) is2)
theorem w_is1 (k:L7 T) {r:R3} {x2 x3:Option PV} {G:Gh} {Q:PK1} (s:Sh7 200 r) (hq:Q (.bl true) G):wpS T is1 (endP Q) [some (shV r),some (rV r),x2,x3] G:=by
  unfold is1
  have e1:=k.text
  obtain ⟨⟨i1,i2,i3⟩,b1,b2,b3⟩:=s
  have tx:∀ {q:Rat} {G:Gh} {Q:PK1},In1 q→Bd 200 q→Q (.str (wr q)) G→T.S "_law_text" [FQ q] G Q:=fun {q G Q} h h' z=>by rw [e1]; exact ⟨q,rfl,h.1,h',z⟩
  clear e1
  have l1:=wr_len b1
  have l2:=wr_len b2
  have l3:=wr_len b3
  walk_at "rd"
  refine tx i1 b1 (tx i2 b2 (tx i3 b3 ⟨[wr r.1,wr r.2.1,wr r.2.2],rfl, ?_, ?_⟩))
  · show (wr r.1).length + ((wr r.2.1).length + ((wr r.2.2).length + 0)) + 3 * 1≤16777216
    omega
  · exact w_is2 k ⟨⟨i1,i2,i3⟩,b1,b2,b3⟩ hq
noncomputable def isB:CS:=(.seq (.iff (.oo (.no (.tst (.blt .all (.cons (.cmpr false (.gn 1) (.isq (.cal "shares_of" (.cons (.var 0) .nil))) .nil (.cal "_law_is_fraction" (.cons (.var 1) .nil)) [none,none]) .nil)))) (.tsb (.cne [("Shade","Shade.__eq__")] (.var 0) (.cal "Shade" (.cons (.idx (.var 1) (.int 0)) (.cons (.idx (.var 1) (.int 1)) (.cons (.idx (.var 1) (.int 2)) .nil))))))) (.ret (.bl false)) .nil) is1)
theorem w_isB (h:PT T) (lt:LT T) (k:L7 T) {r:R3} {x2 x3:Option PV} {G:Gh} {Q:PK1} (s:Sh7 200 r) (hq:Q (.bl true) G):wpS T isB (endP Q) [some (shV r),some (rV r),x2,x3] G:=by
  unfold isB
  have:=h.shares_of
  have:=lt.is_fraction
  have es:=h.shade
  have:=s.2.1.mono (show 200≤8900 by decide)
  have:=s.2.2.1.mono (show 200≤8900 by decide)
  have:=s.2.2.2.mono (show 200≤8900 by decide)
  have ss:∀ {Q:PK1},Q (shV r) G→T.S "Shade" [FQ r.1,FQ r.2.1,FQ r.2.2] G Q:=fun {Q} q=>by rw [es]; exact ⟨_,_,_,rfl,s.1.1,s.1.2.1,s.1.2.2,q⟩
  clear es
  walk_at "rd"
  refine ⟨true,rfl, ?_⟩
  rw [if_neg (by decide)]
  refine ss (ne_sh k.eqS ?_)
  walk_at "rd"
  exact w_is1 k s hq
noncomputable def code_l_is_07:CS:=(.seq (.iff (.oo (.no (.tst (.cal "is_shade" (.cons (.var 0) .nil)))) (.oo (.tsb (.cne [("Shade","Shade.__eq__")] (.cal "shares_of" (.cons (.var 0) .nil)) (.var 1))) (.tsb (.cne [("Shade","Shade.__eq__")] (.tup (.cons (.att (.var 0) "ember") (.cons (.att (.var 0) "leaf") (.cons (.att (.var 0) "sky") .nil)))) (.var 1))))) (.ret (.bl false)) .nil) isB)
theorem w_l_is_07 (h:PT T) (lt:LT T) (k:L7 T):∀ xs G Q,spIs7 xs G Q→wpS T code_l_is_07 (endP Q) (startP 4 xs) G:=by
  rintro xs G Q ⟨r,rfl,s,hq⟩
  unfold code_l_is_07
  have:=h.shares_of
  have:=h.is_shade
  have e1:=@SH_e T h
  have e2:=@SH_l T h
  have e3:=@SH_s T h
  walk_at "rd"
  refine ne_tup ?_
  walk_at "rd"
  refine ne_tup ?_
  walk_at "rd"
  exact w_isB h lt k s hq
end
end L3
namespace L3
open PySem PySem.Spec
open PyProof.Rows hiding St
open L2
theorem rt_rt {n m:Int} {r:R3}:rt m (rt n r)=rt (n + m) r:=by
  obtain ⟨a,b,c⟩:=r
  have h1:n % 3=0∨n % 3=1∨n % 3=2:=by omega
  have h2:m % 3=0∨m % 3=1∨m % 3=2:=by omega
  unfold rt rot
  rcases h1 with h1 | h1 | h1 <;> rcases h2 with h2 | h2 | h2 <;> simp only [h1,h2] <;>
    first
    | (rw [show (n + m) % 3=0 by omega]; rfl)
    | (rw [show (n + m) % 3=1 by omega]; rfl)
    | (rw [show (n + m) % 3=2 by omega]; rfl)
theorem rt_0 {n:Int} {r:R3} (h:n % 3=0):rt n r=r:=by unfold rt rot; rw [if_pos h]
theorem op_op {r:R3}:op3 (op3 r)=r:=by
  obtain ⟨a,b,c⟩:=r
  unfold op3
  have e:∀ x:Rat,1 - (1 - x)=x:=fun x=>by grind
  simp only [e]
theorem tw_0 {q:Rat} {r:R3}:tw q 0 r=r:=by
  obtain ⟨a,b,c⟩:=r
  unfold tw
  have e:∀ x y:Rat,x + 0 * y=x:=fun x y=>by grind
  simp only [e]
local macro_rules | `(tactic| walk_at "rd") => `(tactic| simp only [wpS, wpE, wpL, wpT, wpO, wpI, wpG, wpGs, endP, startP, List.map_cons, List.map_nil, List.length_cons, List.length_nil, List.cons_append, List.nil_append, List.append_nil, List.replicate, Nat.reduceAdd, Nat.reduceSub, Nat.zero_add,
  List.getElem?_cons_zero,List.getElem?_cons_succ,List.set_cons_zero,List.set_cons_succ,var_eq,some_eq,bl_eq,tup_eq,cons_eq,Option.some.injEq,exists_eq_left,exists_eq_left',true_and,and_true,exists_false,ite_self,false_and,and_false,or_false,false_or,
  pI_int,pBin_add,pBin_sub,pBin_mul,pBin_div,pBin_mod,pBin_pow,pAdd_int,pAdd_str,pAdd_lst,pAdd_tup,pCmp_lt,pCmp_le,pCmp_gt,pCmp_ge,pCmp_eq,pCmp_ne,pCmp_is,pCmp_isn,pEq_intF,pEq_intT,pTru_bl,pTru_non,pNeg_int,pIs_nonF,
  pIdx_tup,pIdx_scr,pIdx_lst,pIdx_gup,pSet_gup,pLen_tup,pLen_scr,pLen_lst,pAbs_int,pMax_int,pMin_int,pInt_int,pInt_bl,pIsi_int,pIsi_tup,pTup_lst,pTup_gup,lstOf_lst,lstOf_gup,pAll_lst,gupL_t,gupL_f,seqI_tup,seqI_lst,seqI_scr,
  mem_ty.1,mem_ty.2.1,mem_ty.2.2.1,isTy_1,isTy_2,isTy_3,at0,at1,at2,at3,at4,ixN_0,ixN_1,ixN_2,cast0,cast1,cast2,cast3,List.cons.injEq,PV.int.injEq,PV.bl.injEq,PV.str.injEq,PV.ref.injEq,PV.tup.injEq,and_assoc,exists_and_left,eq_self,FQ_0,FQ_1,FQ_len,FQ_isi,FQ_inj,spWhole,spCommon,spIsFrac,spLowest,needF2,pEq_FQF,SH_isi,Int.reduceToNat,Int.reducePow,exists_eq,exists_eq',forP_nil,forP_cons,compP_nil,compP_cons,enu_1,enu_2,enu_3,rng_3,rng_3b,SH_inj,capP,Option.getD_some,Option.getD_none,List.map,spPlus,spMinus,spTimes,spOver,spBelow,spNear,spPick,spShareL,spSharesL,spMade,spCell,spPurse,spIsFracB,spIsShare,spShade,spIsShade,spNeedS,spSharesOf,spShadeOf,spNeedGr,spIsGr,spIsStep,spNeedStep,spPrinted,spSpan,Bool.not_true,Bool.not_false,Bool.and_self,Bool.and_true,Bool.true_and,if_true,if_false,ite_true,ite_false,Bool.false_eq_true,decide_eq_true_eq,decide_true,decide_false,reduceCtorEq,sz1,sz2,sz3,Wk.here,pEq_SS,tV_none,FQ_hf,FQ_1c,FQ_0c,shV_e,rV_e,pEq_str,av0,av1,avn, *])
section
variable {T:Tb}
theorem s_is (k:L7 T) {r r':R3} {G:Gh} {Q:PK1} (s:Sh7 200 r) (e:r'=r) (z:Q (.bl true) G):T.S "_law_is" [shV r',rV r] G Q:=by
  subst e; rw [k.is_]; exact ⟨r',rfl,s,z⟩
theorem dd_sh {w:Str} {x:PV} {f:R3→R3} {r:R3} (d:Dd w x f) (s:Sh7 12 r):Sh7 200 (f r):=by
  rcases d with ⟨_,o,_,ok,rfl⟩ | ⟨_,o,_,ok,rfl⟩ | ⟨_,o,_,ok,rfl⟩ | ⟨_,o,_,rfl⟩ | ⟨_,o,_,rfl⟩
  · exact (tw_sh s in_1 bd1 ok.hf.1 ok.hf.2).mono (by decide)
  · exact (tw_sh s in_0 bd0 ok.hf.1 ok.hf.2).mono (by decide)
  · exact (tw_sh s (md_in s.1) (md_bd s.2.1 s.2.2.1 s.2.2.2) ok.hf.1 ok.hf.2).mono (by decide)
  · exact (rt_sh s).mono (by decide)
  · exact (op_sh s).mono (by decide)
theorem s_ddl (k:L7 T) {w:Str} {x:PV} {f:R3→R3} {r:R3} {G:Gh} {Q:PK1} (s:Sh7 12 r) (d:Dd w x f) (z:Q (rV (f r)) G):T.S "_law_deed" [rV r,.str w,x] G Q:=by
  rw [k.deed]; exact ⟨r,w,x,f,rfl,s,d,z⟩
theorem s_ask (k:L7 T) {w:Str} {x:PV} {f:R3→R3} {r:R3} {i:Int} {G:Gh} {Q:PK1} (hi:i=0∨i=1) (s:Sh7 12 r) (d:Dd w x f) (z:Q (shV (f r)) G):T.S "_law_asked" [.str w,shV r,x,.int i] G Q:=by
  rw [k.asked]; exact ⟨r,w,x,f,i,rfl,hi,s,d,z⟩
noncomputable def code_l_home:CS:=(.seq (.iff (.oo (.no (.tst (.cal "_law_is" (.cons (.cak "turned" (.cons (.cak "turned" (.cons (.cak "turned" (.cons (.var 0) .nil) .nil [.arg 0,.non]) .nil) .nil [.arg 0,.non]) .nil) .nil [.arg 0,.non]) (.cons (.var 1) .nil))))) (.no (.tst (.cal "_law_is" (.cons (.cal "turned" (.cons (.cak "turned" (.cons (.var 0) .nil) .nil [.arg 0,.non]) (.cons (.neg (.int 1)) .nil))) (.cons (.var 1) .nil)))))) (.ret (.bl false)) .nil)
  (.seq (.iff (.oo (.no (.tst (.cal "_law_is" (.cons (.cal "turned" (.cons (.cal "turned" (.cons (.var 0) (.cons (.var 2) .nil))) (.cons (.bin .Sub (.int 0) (.var 2)) .nil))) (.cons (.var 1) .nil))))) (.no (.tst (.cal "_law_is" (.cons (.cal "turned" (.cons (.var 0) (.cons (.bin .Mult (.int 3) (.var 2)) .nil))) (.cons (.var 1) .nil)))))) (.ret (.bl false)) .nil)
  (.ret (.an (.cal "_law_is" (.cons (.cal "opposite" (.cons (.cal "opposite" (.cons (.var 0) .nil)) .nil)) (.cons (.var 1) .nil))) (.cal "_law_is" (.cons (.cal "lighter" (.cons (.var 0) (.cons (.tup (.cons (.int 0) (.cons (.int 1) .nil))) .nil))) (.cons (.var 1) .nil)))))))
theorem w_l_home (k:L7 T):∀ xs G Q,spHome xs G Q→wpS T code_l_home (endP Q) (startP 3 xs) G:=by
  rintro xs G Q ⟨r,n,rfl,s,n1,n5,hq⟩
  unfold code_l_home
  have s4:=s.mono (show 12≤40 by decide)
  have s2:=s.mono (show 12≤200 by decide)
  have t1:∀ {r:R3} {n:Int} {G:Gh} {Q:PK1},Sh7 40 r→Q (shV (rt n r)) G→T.S "turned" [shV r,.int n] G Q:=fun {r n G Q} h z=>s_turn k (o:=some n) h z
  have t0:∀ {r:R3} {G:Gh} {Q:PK1},Sh7 40 r→Q (shV (rt 1 r)) G→T.S "turned" [shV r,.non] G Q:=fun {r G Q} h z=>s_turn k (o:=none) h z
  have cm:CMulG 3 n:=mulB (k:=3) (l:=8) (by unfold Sm; decide) (by unfold Sm; omega)
  walk_at "rd"
  refine t0 s4 (t0 (rt_sh s4) (t0 (rt_sh (rt_sh s4)) (s_is k s2 (by rw [rt_rt,rt_rt]; exact rt_0 (by decide)) ?_)))
  walk_at "rd"
  refine t0 s4 (t1 (rt_sh s4) (s_is k s2 (by rw [rt_rt]; exact rt_0 (by decide)) ?_))
  walk_at "rd"
  refine t1 s4 (t1 (rt_sh s4) (s_is k s2 (by rw [rt_rt]; exact rt_0 (by omega)) ?_))
  walk_at "rd"
  refine t1 s4 (s_is k s2 (rt_0 (by omega)) ?_)
  walk_at "rd"
  refine s_opp k s4 (s_opp k ((op_sh s).mono (by decide)) (s_is k s2 op_op ?_))
  walk_at "rd"
  exact s_deed k (o:=some 0) k.lighter s (pok_some in_0 (bd0.mono (by decide))) (s_is k s2 tw_0 (Wk.here hq))
theorem compP_tt {g:PTG} {te:PTE} {Q:List PV→Gh→Prop} (J:PSt→Prop) {G:Gh}:∀ (xs acc:List PV) (σ:PSt),J σ→(∀ x∈xs,∀ σ (R:PV→PSt→Gh→Prop),J σ→(∀ σ',J σ'→R (.bl true) σ' G)→g x σ G fun σ2 G2=>te σ2 G2 fun y G3=>R y σ2 G3)→
    Q (acc ++ List.replicate xs.length (.bl true)) G→compP (fun _=>True) g (fun _ G Q=>Q true G) te xs acc σ G Q
  | [],acc,σ,_,_,q=>⟨trivial,by simpa using q⟩
  | x :: r,acc,σ,j,h,q=>by
    refine ⟨trivial, ?_⟩
    simp only [if_true]
    refine h x (List.mem_cons_self ..) σ (fun y σ' G'=>compP (fun _=>True) g (fun _ G Q=>Q true G) te r (acc ++ [y]) σ' G' Q) j fun σ' j'=>?_
    refine compP_tt J r _ _ j' (fun x hx=>h x (List.mem_cons_of_mem _ hx)) ?_
    rw [List.append_assoc]
    simpa [List.replicate_succ] using q
noncomputable def loEl:CE:=(.cal "_law_is" (.cons (.var 1) (.cons (.cal "_law_deed" (.cons (.var 3) (.cons (.var 2) (.cons .non .nil)))) .nil)))
noncomputable def loB:CS:=(.ret (.blt .all (.cons (.cmpr false (.gt 2 (.cons (.gn 1) (.cons (.gn 2) .nil))) (.isq (.var 2)) .nil loEl [none,none,none,some 1]) .nil)))
theorem w_loB (k:L7 T) {r:R3} {xs:List PV} {x0:Option PV} {G:Gh} {Q:PK1} (s:Sh7 12 r) (hl:xs.length=6) (hx:∀ x∈xs,∃ w f,x= .tup [shV (f r),.str w]∧Dd w .non f) (hq:Q (.bl true) G) :
    wpS T loB (endP Q) [x0,some (rV r),some (.lst xs)] G:=by
  unfold loB
  simp only [wpS,wpE,wpL,wpI,var_eq,List.getElem?_cons_zero,List.getElem?_cons_succ,seqI_lst,capP,List.map_cons,List.map_nil,Option.getD_some,wpT,gupL_f,endP]
  refine ⟨by rw [hl]; exact szN (by decide), ?_⟩
  refine compP_tt (fun σ=>∃ a b c,σ=[a,b,c,some (rV r)]) xs [] _ ⟨_,_,_,rfl⟩ ?_ ?_
  · rintro x hm σ R ⟨a,b,c,rfl⟩ hR
    obtain ⟨w,f,rfl,d⟩:=hx x hm
    unfold loEl
    simp only [wpG,wpGs,wpE,wpL,tup_eq,cons_eq,List.length_cons,List.length_nil,Nat.zero_add,Nat.reduceAdd,true_and,List.set_cons_zero,List.set_cons_succ,List.getElem?_cons_zero,List.getElem?_cons_succ,var_eq]
    exact s_ddl k s d (s_is k (dd_sh d s) rfl (hR _ ⟨_,_,_,rfl⟩))
  · rw [List.nil_append,hl,pAll_lst]
    exact ⟨true,rfl,Wk.here hq⟩
noncomputable def code_l_left_out:CS:=(.seq (.asg (.gn 2) (.lst false (.cons (.tup (.cons (.cak "lighter" (.cons (.var 0) .nil) .nil [.arg 0,.non]) (.cons (.str "lighter") .nil))) (.cons (.tup (.cons (.cak "darker" (.cons (.var 0) .nil) .nil [.arg 0,.non]) (.cons (.str "darker") .nil))) (.cons (.tup (.cons (.cak "duller" (.cons (.var 0) .nil) .nil [.arg 0,.non]) (.cons (.str "duller") .nil))) (.cons (.tup (.cons (.cak "turned" (.cons (.var 0) .nil) .nil [.arg 0,.non]) (.cons (.str "turned") .nil))) .nil))))))
  (.seq (.asg (.gn 2) (.bin .Add (.var 2) (.lst false (.cons (.tup (.cons (.cak "lighter" .nil (.cons (.var 0) .nil) [.arg 0,.non]) (.cons (.str "lighter") .nil))) (.cons (.tup (.cons (.cak "turned" .nil (.cons (.var 0) .nil) [.arg 0,.non]) (.cons (.str "turned") .nil))) .nil)))))
  loB))
theorem w_l_left_out (k:L7 T):∀ xs G Q,spLeft xs G Q→wpS T code_l_left_out (endP Q) (startP 3 xs) G:=by
  rintro xs G Q ⟨r,rfl,s,hq⟩
  unfold code_l_left_out
  have s4:=s.mono (show 12≤40 by decide)
  have t0:∀ {G:Gh} {Q:PK1},Q (shV (rt 1 r)) G→T.S "turned" [shV r,.non] G Q:=fun {G Q} z=>s_turn k (o:=none) s4 z
  have tl:∀ {G:Gh} {Q:PK1},Q (shV (tw 1 hlf r)) G→T.S "lighter" [shV r,.non] G Q:=fun {G Q} z=>s_deed k (o:=none) k.lighter s pok_none z
  have td:∀ {G:Gh} {Q:PK1},Q (shV (tw 0 hlf r)) G→T.S "darker" [shV r,.non] G Q:=fun {G Q} z=>s_deed k (o:=none) k.darker s pok_none z
  have tu:∀ {G:Gh} {Q:PK1},Q (shV (tw (md r) hlf r)) G→T.S "duller" [shV r,.non] G Q:=fun {G Q} z=>s_deed k (o:=none) k.duller s pok_none z
  walk_at "rd"
  refine tl (td (tu (t0 ?_)))
  walk_at "rd"
  have dl:Dd "lighter" .non (tw 1 hlf):=.inl ⟨rfl,none,rfl,pok_none,rfl⟩
  have dt:Dd "turned" .non (rt 1):=dd_turn (o:=none)
  have hx:∀ x∈ [PV.tup [shV (tw 1 hlf r),.str "lighter"],.tup [shV (tw 0 hlf r),.str "darker"],.tup [shV (tw (md r) hlf r),.str "duller"],.tup [shV (rt 1 r),.str "turned"],.tup [shV (tw 1 hlf r),.str "lighter"],.tup [shV (rt 1 r),.str "turned"]],∃ w f,x= .tup [shV (f r),.str w]∧Dd w .non f:=fun x h=>by
    simp only [List.mem_cons,List.not_mem_nil,or_false] at h
    rcases h with rfl | rfl | rfl | rfl | rfl | rfl
    · exact ⟨_,_,rfl,dl⟩
    · exact ⟨_,_,rfl,.inr (.inl ⟨rfl,none,rfl,pok_none,rfl⟩)⟩
    · exact ⟨"duller",fun r=>tw (md r) hlf r,rfl,.inr (.inr (.inl ⟨rfl,none,rfl,pok_none,rfl⟩))⟩
    · exact ⟨_,_,rfl,dt⟩
    · exact ⟨_,_,rfl,dl⟩
    · exact ⟨_,_,rfl,dt⟩
  exact ⟨by decide,tl (t0 ⟨by decide,w_loB k s rfl hx hq⟩)⟩
end
end L3
namespace L3
open PySem PySem.Spec
open PyProof.Rows hiding St
open L2
noncomputable def wdV:PV:=.lst [.str "lighter",.str "darker",.str "duller",.str "turned",.str "opposite"]
theorem wd_cut:cutP [PV.str "lighter",.str "darker",.str "duller",.str "turned",.str "opposite"] none (some 4)=[.str "lighter",.str "darker",.str "duller",.str "turned"]:=by
  unfold cutP
  show List.take (HT.sIx 5 5 (some 4) - HT.sIx 5 0 none) (List.drop (HT.sIx 5 0 none) [PV.str "lighter",.str "darker",.str "duller",.str "turned",.str "opposite"])=_
  have h1:HT.sIx 5 0 none=0:=rfl
  have h2:HT.sIx 5 5 (some 4)=4:=by decide
  rw [h1,h2]; rfl
theorem mem_wd {x:PV} (h:x∈ [PV.str "lighter",.str "darker",.str "duller",.str "turned",.str "opposite"]):∃ w,x= .str w∧w∈words:=by
  simp only [List.mem_cons,List.not_mem_nil,or_false] at h
  rcases h with h | h | h | h | h <;> exact ⟨_,h,by simp [words]⟩
theorem mem_wd2 {x:PV} (h:x∈ [PV.str "lighter",.str "darker",.str "duller",.str "turned",.str "opposite"] ++ [PV.str "lighter",.str "darker",.str "duller",.str "turned"]):∃ w,x= .str w∧w∈words:=by
  rcases List.mem_append.mp h with h | h
  · exact mem_wd h
  · refine mem_wd ?_
    simp only [List.mem_cons,List.not_mem_nil,or_false] at h ⊢
    rcases h with h | h | h | h <;> simp [h]
noncomputable def I7 (ns:List Int) (σ:PSt):Prop:= ∃ b c d e f g h i j,σ=[some (.scr ns),some wdV,b,c,d,e,f,g,h,i,j]
noncomputable def J7 (ns:List Int) (p:Addr) (r:R3) (σ:PSt) (G:Gh):Prop:=Pu p G∧∃ b f g h i j,σ=[some (.scr ns),some wdV,b,some (.ref p),some (rV r),some (shV r),f,g,h,i,j]
noncomputable def J8 (ns:List Int) (p:Addr) (r:R3) (w:Str) (x:PV) (σ:PSt) (G:Gh):Prop:=Pu p G∧∃ b h i j,σ=[some (.scr ns),some wdV,b,some (.ref p),some (rV r),some (shV r),some (.str w),some x,h,i,j]
local macro_rules | `(tactic| walk_at "rd") => `(tactic| simp only [wpS, wpE, wpL, wpT, wpO, wpI, wpG, wpGs, endP, startP, List.map_cons, List.map_nil, List.length_cons, List.length_nil, List.cons_append, List.nil_append, List.append_nil, List.replicate, Nat.reduceAdd, Nat.reduceSub, Nat.zero_add,
  List.getElem?_cons_zero,List.getElem?_cons_succ,List.set_cons_zero,List.set_cons_succ,var_eq,some_eq,bl_eq,tup_eq,cons_eq,Option.some.injEq,exists_eq_left,exists_eq_left',true_and,and_true,exists_false,ite_self,false_and,and_false,or_false,false_or,
  pI_int,pBin_add,pBin_sub,pBin_mul,pBin_div,pBin_mod,pBin_pow,pAdd_int,pAdd_str,pAdd_lst,pAdd_tup,pCmp_lt,pCmp_le,pCmp_gt,pCmp_ge,pCmp_eq,pCmp_ne,pCmp_is,pCmp_isn,pEq_intF,pEq_intT,pTru_bl,pTru_non,pNeg_int,pIs_nonF,
  pIdx_tup,pIdx_scr,pIdx_lst,pIdx_gup,pSet_gup,pLen_tup,pLen_scr,pLen_lst,pAbs_int,pMax_int,pMin_int,pInt_int,pInt_bl,pIsi_int,pIsi_tup,pTup_lst,pTup_gup,lstOf_lst,lstOf_gup,pAll_lst,gupL_t,gupL_f,seqI_tup,seqI_lst,seqI_scr,
  mem_ty.1,mem_ty.2.1,mem_ty.2.2.1,isTy_1,isTy_2,isTy_3,at0,at1,at2,at3,at4,ixN_0,ixN_1,ixN_2,cast0,cast1,cast2,cast3,List.cons.injEq,PV.int.injEq,PV.bl.injEq,PV.str.injEq,PV.ref.injEq,PV.tup.injEq,and_assoc,exists_and_left,eq_self,FQ_0,FQ_1,FQ_len,FQ_isi,FQ_inj,spWhole,spCommon,spIsFrac,spLowest,needF2,pEq_FQF,SH_isi,Int.reduceToNat,Int.reducePow,exists_eq,exists_eq',compP_nil,compP_cons,enu_1,enu_2,enu_3,rng_3,rng_3b,SH_inj,capP,Option.getD_some,Option.getD_none,List.map,spPlus,spMinus,spTimes,spOver,spBelow,spNear,spPick,spShareL,spSharesL,spMade,spCell,spPurse,spIsFracB,spIsShare,spShade,spIsShade,spNeedS,spSharesOf,spShadeOf,spNeedGr,spIsGr,spIsStep,spNeedStep,spPrinted,spSpan,Bool.not_true,Bool.not_false,Bool.and_self,Bool.and_true,Bool.true_and,if_true,if_false,ite_true,ite_false,Bool.false_eq_true,decide_eq_true_eq,decide_true,decide_false,reduceCtorEq,sz1,sz2,sz3,Wk.here,pEq_SS,tV_none,FQ_1c,FQ_0c,shV_e,rV_e,pSli_lst, *])
section
variable {T:Tb}
noncomputable def k07_d:CS:=(.seq (.asg (.gn 9) (.cal "_law_asked" (.cons (.var 6) (.cons (.var 5) (.cons (.var 7) (.cons (.var 8) .nil))))))
  (.iff (.oo (.no (.tst (.cal "_law_is" (.cons (.var 9) (.cons (.cal "_law_deed" (.cons (.var 4) (.cons (.var 6) (.cons (.var 7) .nil)))) .nil))))) (.no (.tst (.cal "_law_is" (.cons (.var 5) (.cons (.var 4) .nil)))))) (.ret (.bl false)) .nil))
theorem w07_d (k:L7 T) (D:PEnds) {ns:List Int} {p:Addr} {r:R3} {w:Str} {x:PV} {f:R3→R3} {i:Int} {b g j:Option PV} {G:Gh} (hp:Pu p G) (s:Sh7 12 r) (d:Dd w x f) (hi:i=0∨i=1) (hR:∀ σ G',J8 ns p r w x σ G'→D.nx σ G') :
    wpS T k07_d D [some (.scr ns),some wdV,b,some (.ref p),some (rV r),some (shV r),some (.str w),some x,some (.int i),g,j] G:=by
  unfold k07_d
  walk_at "rd"
  refine s_ask k hi s d ?_
  refine s_ddl k s d (s_is k (dd_sh d s) rfl ?_)
  walk_at "rd"
  refine s_is k (s.mono (by decide)) rfl ?_
  walk_at "rd"
  exact hR _ _ ⟨hp,_,_,_,_,rfl⟩
noncomputable def k07_c:CS:=(.seq (.asg (.gn 7) (.cal "_law_by" (.cons (.var 3) (.cons (.var 6) .nil))))
  (.fr (.gn 8) (.isq (.lst false (.cons (.int 0) (.cons (.int 1) (.cons (.int 0) .nil))))) k07_d))
theorem w07_c (k:L7 T) (D:PEnds) {ns:List Int} {p:Addr} {r:R3} {w:Str} {b f g h j:Option PV} {G:Gh} (hp:Pu p G) (s:Sh7 12 r) (hw:w∈words) (hR:∀ σ G',J7 ns p r σ G'→D.nx σ G') :
    wpS T k07_c D [some (.scr ns),some wdV,b,some (.ref p),some (rV r),some (shV r),some (.str w),f,g,h,j] G:=by
  unfold k07_c
  have e1:=k.by_
  have sb:∀ {G:Gh} {Q:PK1},Pu p G→(∀ x f G',Dd w x f→Pn p G G'→Q x G')→T.S "_law_by" [.ref p,.str w] G Q:=fun {G Q} h q=>by rw [e1]; exact ⟨p,w,rfl,h,hw,q⟩
  clear e1
  walk_at "rd"
  refine sb hp fun x f G' d m=>?_
  refine forP_inv (J8 ns p r w x) ⟨m.pu,_,_,_,_,rfl⟩ ?_ ?_
  · rintro y hy σ G2 R ⟨hp2,b,h,i,j,rfl⟩ hR2
    have:∃ i,y= .int i∧(i=0∨i=1):=by
      simp only [List.mem_cons,List.not_mem_nil,or_false] at hy
      rcases hy with h | h | h
      · exact ⟨0,h,.inl rfl⟩
      · exact ⟨1,h,.inr rfl⟩
      · exact ⟨0,h,.inl rfl⟩
    obtain ⟨i,rfl,hi⟩:=this
    exact w07_d k _ hp2 s d hi hR2
  · rintro σ G2 ⟨hp2,b,h,i,j,rfl⟩
    exact hR _ _ ⟨hp2,_,_,_,_,_,_,rfl⟩
noncomputable def k07_e:CS:=(.seq (.iff (.oo (.no (.tst (.cal "_law_left_out" (.cons (.var 5) (.cons (.var 4) .nil))))) (.no (.tst (.cal "_law_home" (.cons (.var 5) (.cons (.var 4) (.cons (.bin .Add (.int 1) (.cal "_law_pick" (.cons (.var 3) (.cons (.int 50) .nil)))) .nil))))))) (.ret (.bl false)) .nil)
  (.iff (.no (.tst (.cal "_law_is" (.cons (.var 5) (.cons (.var 4) .nil))))) (.ret (.bl false)) .nil))
theorem w07_e (lt:LT T) (k:L7 T) (D:PEnds) {ns:List Int} {p:Addr} {r:R3} {b f g h i j:Option PV} {G:Gh} (hp:Pu p G) (s:Sh7 12 r) (hR:∀ σ G',I7 ns σ→D.nx σ G') :
    wpS T k07_e D [some (.scr ns),some wdV,b,some (.ref p),some (rV r),some (shV r),f,g,h,i,j] G:=by
  unfold k07_e
  have:=lt.pick
  have e1:=k.left
  have sl:∀ {G:Gh} {Q:PK1},Q (.bl true) G→T.S "_law_left_out" [shV r,rV r] G Q:=fun {G Q} q=>by rw [e1]; exact ⟨r,rfl,s,q⟩
  have e2:=k.home
  have sh:∀ {n:Int} {G:Gh} {Q:PK1},1≤n→n≤50→Q (.bl true) G→T.S "_law_home" [shV r,rV r,.int n] G Q:=fun {n G Q} h1 h2 q=>by rw [e2]; exact ⟨r,n,rfl,s,h1,h2,q⟩
  clear e1 e2
  walk_at "rd"
  refine sl ?_
  walk_at "rd"
  refine ⟨by decide,smP (by decide) (by decide),fun n G1 n0 n1 m1=>sh (by omega) (by omega) ?_⟩
  walk_at "rd"
  refine s_is k (s.mono (by decide)) rfl ?_
  walk_at "rd"
  exact hR _ _ ⟨_,_,_,_,_,_,_,_,_,rfl⟩
noncomputable def k07_b:CS:=(.seq (.asg (.gn 3) (.cal "_law_purse" (.cons (.cal "_law_cell" (.cons (.var 0) (.cons (.var 2) .nil))) .nil)))
  (.seq (.asg (.gn 4) (.cal "_law_shares" (.cons (.var 3) .nil)))
  (.seq (.asg (.gn 5) (.cal "_law_made" (.cons (.var 3) (.cons (.var 4) .nil))))
  (.seq (.fr (.gn 6) (.isq (.bin .Add (.var 1) (.sli (.var 1) .nil (.tst (.int 4))))) k07_c)
  k07_e))))
theorem w07_b (lt:LT T) (lm:LM T) (k:L7 T) (D:PEnds) {ns:List Int} {n:Int} {c d e f g h i j:Option PV} {G:Gh} (h1:0≤n) (h2:n < 64) (hR:∀ σ G',I7 ns σ→D.nx σ G') :
    wpS T k07_b D [some (.scr ns),some wdV,some (.int n),c,d,e,f,g,h,i,j] G:=by
  unfold k07_b
  have:=lt.purse
  have:=lt.cell
  have:=lt.shares
  have:=lm.made
  have wa:∀ {G:Gh} {Q:PK1},Q (.lst ([PV.str "lighter",.str "darker",.str "duller",.str "turned",.str "opposite"] ++ [PV.str "lighter",.str "darker",.str "duller",.str "turned"])) G→pSli wdV none (some 4) G fun y G2=>pAdd wdV y G2 Q:=fun {G Q} q=>by
    unfold wdV
    rw [pSli_lst,wd_cut,pAdd_lst]
    exact ⟨by decide,q⟩
  walk_at "rd"
  refine ⟨ns,rfl, ?_⟩
  intro c0 p x y z hp0
  refine ⟨⟨_,_,_,gup_same⟩,fun a b c G1 i1 i2 i3 d1 d2 d3 m1=>⟨m1.pu,i1,i2,i3,fun G2 m2=>wa ?_⟩⟩
  have s:Sh7 12 (a,b,c):=⟨⟨i1,i2,i3⟩,d1,d2,d3⟩
  refine forP_inv (J7 ns p (a,b,c)) ⟨m2.pu,_,_,_,_,_,_,rfl⟩ ?_ ?_
  · rintro y hy σ G3 R ⟨hp3,b,f,g,h,i,j,rfl⟩ hR2
    obtain ⟨w,rfl,hw⟩:=mem_wd2 hy
    exact w07_c k _ hp3 s hw hR2
  · rintro σ G3 ⟨hp3,b,f,g,h,i,j,rfl⟩
    exact w07_e lt k D hp3 s hR
noncomputable def k07_f:CS:=(.iff (.no (.tst (.cal "_law_is" (.cons (.cal "_law_asked" (.cons (.var 6) (.cons (.var 5) (.cons .non (.cons (.int 0) .nil))))) (.cons (.cal "_law_deed" (.cons (.var 10) (.cons (.var 6) (.cons .non .nil)))) .nil))))) (.ret (.bl false)) .nil)
noncomputable def k07_g:CS:=(.seq (.asg (.gn 10) (.tup (.cons (.tup (.cons (.int 0) (.cons (.int 1) .nil))) (.cons (.tup (.cons (.int 0) (.cons (.int 1) .nil))) (.cons (.tup (.cons (.int 0) (.cons (.int 1) .nil))) .nil)))))
  (.seq (.asg (.gn 5) (.cal "Shade" (.cons (.tup (.cons (.int 0) (.cons (.int 1) .nil))) (.cons (.tup (.cons (.int 0) (.cons (.int 1) .nil))) (.cons (.tup (.cons (.int 0) (.cons (.int 1) .nil))) .nil)))))
  (.seq (.fr (.gn 6) (.isq (.var 1)) k07_f)
  (.ret (.an (.cal "_law_left_out" (.cons (.var 5) (.cons (.var 10) .nil))) (.cal "_law_home" (.cons (.var 5) (.cons (.var 10) (.cons (.int 1) .nil)))))))))
noncomputable def code_k07:CS:=(.seq (.asg (.gn 1) (.lst false (.cons (.str "lighter") (.cons (.str "darker") (.cons (.str "duller") (.cons (.str "turned") (.cons (.str "opposite") .nil)))))))
  (.seq (.fr (.gn 2) (.irg (.cons (.blt .max (.cons (.int 2) (.cons (.blt .min (.cons (.blt .len (.cons (.var 0) .nil)) (.cons (.int 6) .nil))) .nil))) .nil)) k07_b)
  k07_g))
theorem w07_f (k:L7 T) (D:PEnds) {ns:List Int} {w:Str} {b c d g h i:Option PV} {G:Gh} (hw:w∈words) (hR:∀ σ G',(∃ w,σ=[some (.scr ns),some wdV,b,c,d,some (shV (0,0,0)),w,g,h,i,some (rV (0,0,0))])→D.nx σ G') :
    wpS T k07_f D [some (.scr ns),some wdV,b,c,d,some (shV (0,0,0)),some (.str w),g,h,i,some (rV (0,0,0))] G:=by
  unfold k07_f
  have z0:Bd 12 0:=bd0.mono (by decide)
  have s0:Sh7 12 (0,0,0):=⟨⟨in_0,in_0,in_0⟩,z0,z0,z0⟩
  have:∃ f,Dd w .non f:=by
    by_cases ht:w="turned"
    · subst ht; exact ⟨_,dd_turn (o:=none)⟩
    · exact dd_of hw ht (o:=none) pok_none
  obtain ⟨f,dd⟩:=this
  walk_at "rd"
  refine s_ask k (.inl rfl) s0 dd (s_ddl k s0 dd (s_is k (dd_sh dd s0) rfl ?_))
  walk_at "rd"
theorem mem_rg {lo:Int} {n:Nat} {x:PV} (h:x∈rngP lo n):∃ k:Nat,x= .int (lo + (k:Int))∧k < n:=by
  unfold rngP at h
  obtain ⟨k,hk,rfl⟩:=List.mem_map.mp h
  exact ⟨k,rfl,List.mem_range.mp hk⟩
theorem w07_g (h:PT T) (k:L7 T) {ns:List Int} {b c d e f g hh i j:Option PV} {G:Gh} {Q:PK1} (hq:∀ G',Q (.bl true) G') :
    wpS T k07_g (endP Q) [some (.scr ns),some wdV,b,c,d,e,f,g,hh,i,j] G:=by
  unfold k07_g
  have es:=h.shade
  have ss:∀ {G:Gh} {Q:PK1},Q (shV (0,0,0)) G→T.S "Shade" [FQ 0,FQ 0,FQ 0] G Q:=fun {G Q} q=>by rw [es]; exact ⟨_,_,_,rfl,in_0,in_0,in_0,q⟩
  have z0:Bd 12 0:=bd0.mono (by decide)
  have s0:Sh7 12 (0,0,0):=⟨⟨in_0,in_0,in_0⟩,z0,z0,z0⟩
  have e1:=k.left
  have sl:∀ {G:Gh} {Q:PK1},Q (.bl true) G→T.S "_law_left_out" [shV (0,0,0),rV (0,0,0)] G Q:=fun {G Q} q=>by rw [e1]; exact ⟨_,rfl,s0,q⟩
  have e2:=k.home
  have sh:∀ {G:Gh} {Q:PK1},Q (.bl true) G→T.S "_law_home" [shV (0,0,0),rV (0,0,0),.int 1] G Q:=fun {G Q} q=>by rw [e2]; exact ⟨_,1,rfl,s0,by decide,by decide,q⟩
  clear es e1 e2
  walk_at "rd"
  refine ss ?_
  refine forP_inv (fun σ _=>∃ w,σ=[some (.scr ns),some wdV,b,c,d,some (shV (0,0,0)),w,g,hh,i,some (rV (0,0,0))]) ⟨_,rfl⟩ ?_ ?_
  · rintro y hy σ G3 R ⟨w,rfl⟩ hR2
    obtain ⟨w,rfl,hw⟩:=mem_wd hy
    exact w07_f k _ hw hR2
  · rintro σ G3 ⟨w,rfl⟩
    walk_at "rd"
    refine sl ?_
    walk_at "rd"
    exact sh (Wk.here (hq _))
theorem w_law (h:PT T) (lt:LT T) (lm:LM T) (k:L7 T):∀ xs G Q,spTrue xs G Q→wpS T code_k07 (endP Q) (startP 11 xs) G:=by
  rintro xs G Q ⟨ns,rfl,hl,hq⟩
  have:=@irg_1
  unfold code_k07
  walk_at "rd"
  refine ⟨by decide,by omega,by omega, ?_⟩
  refine forP_inv (fun σ _=>I7 ns σ) ⟨_,_,_,_,_,_,_,_,_,rfl⟩ ?_ ?_
  · rintro x hx σ G' R ⟨x1,x2,x3,x4,x5,x6,x7,x8,x9,rfl⟩ hR
    obtain ⟨j,rfl,hj⟩:=mem_rg hx
    exact w07_b lt lm k _ (by omega) (by omega) hR
  · rintro σ G' ⟨x1,x2,x3,x4,x5,x6,x7,x8,x9,rfl⟩
    exact w07_g h k hq
end
end L3
namespace My
open PySem L2 L3 PyProof.Rows
noncomputable def top (i:Nat):Stmt:=PySem.Challenge.pw_lightshares_k07_deeds_of_one_shade.main.body.getD i (.Pass ⟨0,0,0,0⟩)
noncomputable abbrev s_common:Stmt:=top 11
noncomputable abbrev C_common:Cfg:={ N:=["one","other"],names:=(defScope s_common).names,blk:=false,fns:=[],mks:=[],shs:=[],mkk:=[],gls:=[],tys:=[],blt:=[],M:=[],rm:=false }
theorem dk_common:DefOk s_common ["one","other"] C_common:=⟨⟨rfl,rfl,rfl,by decide +kernel,rfl,by decide +kernel,by decide +kernel⟩,rfl,rfl⟩
theorem cd_common:cSs 80 C_common (defBody s_common)=some code_common:=by decide +kernel
noncomputable abbrev s_is_whole:Stmt:=top 10
noncomputable abbrev C_is_whole:Cfg:={ N:=["thing"],names:=(defScope s_is_whole).names,blk:=false,fns:=[],mks:=[],shs:=[],mkk:=[],gls:=[],tys:=["bool","int"],blt:=["isinstance"],M:=[],rm:=false }
theorem dk_is_whole:DefOk s_is_whole ["thing"] C_is_whole:=⟨⟨rfl,rfl,rfl,by decide +kernel,rfl,by decide +kernel,by decide +kernel⟩,rfl,rfl⟩
theorem cd_is_whole:cSs 80 C_is_whole (defBody s_is_whole)=some code_is_whole:=by decide +kernel
noncomputable abbrev s_is_fraction:Stmt:=top 12
noncomputable abbrev C_is_fraction:Cfg:={ N:=["thing","top","bottom"],names:=(defScope s_is_fraction).names,blk:=false,fns:=["common","is_whole"],mks:=[],shs:=[],mkk:=[],gls:=[],tys:=["tuple"],blt:=["abs","isinstance","len"],M:=[],rm:=false }
theorem dk_is_fraction:DefOk s_is_fraction ["thing"] C_is_fraction:=⟨⟨rfl,rfl,rfl,by decide +kernel,rfl,by decide +kernel,by decide +kernel⟩,rfl,rfl⟩
theorem cd_is_fraction:cSs 80 C_is_fraction (defBody s_is_fraction)=some code_is_fraction:=by decide +kernel
noncomputable abbrev s_is_share:Stmt:=top 22
noncomputable abbrev C_is_share:Cfg:={ N:=["thing"],names:=(defScope s_is_share).names,blk:=false,fns:=["is_fraction"],mks:=[],shs:=[],mkk:=[],gls:=[],tys:=[],blt:=[],M:=[],rm:=false }
theorem dk_is_share:DefOk s_is_share ["thing"] C_is_share:=⟨⟨rfl,rfl,rfl,by decide +kernel,rfl,by decide +kernel,by decide +kernel⟩,rfl,rfl⟩
theorem cd_is_share:cSs 80 C_is_share (defBody s_is_share)=some code_is_share:=by decide +kernel
noncomputable abbrev s_Shade___init__:Stmt:=inClass (top 23) 0
noncomputable abbrev C_Shade___init__:Cfg:={ N:=["self","ember","leaf","sky","light","share"],names:=(defScope s_Shade___init__).names,blk:=false,fns:=["is_share"],mks:=[],shs:=[],mkk:=[],gls:=[],tys:=[],blt:=["enumerate"],M:=[],rm:=false }
theorem dk_Shade___init__:DefOk s_Shade___init__ ["self","ember","leaf","sky"] C_Shade___init__:=⟨⟨rfl,rfl,rfl,by decide +kernel,rfl,by decide +kernel,by decide +kernel⟩,rfl,rfl⟩
theorem cd_Shade___init__:cSs 80 C_Shade___init__ (defBody s_Shade___init__)=some code_Shade___init__:=by decide +kernel
noncomputable abbrev s_is_shade:Stmt:=top 24
noncomputable abbrev C_is_shade:Cfg:={ N:=["thing"],names:=(defScope s_is_shade).names,blk:=false,fns:=[],mks:=[],shs:=[],mkk:=[],gls:=["Shade"],tys:=[],blt:=["isinstance"],M:=[],rm:=false }
theorem dk_is_shade:DefOk s_is_shade ["thing"] C_is_shade:=⟨⟨rfl,rfl,rfl,by decide +kernel,rfl,by decide +kernel,by decide +kernel⟩,rfl,rfl⟩
theorem cd_is_shade:cSs 80 C_is_shade (defBody s_is_shade)=some code_is_shade:=by decide +kernel
noncomputable abbrev s_need_shade:Stmt:=top 25
noncomputable abbrev C_need_shade:Cfg:={ N:=["thing"],names:=(defScope s_need_shade).names,blk:=false,fns:=["is_shade"],mks:=[],shs:=[],mkk:=[],gls:=[],tys:=[],blt:=[],M:=[],rm:=false }
theorem dk_need_shade:DefOk s_need_shade ["thing"] C_need_shade:=⟨⟨rfl,rfl,rfl,by decide +kernel,rfl,by decide +kernel,by decide +kernel⟩,rfl,rfl⟩
theorem cd_need_shade:cSs 80 C_need_shade (defBody s_need_shade)=some code_need_shade:=by decide +kernel
noncomputable abbrev s_part_of:Stmt:=top 30
noncomputable abbrev C_part_of:Cfg:={ N:=["by"],names:=(defScope s_part_of).names,blk:=false,fns:=["is_share"],mks:=[],shs:=[],mkk:=[],gls:=["HALF"],tys:=[],blt:=[],M:=[],rm:=false }
theorem dk_part_of:DefOk s_part_of ["by"] C_part_of:=⟨⟨rfl,rfl,rfl,by decide +kernel,rfl,by decide +kernel,by decide +kernel⟩,rfl,rfl⟩
theorem cd_part_of:cSs 80 C_part_of (defBody s_part_of)=some code_part_of_07:=by decide +kernel
noncomputable abbrev s_lowest:Stmt:=top 13
noncomputable abbrev C_lowest:Cfg:={ N:=["top","bottom","shared"],names:=(defScope s_lowest).names,blk:=false,fns:=["common"],mks:=[],shs:=[],mkk:=[],gls:=[],tys:=[],blt:=["abs"],M:=[],rm:=false }
theorem dk_lowest:DefOk s_lowest ["top","bottom"] C_lowest:=⟨⟨rfl,rfl,rfl,by decide +kernel,rfl,by decide +kernel,by decide +kernel⟩,rfl,rfl⟩
theorem cd_lowest:cSs 80 C_lowest (defBody s_lowest)=some code_lowest:=by decide +kernel
noncomputable abbrev s_need_fractions:Stmt:=top 14
noncomputable abbrev C_need_fractions:Cfg:={ N:=["things","place","thing"],names:=(defScope s_need_fractions).names,blk:=false,fns:=["is_fraction"],mks:=[],shs:=[],mkk:=[],gls:=[],tys:=[],blt:=["enumerate"],M:=[],rm:=false }
theorem dk_need_fractions:DefOk s_need_fractions ["things"] C_need_fractions:=⟨⟨rfl,rfl,rfl,by decide +kernel,rfl,by decide +kernel,by decide +kernel⟩,rfl,rfl⟩
theorem cd_need_fractions:cSs 80 C_need_fractions (defBody s_need_fractions)=some code_need_fractions:=by decide +kernel
noncomputable abbrev s_minus:Stmt:=top 16
noncomputable abbrev C_minus:Cfg:={ N:=["one","other"],names:=(defScope s_minus).names,blk:=false,fns:=["lowest","need_fractions"],mks:=[],shs:=[],mkk:=[],gls:=[],tys:=[],blt:=[],M:=[],rm:=false }
theorem dk_minus:DefOk s_minus ["one","other"] C_minus:=⟨⟨rfl,rfl,rfl,by decide +kernel,rfl,by decide +kernel,by decide +kernel⟩,rfl,rfl⟩
theorem cd_minus:cSs 80 C_minus (defBody s_minus)=some code_minus:=by decide +kernel
noncomputable abbrev s_plus:Stmt:=top 15
noncomputable abbrev C_plus:Cfg:={ N:=["one","other"],names:=(defScope s_plus).names,blk:=false,fns:=["lowest","need_fractions"],mks:=[],shs:=[],mkk:=[],gls:=[],tys:=[],blt:=[],M:=[],rm:=false }
theorem dk_plus:DefOk s_plus ["one","other"] C_plus:=⟨⟨rfl,rfl,rfl,by decide +kernel,rfl,by decide +kernel,by decide +kernel⟩,rfl,rfl⟩
theorem cd_plus:cSs 80 C_plus (defBody s_plus)=some code_plus:=by decide +kernel
noncomputable abbrev s_shade_of:Stmt:=top 27
noncomputable abbrev C_shade_of:Cfg:={ N:=["shares","ember","leaf","sky"],names:=(defScope s_shade_of).names,blk:=false,fns:=[],mks:=["Shade"],shs:=[],mkk:=[],gls:=["Shade"],tys:=[],blt:=[],M:=[],rm:=false,ls:=["shares"] }
theorem dk_shade_of:DefOk s_shade_of ["shares"] C_shade_of:=⟨⟨rfl,rfl,rfl,by decide +kernel,rfl,by decide +kernel,by decide +kernel⟩,rfl,rfl⟩
theorem cd_shade_of:cSs 80 C_shade_of (defBody s_shade_of)=some code_shade_of:=by decide +kernel
noncomputable abbrev s_shares_of:Stmt:=top 26
noncomputable abbrev C_shares_of:Cfg:={ N:=["shade"],names:=(defScope s_shares_of).names,blk:=false,fns:=["need_shade"],mks:=[],shs:=[],mkk:=[],gls:=[],tys:=[],blt:=[],M:=[],rm:=false }
theorem dk_shares_of:DefOk s_shares_of ["shade"] C_shares_of:=⟨⟨rfl,rfl,rfl,by decide +kernel,rfl,by decide +kernel,by decide +kernel⟩,rfl,rfl⟩
theorem cd_shares_of:cSs 80 C_shares_of (defBody s_shares_of)=some code_shares_of:=by decide +kernel
noncomputable abbrev s_times:Stmt:=top 17
noncomputable abbrev C_times:Cfg:={ N:=["one","other"],names:=(defScope s_times).names,blk:=false,fns:=["lowest","need_fractions"],mks:=[],shs:=[],mkk:=[],gls:=[],tys:=[],blt:=[],M:=[],rm:=false }
theorem dk_times:DefOk s_times ["one","other"] C_times:=⟨⟨rfl,rfl,rfl,by decide +kernel,rfl,by decide +kernel,by decide +kernel⟩,rfl,rfl⟩
theorem cd_times:cSs 80 C_times (defBody s_times)=some code_times:=by decide +kernel
noncomputable abbrev s_toward:Stmt:=top 31
noncomputable abbrev C_toward:Cfg:={ N:=["shade","goal","part"],names:=(defScope s_toward).names,blk:=false,fns:=["minus","plus","shade_of","shares_of","times"],mks:=[],shs:=[],mkk:=[],gls:=[],tys:=[],blt:=[],M:=[],rm:=false }
theorem dk_toward:DefOk s_toward ["shade","goal","part"] C_toward:=⟨⟨rfl,rfl,rfl,by decide +kernel,rfl,by decide +kernel,by decide +kernel⟩,rfl,rfl⟩
theorem cd_toward:cSs 80 C_toward (defBody s_toward)=some code_toward_07:=by decide +kernel
noncomputable abbrev s_darker:Stmt:=top 33
noncomputable abbrev C_darker:Cfg:={ N:=["shade","by"],names:=(defScope s_darker).names,blk:=false,fns:=["need_shade","part_of","toward"],mks:=[],shs:=[],mkk:=[],gls:=["ZERO"],tys:=[],blt:=[],M:=[],rm:=false }
theorem dk_darker:DefOk s_darker ["shade","by"] C_darker:=⟨⟨rfl,rfl,rfl,by decide +kernel,rfl,by decide +kernel,by decide +kernel⟩,rfl,rfl⟩
theorem cd_darker:cSs 80 C_darker (defBody s_darker)=some code_darker_07:=by decide +kernel
noncomputable abbrev s_over:Stmt:=top 18
noncomputable abbrev C_over:Cfg:={ N:=["one","other"],names:=(defScope s_over).names,blk:=false,fns:=["lowest","need_fractions"],mks:=[],shs:=[],mkk:=[],gls:=[],tys:=[],blt:=[],M:=[],rm:=false }
theorem dk_over:DefOk s_over ["one","other"] C_over:=⟨⟨rfl,rfl,rfl,by decide +kernel,rfl,by decide +kernel,by decide +kernel⟩,rfl,rfl⟩
theorem cd_over:cSs 80 C_over (defBody s_over)=some code_over:=by decide +kernel
noncomputable abbrev s_duller:Stmt:=top 34
noncomputable abbrev C_duller:Cfg:={ N:=["shade","by","part","together"],names:=(defScope s_duller).names,blk:=false,fns:=["need_shade","over","part_of","plus","toward"],mks:=[],shs:=[],mkk:=[],gls:=[],tys:=[],blt:=[],M:=[],rm:=false }
theorem dk_duller:DefOk s_duller ["shade","by"] C_duller:=⟨⟨rfl,rfl,rfl,by decide +kernel,rfl,by decide +kernel,by decide +kernel⟩,rfl,rfl⟩
theorem cd_duller:cSs 80 C_duller (defBody s_duller)=some code_duller:=by decide +kernel
noncomputable abbrev s_lighter:Stmt:=top 32
noncomputable abbrev C_lighter:Cfg:={ N:=["shade","by"],names:=(defScope s_lighter).names,blk:=false,fns:=["need_shade","part_of","toward"],mks:=[],shs:=[],mkk:=[],gls:=["ONE"],tys:=[],blt:=[],M:=[],rm:=false }
theorem dk_lighter:DefOk s_lighter ["shade","by"] C_lighter:=⟨⟨rfl,rfl,rfl,by decide +kernel,rfl,by decide +kernel,by decide +kernel⟩,rfl,rfl⟩
theorem cd_lighter:cSs 80 C_lighter (defBody s_lighter)=some code_lighter_07:=by decide +kernel
noncomputable abbrev s_opposite:Stmt:=top 36
noncomputable abbrev C_opposite:Cfg:={ N:=["shade"],names:=(defScope s_opposite).names,blk:=false,fns:=["minus","shade_of","shares_of"],mks:=[],shs:=[],mkk:=[],gls:=["ONE"],tys:=[],blt:=[],M:=[],rm:=false }
theorem dk_opposite:DefOk s_opposite ["shade"] C_opposite:=⟨⟨rfl,rfl,rfl,by decide +kernel,rfl,by decide +kernel,by decide +kernel⟩,rfl,rfl⟩
theorem cd_opposite:cSs 80 C_opposite (defBody s_opposite)=some code_opposite_07:=by decide +kernel
noncomputable abbrev s_turned:Stmt:=top 35
noncomputable abbrev C_turned:Cfg:={ N:=["shade","by","shares"],names:=(defScope s_turned).names,blk:=false,fns:=["is_whole","need_shade","shade_of","shares_of"],mks:=[],shs:=[],mkk:=[],gls:=[],tys:=[],blt:=["range"],M:=[],rm:=false }
theorem dk_turned:DefOk s_turned ["shade","by"] C_turned:=⟨⟨rfl,rfl,rfl,by decide +kernel,rfl,by decide +kernel,by decide +kernel⟩,rfl,rfl⟩
theorem cd_turned:cSs 80 C_turned (defBody s_turned)=some code_turned_07:=by decide +kernel
noncomputable abbrev s_l_asked:Stmt:=top 54
noncomputable abbrev C_l_asked:Cfg:={ N:=["_law_word","_law_one","_law_amount","_law_way"],names:=(defScope s_l_asked).names,blk:=false,fns:=["darker","duller","lighter","opposite","turned"],mks:=[],shs:=[("darker",0,["by","shade"],[.arg 1,.arg 0]),("duller",0,["by","shade"],[.arg 1,.arg 0]),("lighter",0,["by","shade"],[.arg 1,.arg 0]),("opposite",0,["shade"],[.arg 0]),("turned",0,["by","shade"],[.arg 1,.arg 0])],mkk:=[],gls:=[],tys:=[],blt:=[],M:=[],rm:=false }
theorem dk_l_asked:DefOk s_l_asked ["_law_word","_law_one","_law_amount","_law_way"] C_l_asked:=⟨⟨rfl,rfl,rfl,by decide +kernel,rfl,by decide +kernel,by decide +kernel⟩,rfl,rfl⟩
theorem cd_l_asked:cSs 80 C_l_asked (defBody s_l_asked)=some code_l_asked_07:=by decide +kernel
noncomputable abbrev s_l_pick:Stmt:=top 40
noncomputable abbrev C_l_pick:Cfg:={ N:=["_law_purse_here","_law_many","_law_state","_law_taken"],names:=(defScope s_l_pick).names,blk:=false,fns:=[],mks:=[],shs:=[],mkk:=[],gls:=[],tys:=[],blt:=[],M:=[],rm:=false }
theorem dk_l_pick:DefOk s_l_pick ["_law_purse_here","_law_many"] C_l_pick:=⟨⟨rfl,rfl,rfl,by decide +kernel,rfl,by decide +kernel,by decide +kernel⟩,rfl,rfl⟩
theorem cd_l_pick:cSs 80 C_l_pick (defBody s_l_pick)=some code_l_pick:=by decide +kernel
noncomputable abbrev s_l_low:Stmt:=top 42
noncomputable abbrev C_l_low:Cfg:={ N:=["_law_top","_law_bottom","_law_one","_law_other"],names:=(defScope s_l_low).names,blk:=false,fns:=[],mks:=[],shs:=[],mkk:=[],gls:=[],tys:=[],blt:=["abs"],M:=[],rm:=false }
theorem dk_l_low:DefOk s_l_low ["_law_top","_law_bottom"] C_l_low:=⟨⟨rfl,rfl,rfl,by decide +kernel,rfl,by decide +kernel,by decide +kernel⟩,rfl,rfl⟩
theorem cd_l_low:cSs 80 C_l_low (defBody s_l_low)=some code_l_low:=by decide +kernel
noncomputable abbrev s_l_share:Stmt:=top 48
noncomputable abbrev C_l_share:Cfg:={ N:=["_law_purse_here","_law_way","_law_bottom"],names:=(defScope s_l_share).names,blk:=false,fns:=["_law_low","_law_pick"],mks:=[],shs:=[],mkk:=[],gls:=[],tys:=[],blt:=[],M:=[],rm:=false }
theorem dk_l_share:DefOk s_l_share ["_law_purse_here"] C_l_share:=⟨⟨rfl,rfl,rfl,by decide +kernel,rfl,by decide +kernel,by decide +kernel⟩,rfl,rfl⟩
theorem cd_l_share:cSs 80 C_l_share (defBody s_l_share)=some code_l_share:=by decide +kernel
noncomputable abbrev s_l_by:Stmt:=top 52
noncomputable abbrev C_l_by:Cfg:={ N:=["_law_purse_here","_law_word","_law_way","_law_some"],names:=(defScope s_l_by).names,blk:=false,fns:=["_law_pick","_law_share"],mks:=[],shs:=[],mkk:=[],gls:=[],tys:=[],blt:=[],M:=[],rm:=false }
theorem dk_l_by:DefOk s_l_by ["_law_purse_here","_law_word"] C_l_by:=⟨⟨rfl,rfl,rfl,by decide +kernel,rfl,by decide +kernel,by decide +kernel⟩,rfl,rfl⟩
theorem cd_l_by:cSs 80 C_l_by (defBody s_l_by)=some code_l_by_07:=by decide +kernel
noncomputable abbrev s_l_cell:Stmt:=top 38
noncomputable abbrev C_l_cell:Cfg:={ N:=["_law_script","_law_k","_law_state","_law_cell_here"],names:=(defScope s_l_cell).names,blk:=false,fns:=[],mks:=[],shs:=[],mkk:=[],gls:=[],tys:=[],blt:=["len"],M:=[],rm:=false }
theorem dk_l_cell:DefOk s_l_cell ["_law_script","_law_k"] C_l_cell:=⟨⟨rfl,rfl,rfl,by decide +kernel,rfl,by decide +kernel,by decide +kernel⟩,rfl,rfl⟩
theorem cd_l_cell:cSs 80 C_l_cell (defBody s_l_cell)=some code_l_cell:=by decide +kernel
noncomputable abbrev s_l_minus:Stmt:=top 44
noncomputable abbrev C_l_minus:Cfg:={ N:=["_law_a","_law_b"],names:=(defScope s_l_minus).names,blk:=false,fns:=["_law_low"],mks:=[],shs:=[],mkk:=[],gls:=[],tys:=[],blt:=[],M:=[],rm:=false }
theorem dk_l_minus:DefOk s_l_minus ["_law_a","_law_b"] C_l_minus:=⟨⟨rfl,rfl,rfl,by decide +kernel,rfl,by decide +kernel,by decide +kernel⟩,rfl,rfl⟩
theorem cd_l_minus:cSs 80 C_l_minus (defBody s_l_minus)=some code_l_minus:=by decide +kernel
noncomputable abbrev s_l_plus:Stmt:=top 43
noncomputable abbrev C_l_plus:Cfg:={ N:=["_law_a","_law_b"],names:=(defScope s_l_plus).names,blk:=false,fns:=["_law_low"],mks:=[],shs:=[],mkk:=[],gls:=[],tys:=[],blt:=[],M:=[],rm:=false }
theorem dk_l_plus:DefOk s_l_plus ["_law_a","_law_b"] C_l_plus:=⟨⟨rfl,rfl,rfl,by decide +kernel,rfl,by decide +kernel,by decide +kernel⟩,rfl,rfl⟩
theorem cd_l_plus:cSs 80 C_l_plus (defBody s_l_plus)=some code_l_plus:=by decide +kernel
noncomputable abbrev s_l_times:Stmt:=top 45
noncomputable abbrev C_l_times:Cfg:={ N:=["_law_a","_law_b"],names:=(defScope s_l_times).names,blk:=false,fns:=["_law_low"],mks:=[],shs:=[],mkk:=[],gls:=[],tys:=[],blt:=[],M:=[],rm:=false }
theorem dk_l_times:DefOk s_l_times ["_law_a","_law_b"] C_l_times:=⟨⟨rfl,rfl,rfl,by decide +kernel,rfl,by decide +kernel,by decide +kernel⟩,rfl,rfl⟩
theorem cd_l_times:cSs 80 C_l_times (defBody s_l_times)=some code_l_times:=by decide +kernel
noncomputable abbrev s_l_deed:Stmt:=top 51
noncomputable abbrev C_l_deed:Cfg:={ N:=["_law_row","_law_word","_law_amount","_law_part","_law_found","_law_light","_law_middle"],names:=(defScope s_l_deed).names,blk:=false,fns:=["_law_minus","_law_plus","_law_times"],mks:=[],shs:=[],mkk:=[],gls:=[],tys:=["int","tuple"],blt:=["int","range","tuple"],M:=["_law_found"],rm:=false }
theorem dk_l_deed:DefOk s_l_deed ["_law_row","_law_word","_law_amount"] C_l_deed:=⟨⟨rfl,rfl,rfl,by decide +kernel,rfl,by decide +kernel,by decide +kernel⟩,rfl,rfl⟩
theorem cd_l_deed:cSs 80 C_l_deed (defBody s_l_deed)=some code_l_deed_07:=by decide +kernel
noncomputable abbrev s_l_whole:Stmt:=top 41
noncomputable abbrev C_l_whole:Cfg:={ N:=["_law_thing"],names:=(defScope s_l_whole).names,blk:=false,fns:=[],mks:=[],shs:=[],mkk:=[],gls:=[],tys:=["bool","int"],blt:=["isinstance"],M:=[],rm:=false }
theorem dk_l_whole:DefOk s_l_whole ["_law_thing"] C_l_whole:=⟨⟨rfl,rfl,rfl,by decide +kernel,rfl,by decide +kernel,by decide +kernel⟩,rfl,rfl⟩
theorem cd_l_whole:cSs 80 C_l_whole (defBody s_l_whole)=some code_l_whole:=by decide +kernel
noncomputable abbrev s_l_is_fraction:Stmt:=top 46
noncomputable abbrev C_l_is_fraction:Cfg:={ N:=["_law_thing"],names:=(defScope s_l_is_fraction).names,blk:=false,fns:=["_law_low","_law_whole"],mks:=[],shs:=[],mkk:=[],gls:=[],tys:=["tuple"],blt:=["isinstance","len"],M:=[],rm:=false }
theorem dk_l_is_fraction:DefOk s_l_is_fraction ["_law_thing"] C_l_is_fraction:=⟨⟨rfl,rfl,rfl,by decide +kernel,rfl,by decide +kernel,by decide +kernel⟩,rfl,rfl⟩
theorem cd_l_is_fraction:cSs 80 C_l_is_fraction (defBody s_l_is_fraction)=some code_l_is_fraction:=by decide +kernel
noncomputable abbrev s_l_text:Stmt:=top 47
noncomputable abbrev C_l_text:Cfg:={ N:=["_law_a"],names:=(defScope s_l_text).names,blk:=false,fns:=[],mks:=[],shs:=[],mkk:=[],gls:=[],tys:=["int","str"],blt:=["int","str"],M:=[],rm:=false }
theorem dk_l_text:DefOk s_l_text ["_law_a"] C_l_text:=⟨⟨rfl,rfl,rfl,by decide +kernel,rfl,by decide +kernel,by decide +kernel⟩,rfl,rfl⟩
theorem cd_l_text:cSs 80 C_l_text (defBody s_l_text)=some code_l_text:=by decide +kernel
noncomputable abbrev s_Shade___eq__:Stmt:=inClass (top 23) 1
noncomputable abbrev C_Shade___eq__:Cfg:={ N:=["self","other"],names:=(defScope s_Shade___eq__).names,blk:=false,fns:=["shares_of"],mks:=[],shs:=[],mkk:=[],gls:=["Shade"],tys:=[],blt:=["isinstance"],M:=[],rm:=false }
theorem dk_Shade___eq__:DefOk s_Shade___eq__ ["self","other"] C_Shade___eq__:=⟨⟨rfl,rfl,rfl,by decide +kernel,rfl,by decide +kernel,by decide +kernel⟩,rfl,rfl⟩
theorem cd_Shade___eq__:cSs 80 C_Shade___eq__ (defBody s_Shade___eq__)=some code_Shade___eq__:=by decide +kernel
noncomputable abbrev s_figures:Stmt:=top 19
noncomputable abbrev C_figures:Cfg:={ N:=["number","pieces","piece"],names:=(defScope s_figures).names,blk:=false,fns:=[],mks:=[],shs:=[],mkk:=[],gls:=["PIECE","PIECE_FIGURES"],tys:=["str"],blt:=["divmod","str"],M:=["pieces"],rm:=false }
theorem dk_figures:DefOk s_figures ["number"] C_figures:=⟨⟨rfl,rfl,rfl,by decide +kernel,rfl,by decide +kernel,by decide +kernel⟩,rfl,rfl⟩
theorem cd_figures:cSs 80 C_figures (defBody s_figures)=some code_figures:=by decide +kernel
noncomputable abbrev s_written:Stmt:=top 20
noncomputable abbrev C_written:Cfg:={ N:=["one"],names:=(defScope s_written).names,blk:=false,fns:=["figures"],mks:=[],shs:=[],mkk:=[],gls:=[],tys:=[],blt:=[],M:=[],rm:=false }
theorem dk_written:DefOk s_written ["one"] C_written:=⟨⟨rfl,rfl,rfl,by decide +kernel,rfl,by decide +kernel,by decide +kernel⟩,rfl,rfl⟩
theorem cd_written:cSs 80 C_written (defBody s_written)=some code_written:=by decide +kernel
noncomputable abbrev s_Shade___str__:Stmt:=inClass (top 23) 3
noncomputable abbrev C_Shade___str__:Cfg:={ N:=["self"],names:=(defScope s_Shade___str__).names,blk:=false,fns:=["shares_of","written"],mks:=[],shs:=[],mkk:=[],gls:=[],tys:=[],blt:=[],M:=[],rm:=false }
theorem dk_Shade___str__:DefOk s_Shade___str__ ["self"] C_Shade___str__:=⟨⟨rfl,rfl,rfl,by decide +kernel,rfl,by decide +kernel,by decide +kernel⟩,rfl,rfl⟩
theorem cd_Shade___str__:cSs 80 C_Shade___str__ (defBody s_Shade___str__)=some code_Shade___str__:=by decide +kernel
noncomputable abbrev s_Shade___repr__:Stmt:=inClass (top 23) 4
noncomputable abbrev C_Shade___repr__:Cfg:={ N:=["self"],names:=(defScope s_Shade___repr__).names,blk:=false,fns:=[],mks:=[],shs:=[],mkk:=[],gls:=[],tys:=["str"],blt:=["str"],M:=[],rm:=false,ows:=[("str",[("Shade","Shade.__str__")])] }
theorem dk_Shade___repr__:DefOk s_Shade___repr__ ["self"] C_Shade___repr__:=⟨⟨rfl,rfl,rfl,by decide +kernel,rfl,by decide +kernel,by decide +kernel⟩,rfl,rfl⟩
theorem cd_Shade___repr__:cSs 80 C_Shade___repr__ (defBody s_Shade___repr__)=some code_Shade___repr__:=by decide +kernel
noncomputable abbrev s_Shade___len__:Stmt:=inClass (top 23) 2
noncomputable abbrev C_Shade___len__:Cfg:={ N:=["self"],names:=(defScope s_Shade___len__).names,blk:=false,fns:=["shares_of"],mks:=[],shs:=[],mkk:=[],gls:=[],tys:=[],blt:=["len"],M:=[],rm:=false }
theorem dk_Shade___len__:DefOk s_Shade___len__ ["self"] C_Shade___len__:=⟨⟨rfl,rfl,rfl,by decide +kernel,rfl,by decide +kernel,by decide +kernel⟩,rfl,rfl⟩
theorem cd_Shade___len__:cSs 80 C_Shade___len__ (defBody s_Shade___len__)=some code_Shade___len___07:=by decide +kernel
noncomputable abbrev s_l_is:Stmt:=top 53
noncomputable abbrev C_l_is:Cfg:={ N:=["_law_told","_law_row","_law_text_here","_law_many"],names:=(defScope s_l_is).names,blk:=false,fns:=["_law_is_fraction","_law_text","is_shade","shares_of"],mks:=["Shade"],shs:=[],mkk:=[],gls:=["Shade"],tys:=["bool","str"],blt:=["all","bool","len","repr","str"],M:=[],rm:=false,nes:=[("Shade","Shade.__eq__")],ows:=[("str",[("Shade","Shade.__str__")]),("repr",[("Shade","Shade.__repr__")]),("len",[("Shade","Shade.__len__")]),("bool",[("Shade","Shade.__len__")])] }
theorem dk_l_is:DefOk s_l_is ["_law_told","_law_row"] C_l_is:=⟨⟨rfl,rfl,rfl,by decide +kernel,rfl,by decide +kernel,by decide +kernel⟩,rfl,rfl⟩
theorem cd_l_is:cSs 80 C_l_is (defBody s_l_is)=some code_l_is_07:=by decide +kernel
noncomputable abbrev s_l_home:Stmt:=top 56
noncomputable abbrev C_l_home:Cfg:={ N:=["_law_one","_law_row","_law_amount"],names:=(defScope s_l_home).names,blk:=false,fns:=["_law_is","lighter","opposite","turned"],mks:=[],shs:=[("turned",1,[],[.arg 0,.non])],mkk:=[],gls:=[],tys:=[],blt:=[],M:=[],rm:=false }
theorem dk_l_home:DefOk s_l_home ["_law_one","_law_row","_law_amount"] C_l_home:=⟨⟨rfl,rfl,rfl,by decide +kernel,rfl,by decide +kernel,by decide +kernel⟩,rfl,rfl⟩
theorem cd_l_home:cSs 80 C_l_home (defBody s_l_home)=some code_l_home:=by decide +kernel
noncomputable abbrev s_l_left_out:Stmt:=top 55
noncomputable abbrev C_l_left_out:Cfg:={ N:=["_law_one","_law_row","_law_some"],names:=(defScope s_l_left_out).names,blk:=false,fns:=["_law_deed","_law_is"],mks:=[],shs:=[("darker",1,[],[.arg 0,.non]),("duller",1,[],[.arg 0,.non]),("lighter",0,["shade"],[.arg 0,.non]),("lighter",1,[],[.arg 0,.non]),("turned",0,["shade"],[.arg 0,.non]),("turned",1,[],[.arg 0,.non])],mkk:=[],gls:=[],tys:=[],blt:=["all"],M:=[],rm:=false }
theorem dk_l_left_out:DefOk s_l_left_out ["_law_one","_law_row"] C_l_left_out:=⟨⟨rfl,rfl,rfl,by decide +kernel,rfl,by decide +kernel,by decide +kernel⟩,rfl,rfl⟩
theorem cd_l_left_out:cSs 80 C_l_left_out (defBody s_l_left_out)=some code_l_left_out:=by decide +kernel
noncomputable abbrev s_l_made:Stmt:=top 50
noncomputable abbrev C_l_made:Cfg:={ N:=["_law_purse_here","_law_row"],names:=(defScope s_l_made).names,blk:=false,fns:=["_law_pick"],mks:=["Shade"],shs:=[],mkk:=[("Shade",["sky","ember","leaf"],[.arg 1,.arg 2,.arg 0])],gls:=["Shade"],tys:=[],blt:=[],M:=[],rm:=false }
theorem dk_l_made:DefOk s_l_made ["_law_purse_here","_law_row"] C_l_made:=⟨⟨rfl,rfl,rfl,by decide +kernel,rfl,by decide +kernel,by decide +kernel⟩,rfl,rfl⟩
theorem cd_l_made:cSs 80 C_l_made (defBody s_l_made)=some code_l_made:=by decide +kernel
noncomputable abbrev s_l_purse:Stmt:=top 39
noncomputable abbrev C_l_purse:Cfg:={ N:=["_law_cell_here"],names:=(defScope s_l_purse).names,blk:=false,fns:=[],mks:=[],shs:=[],mkk:=[],gls:=[],tys:=["int"],blt:=["int"],M:=[],rm:=true }
theorem dk_l_purse:DefOk s_l_purse ["_law_cell_here"] C_l_purse:=⟨⟨rfl,rfl,rfl,by decide +kernel,rfl,by decide +kernel,by decide +kernel⟩,rfl,rfl⟩
theorem cd_l_purse:cSs 80 C_l_purse (defBody s_l_purse)=some code_l_purse:=by decide +kernel
noncomputable abbrev s_l_shares:Stmt:=top 49
noncomputable abbrev C_l_shares:Cfg:={ N:=["_law_purse_here","_law_alike","_law_row"],names:=(defScope s_l_shares).names,blk:=false,fns:=["_law_pick","_law_share"],mks:=[],shs:=[],mkk:=[],gls:=[],tys:=["tuple"],blt:=["range","tuple"],M:=["_law_row"],rm:=false }
theorem dk_l_shares:DefOk s_l_shares ["_law_purse_here"] C_l_shares:=⟨⟨rfl,rfl,rfl,by decide +kernel,rfl,by decide +kernel,by decide +kernel⟩,rfl,rfl⟩
theorem cd_l_shares:cSs 80 C_l_shares (defBody s_l_shares)=some code_l_shares:=by decide +kernel
noncomputable abbrev s_law:Stmt:=top 57
noncomputable abbrev C_law:Cfg:={ N:=["_law_script","_law_words","_law_k","_law_purse_here","_law_row","_law_one","_law_word","_law_amount","_law_way","_law_told","_law_black"],names:=(defScope s_law).names,blk:=false,fns:=["_law_asked","_law_by","_law_cell","_law_deed","_law_home","_law_is","_law_left_out","_law_made","_law_pick","_law_purse","_law_shares"],mks:=["Shade"],shs:=[],mkk:=[],gls:=["Shade"],tys:=[],blt:=["len","max","min","range"],M:=[],rm:=false }
theorem dk_law:DefOk s_law ["_law_script"] C_law:=⟨⟨rfl,rfl,rfl,by decide +kernel,rfl,by decide +kernel,by decide +kernel⟩,rfl,rfl⟩
theorem cd_law:cSs 80 C_law (defBody s_law)=some code_k07:=by decide +kernel
noncomputable abbrev fX (a b:Str) (s:Stmt) (d m c:Value):FuncData:=PySem.W.fnOf a b (defArgs s) (defBody s) (defScope s) d .none .none m none c .none
noncomputable abbrev oC (l:List Value):Obj:=⟨.type "code",none,.fields l.toArray, #[]⟩
noncomputable abbrev oT (l:List Value):Obj:=⟨.type "tuple",none,.seq l.toArray 0, #[]⟩
noncomputable abbrev oL (l:List Value):Obj:=⟨.none,none,.fields l.toArray, #[]⟩
noncomputable abbrev oN (a b:Str) (s:Stmt):Obj:=⟨.none,none,.func { PySem.W.fnOf a b (defArgs s) (defBody s) (defScope s) .none .none .none .none none .none .none with globals:=0,builtins:=0 }, #[]⟩
noncomputable abbrev oF (a b:Str) (s:Stmt) (d m:Value) (c:Addr):Obj:=⟨.type "function",none,.func (PySem.W.fnOf a b (defArgs s) (defBody s) (defScope s) d .none .none m none (.ref c) .none), #[]⟩
noncomputable abbrev oR (c l:Addr) (m:Value):Obj:=⟨.type "frame",none,.plain, #[some (.ref c),some (.ref 3),some (.ref l),none,some m,none,some (.ref 0)]⟩
noncomputable abbrev oS (c:Addr):Obj:=⟨.type "super",none,.fields #[.ref c,.ref c,.ref c], #[]⟩
noncomputable abbrev oB (n:String) (c:Value):Obj:=⟨.type "builtin_function_or_method",none,.fields #[.builtin n,c], #[]⟩
noncomputable abbrev fC (n:Tok):Value:=.str "/claim/cut.py" n
noncomputable abbrev iV (n:Int):Value:=.int n 0
noncomputable abbrev oD (l:List DictEntry):Obj:=⟨.type "dict",none,.dict l.toArray 0, #[]⟩
noncomputable def kE (P:Params) (x:Str) (t:Tok) (v:Value):DictEntry:=⟨PyData.keyHash P x,.str x t,v⟩
noncomputable def ko3 (P:Params):Obj:=⟨(.type "dict"),none,.dict #[kE P "__name__" 165 (.str "law_lightshares_k07_deeds_of_one_shade" 545),kE P "__doc__" 166 .none,kE P "__package__" 167 .none,kE P "__loader__" 168 (.builtin "__main__.__loader__#opaque"),kE P "__spec__" 169 .none,kE P "__annotations__" 170 (.ref 6),kE P "__builtins__" 171 (.ref 4),kE P "__file__" 173 (.str "/claim/cut.py" 172),kE P "__cached__" 174 .none,kE P "ShadeError" 206 (.ref 24),kE P "NoNumber" 231 (.ref 44),kE P "NoShade" 256 (.ref 63),kE P "NoPart" 281 (.ref 82),kE P "ZERO" 286 (.ref 85),kE P "ONE" 289 (.ref 86),kE P "PIECE_FIGURES" 291 (.int 64 290),kE P "PIECE" 295 (.int 10000000000000000000000000000000000000000000000000000000000000000 294),kE P "is_whole" 302 (.ref 93),kE P "common" 310 (.ref 100),kE P "is_fraction" 319 (.ref 107),kE P "lowest" 328 (.ref 114),kE P "need_fractions" 337 (.ref 121),kE P "plus" 345 (.ref 128),kE P "minus" 353 (.ref 135),kE P "times" 361 (.ref 142),kE P "over" 369 (.ref 149),kE P "figures" 378 (.ref 156),kE P "written" 385 (.ref 163),kE P "is_share" 394 (.ref 170),kE P "Shade" 457 (.ref 211),kE P "is_shade" 464 (.ref 222),kE P "need_shade" 471 (.ref 229),kE P "shares_of" 478 (.ref 236),kE P "shade_of" 488 (.ref 243),kE P "HALF" 493 (.ref 244),kE P "part_of" 500 (.ref 251),kE P "toward" 506 (.ref 256),kE P "lighter" 514 (.ref 264),kE P "darker" 522 (.ref 272),kE P "duller" 532 (.ref 280),kE P "turned" 538 (.ref 286),kE P "opposite" 544 (.ref 291),kE P "_law_cell" 556 (.ref 298),kE P "_law_purse" 563 (.ref 305),kE P "_law_pick" 573 (.ref 312),kE P "_law_whole" 580 (.ref 319),kE P "_law_low" 590 (.ref 326),kE P "_law_plus" 598 (.ref 333),kE P "_law_minus" 606 (.ref 340),kE P "_law_times" 614 (.ref 347),kE P "_law_is_fraction" 621 (.ref 354),kE P "_law_text" 628 (.ref 361),kE P "_law_share" 637 (.ref 368),kE P "_law_shares" 643 (.ref 373),kE P "_law_made" 651 (.ref 380),kE P "_law_deed" 657 (.ref 385),kE P "_law_by" 667 (.ref 392),kE P "_law_is" 673 (.ref 397),kE P "_law_asked" 683 (.ref 404),kE P "_law_left_out" 689 (.ref 409),kE P "_law_home" 698 (.ref 416),kE P "law" 715 (.ref 423)] 62, #[]⟩
noncomputable def ko23 (P:Params):Obj:=⟨(.type "dict"),none,.dict #[kE P "__module__" 196 (.str "lightshares.errors" 187),kE P "__firstlineno__" 200 (.int 2 199),kE P "__static_attributes__" 201 (.ref 22),kE P "__weakref__" 203 (.ref 25),kE P "__doc__" 204 .none] 3, #[]⟩
noncomputable def ko24 (P:Params):Obj:=⟨(.type "type"),none,.cls ⟨"ShadeError",[(.type "ValueError")],[(.ref 24),(.type "ValueError"),(.type "Exception"),(.type "BaseException"),(.type "object")],23,"ShadeError",true,[],[(.ref 44),(.ref 63),(.ref 82)],false,none,false⟩, #[(some (.ref 15)),none,(some (.str "ShadeError" 189)),(some (.str "ShadeError" 197)),(some (.builtin "ValueError.__new__")),(some (.bool true))]⟩
noncomputable def ko43 (P:Params):Obj:=⟨(.type "dict"),none,.dict #[kE P "__module__" 214 (.str "lightshares.errors" 187),kE P "__firstlineno__" 218 (.int 4 217),kE P "__init__" 226 (.ref 41),kE P "__static_attributes__" 228 (.ref 42),kE P "__doc__" 229 .none] 2, #[]⟩
noncomputable def ko44 (P:Params):Obj:=⟨(.type "type"),none,.cls ⟨"NoNumber",[(.ref 24)],[(.ref 44),(.ref 24),(.type "ValueError"),(.type "Exception"),(.type "BaseException"),(.type "object")],43,"NoNumber",true,[],[],false,none,false⟩, #[(some (.ref 28)),none,(some (.str "NoNumber" 207)),(some (.str "NoNumber" 215)),(some (.builtin "ValueError.__new__")),(some (.bool true))]⟩
noncomputable def ko62 (P:Params):Obj:=⟨(.type "dict"),none,.dict #[kE P "__module__" 239 (.str "lightshares.errors" 187),kE P "__firstlineno__" 243 (.int 9 242),kE P "__init__" 251 (.ref 60),kE P "__static_attributes__" 253 (.ref 61),kE P "__doc__" 254 .none] 2, #[]⟩
noncomputable def ko63 (P:Params):Obj:=⟨(.type "type"),none,.cls ⟨"NoShade",[(.ref 24)],[(.ref 63),(.ref 24),(.type "ValueError"),(.type "Exception"),(.type "BaseException"),(.type "object")],62,"NoShade",true,[],[],false,none,false⟩, #[(some (.ref 47)),none,(some (.str "NoShade" 232)),(some (.str "NoShade" 240)),(some (.builtin "ValueError.__new__")),(some (.bool true))]⟩
noncomputable def ko81 (P:Params):Obj:=⟨(.type "dict"),none,.dict #[kE P "__module__" 264 (.str "lightshares.errors" 187),kE P "__firstlineno__" 268 (.int 14 267),kE P "__init__" 276 (.ref 79),kE P "__static_attributes__" 278 (.ref 80),kE P "__doc__" 279 .none] 2, #[]⟩
noncomputable def ko82 (P:Params):Obj:=⟨(.type "type"),none,.cls ⟨"NoPart",[(.ref 24)],[(.ref 82),(.ref 24),(.type "ValueError"),(.type "Exception"),(.type "BaseException"),(.type "object")],81,"NoPart",true,[],[],false,none,false⟩, #[(some (.ref 66)),none,(some (.str "NoPart" 257)),(some (.str "NoPart" 265)),(some (.builtin "ValueError.__new__")),(some (.bool true))]⟩
noncomputable def ko85 (P:Params):Obj:=oT [.int 0 284,.int 1 285]
noncomputable def ko86 (P:Params):Obj:=oT [.int 1 287,.int 1 288]
noncomputable def ko92 (P:Params):Obj:=oC [.str "is_whole" 296,.str "is_whole" 297,fC 298,iV 24,iV 1,iV 0,iV 0,iV 3,.ref 87,.bool true,iV 181,.ref 88,.none,.ref 89,.ref 90,.ref 91,iV 300,iV 24,fC 301]
noncomputable def ko93 (P:Params):Obj:=oF "is_whole" "is_whole" s_is_whole .none (.str "lightshares.fractions" 282) 92
noncomputable def ko99 (P:Params):Obj:=oC [.str "common" 303,.str "common" 304,fC 305,iV 26,iV 2,iV 0,iV 0,iV 3,.ref 94,.bool true,iV 181,.ref 95,.none,.ref 96,.ref 97,.ref 98,iV 308,iV 26,fC 309]
noncomputable def ko100 (P:Params):Obj:=oF "common" "common" s_common .none (.str "lightshares.fractions" 282) 99
noncomputable def ko106 (P:Params):Obj:=oC [.str "is_fraction" 311,.str "is_fraction" 312,fC 313,iV 30,iV 1,iV 0,iV 0,iV 3,.ref 101,.bool true,iV 181,.ref 102,.none,.ref 103,.ref 104,.ref 105,iV 317,iV 30,fC 318]
noncomputable def ko107 (P:Params):Obj:=oF "is_fraction" "is_fraction" s_is_fraction .none (.str "lightshares.fractions" 282) 106
noncomputable def ko113 (P:Params):Obj:=oC [.str "lowest" 320,.str "lowest" 321,fC 322,iV 35,iV 2,iV 0,iV 0,iV 3,.ref 108,.bool true,iV 181,.ref 109,.none,.ref 110,.ref 111,.ref 112,iV 326,iV 35,fC 327]
noncomputable def ko114 (P:Params):Obj:=oF "lowest" "lowest" s_lowest .none (.str "lightshares.fractions" 282) 113
noncomputable def ko120 (P:Params):Obj:=oC [.str "need_fractions" 329,.str "need_fractions" 330,fC 331,iV 40,iV 1,iV 0,iV 0,iV 3,.ref 115,.bool true,iV 181,.ref 116,.none,.ref 117,.ref 118,.ref 119,iV 335,iV 40,fC 336]
noncomputable def ko121 (P:Params):Obj:=oF "need_fractions" "need_fractions" s_need_fractions .none (.str "lightshares.fractions" 282) 120
noncomputable def ko127 (P:Params):Obj:=oC [.str "plus" 338,.str "plus" 339,fC 340,iV 44,iV 2,iV 0,iV 0,iV 3,.ref 122,.bool true,iV 181,.ref 123,.none,.ref 124,.ref 125,.ref 126,iV 343,iV 44,fC 344]
noncomputable def ko128 (P:Params):Obj:=oF "plus" "plus" s_plus .none (.str "lightshares.fractions" 282) 127
noncomputable def ko134 (P:Params):Obj:=oC [.str "minus" 346,.str "minus" 347,fC 348,iV 47,iV 2,iV 0,iV 0,iV 3,.ref 129,.bool true,iV 181,.ref 130,.none,.ref 131,.ref 132,.ref 133,iV 351,iV 47,fC 352]
noncomputable def ko135 (P:Params):Obj:=oF "minus" "minus" s_minus .none (.str "lightshares.fractions" 282) 134
noncomputable def ko141 (P:Params):Obj:=oC [.str "times" 354,.str "times" 355,fC 356,iV 50,iV 2,iV 0,iV 0,iV 3,.ref 136,.bool true,iV 181,.ref 137,.none,.ref 138,.ref 139,.ref 140,iV 359,iV 50,fC 360]
noncomputable def ko142 (P:Params):Obj:=oF "times" "times" s_times .none (.str "lightshares.fractions" 282) 141
noncomputable def ko148 (P:Params):Obj:=oC [.str "over" 362,.str "over" 363,fC 364,iV 53,iV 2,iV 0,iV 0,iV 3,.ref 143,.bool true,iV 181,.ref 144,.none,.ref 145,.ref 146,.ref 147,iV 367,iV 53,fC 368]
noncomputable def ko149 (P:Params):Obj:=oF "over" "over" s_over .none (.str "lightshares.fractions" 282) 148
noncomputable def ko155 (P:Params):Obj:=oC [.str "figures" 370,.str "figures" 371,fC 372,iV 58,iV 1,iV 0,iV 0,iV 3,.ref 150,.bool true,iV 181,.ref 151,.none,.ref 152,.ref 153,.ref 154,iV 376,iV 58,fC 377]
noncomputable def ko156 (P:Params):Obj:=oF "figures" "figures" s_figures .none (.str "lightshares.fractions" 282) 155
noncomputable def ko162 (P:Params):Obj:=oC [.str "written" 379,.str "written" 380,fC 381,iV 65,iV 1,iV 0,iV 0,iV 3,.ref 157,.bool true,iV 181,.ref 158,.none,.ref 159,.ref 160,.ref 161,iV 383,iV 65,fC 384]
noncomputable def ko163 (P:Params):Obj:=oF "written" "written" s_written .none (.str "lightshares.fractions" 282) 162
noncomputable def ko169 (P:Params):Obj:=oC [.str "is_share" 388,.str "is_share" 389,fC 390,iV 70,iV 1,iV 0,iV 0,iV 3,.ref 164,.bool true,iV 181,.ref 165,.none,.ref 166,.ref 167,.ref 168,iV 392,iV 70,fC 393]
noncomputable def ko170 (P:Params):Obj:=oF "is_share" "is_share" s_is_share .none (.str "lightshares.shades" 386) 169
noncomputable def ko183 (P:Params):Obj:=oC [.str "__init__" 407,.str "Shade.__init__" 408,fC 409,iV 74,iV 4,iV 0,iV 0,iV 3,.ref 178,.bool true,iV 181,.ref 179,.none,.ref 180,.ref 181,.ref 182,iV 416,iV 74,fC 417]
noncomputable def ko184 (P:Params):Obj:=oF "__init__" "Shade.__init__" s_Shade___init__ .none (.str "lightshares.shades" 386) 183
noncomputable def ko190 (P:Params):Obj:=oC [.str "__eq__" 419,.str "Shade.__eq__" 420,fC 421,iV 82,iV 2,iV 0,iV 0,iV 3,.ref 185,.bool true,iV 181,.ref 186,.none,.ref 187,.ref 188,.ref 189,iV 424,iV 82,fC 425]
noncomputable def ko191 (P:Params):Obj:=oF "__eq__" "Shade.__eq__" s_Shade___eq__ .none (.str "lightshares.shades" 386) 190
noncomputable def ko195 (P:Params):Obj:=oC [.str "__len__" 427,.str "Shade.__len__" 428,fC 429,iV 85,iV 1,iV 0,iV 0,iV 3,.ref 192,.bool true,iV 181,.ref 193,.none,.none,.none,.ref 194,iV 430,iV 85,fC 431]
noncomputable def ko196 (P:Params):Obj:=oF "__len__" "Shade.__len__" s_Shade___len__ .none (.str "lightshares.shades" 386) 195
noncomputable def ko200 (P:Params):Obj:=oC [.str "__str__" 433,.str "Shade.__str__" 434,fC 435,iV 88,iV 1,iV 0,iV 0,iV 3,.ref 197,.bool true,iV 181,.ref 198,.none,.none,.none,.ref 199,iV 436,iV 88,fC 437]
noncomputable def ko201 (P:Params):Obj:=oF "__str__" "Shade.__str__" s_Shade___str__ .none (.str "lightshares.shades" 386) 200
noncomputable def ko207 (P:Params):Obj:=oC [.str "__repr__" 439,.str "Shade.__repr__" 440,fC 441,iV 91,iV 1,iV 0,iV 0,iV 3,.ref 202,.bool true,iV 181,.ref 203,.none,.ref 204,.ref 205,.ref 206,iV 443,iV 91,fC 444]
noncomputable def ko208 (P:Params):Obj:=oF "__repr__" "Shade.__repr__" s_Shade___repr__ .none (.str "lightshares.shades" 386) 207
noncomputable def ko210 (P:Params):Obj:=⟨(.type "dict"),none,.dict #[kE P "__module__" 402 (.str "lightshares.shades" 386),kE P "__firstlineno__" 406 (.int 72 405),kE P "__init__" 418 (.ref 184),kE P "__eq__" 426 (.ref 191),kE P "__len__" 432 (.ref 196),kE P "__str__" 438 (.ref 201),kE P "__repr__" 445 (.ref 208),kE P "__static_attributes__" 449 (.ref 209),kE P "__dict__" 451 (.ref 212),kE P "__weakref__" 453 (.ref 213),kE P "__doc__" 454 .none,kE P "__hash__" 455 .none] 5, #[]⟩
noncomputable def ko211 (P:Params):Obj:=⟨(.type "type"),none,.cls ⟨"Shade",[(.type "object")],[(.ref 211),(.type "object")],210,"Shade",true,[],[],false,none,false⟩, #[none,none,(some (.str "Shade" 395)),(some (.str "Shade" 403)),(some (.builtin "object.__new__")),(some (.bool true))]⟩
noncomputable def ko221 (P:Params):Obj:=oC [.str "is_shade" 458,.str "is_shade" 459,fC 460,iV 93,iV 1,iV 0,iV 0,iV 3,.ref 216,.bool true,iV 181,.ref 217,.none,.ref 218,.ref 219,.ref 220,iV 462,iV 93,fC 463]
noncomputable def ko222 (P:Params):Obj:=oF "is_shade" "is_shade" s_is_shade .none (.str "lightshares.shades" 386) 221
noncomputable def ko228 (P:Params):Obj:=oC [.str "need_shade" 465,.str "need_shade" 466,fC 467,iV 95,iV 1,iV 0,iV 0,iV 3,.ref 223,.bool true,iV 181,.ref 224,.none,.ref 225,.ref 226,.ref 227,iV 469,iV 95,fC 470]
noncomputable def ko229 (P:Params):Obj:=oF "need_shade" "need_shade" s_need_shade .none (.str "lightshares.shades" 386) 228
noncomputable def ko235 (P:Params):Obj:=oC [.str "shares_of" 472,.str "shares_of" 473,fC 474,iV 98,iV 1,iV 0,iV 0,iV 3,.ref 230,.bool true,iV 181,.ref 231,.none,.ref 232,.ref 233,.ref 234,iV 476,iV 98,fC 477]
noncomputable def ko236 (P:Params):Obj:=oF "shares_of" "shares_of" s_shares_of .none (.str "lightshares.shades" 386) 235
noncomputable def ko242 (P:Params):Obj:=oC [.str "shade_of" 479,.str "shade_of" 480,fC 481,iV 101,iV 1,iV 0,iV 0,iV 3,.ref 237,.bool true,iV 181,.ref 238,.none,.ref 239,.ref 240,.ref 241,iV 486,iV 101,fC 487]
noncomputable def ko243 (P:Params):Obj:=oF "shade_of" "shade_of" s_shade_of .none (.str "lightshares.shades" 386) 242
noncomputable def ko244 (P:Params):Obj:=oT [.int 1 491,.int 2 492]
noncomputable def ko250 (P:Params):Obj:=oC [.str "part_of" 494,.str "part_of" 495,fC 496,iV 106,iV 1,iV 0,iV 0,iV 3,.ref 245,.bool true,iV 181,.ref 246,.none,.ref 247,.ref 248,.ref 249,iV 498,iV 106,fC 499]
noncomputable def ko251 (P:Params):Obj:=oF "part_of" "part_of" s_part_of .none (.str "lightshares.deeds" 489) 250
noncomputable def ko255 (P:Params):Obj:=oC [.str "toward" 501,.str "toward" 502,fC 503,iV 112,iV 3,iV 0,iV 0,iV 3,.ref 252,.bool true,iV 181,.ref 253,.none,.none,.none,.ref 254,iV 504,iV 112,fC 505]
noncomputable def ko256 (P:Params):Obj:=oF "toward" "toward" s_toward .none (.str "lightshares.deeds" 489) 255
noncomputable def ko257 (P:Params):Obj:=oT [.none]
noncomputable def ko263 (P:Params):Obj:=oC [.str "lighter" 507,.str "lighter" 508,fC 509,iV 114,iV 2,iV 0,iV 0,iV 3,.ref 258,.bool true,iV 181,.ref 259,.none,.ref 260,.ref 261,.ref 262,iV 512,iV 114,fC 513]
noncomputable def ko264 (P:Params):Obj:=oF "lighter" "lighter" s_lighter (.ref 257) (.str "lightshares.deeds" 489) 263
noncomputable def ko265 (P:Params):Obj:=oT [.none]
noncomputable def ko271 (P:Params):Obj:=oC [.str "darker" 515,.str "darker" 516,fC 517,iV 117,iV 2,iV 0,iV 0,iV 3,.ref 266,.bool true,iV 181,.ref 267,.none,.ref 268,.ref 269,.ref 270,iV 520,iV 117,fC 521]
noncomputable def ko272 (P:Params):Obj:=oF "darker" "darker" s_darker (.ref 265) (.str "lightshares.deeds" 489) 271
noncomputable def ko273 (P:Params):Obj:=oT [.none]
noncomputable def ko279 (P:Params):Obj:=oC [.str "duller" 523,.str "duller" 524,fC 525,iV 120,iV 2,iV 0,iV 0,iV 3,.ref 274,.bool true,iV 181,.ref 275,.none,.ref 276,.ref 277,.ref 278,iV 530,iV 120,fC 531]
noncomputable def ko280 (P:Params):Obj:=oF "duller" "duller" s_duller (.ref 273) (.str "lightshares.deeds" 489) 279
noncomputable def ko281 (P:Params):Obj:=oT [.none]
noncomputable def ko285 (P:Params):Obj:=oC [.str "turned" 533,.str "turned" 534,fC 535,iV 125,iV 2,iV 0,iV 0,iV 3,.ref 282,.bool true,iV 181,.ref 283,.none,.none,.none,.ref 284,iV 536,iV 125,fC 537]
noncomputable def ko286 (P:Params):Obj:=oF "turned" "turned" s_turned (.ref 281) (.str "lightshares.deeds" 489) 285
noncomputable def ko290 (P:Params):Obj:=oC [.str "opposite" 539,.str "opposite" 540,fC 541,iV 133,iV 1,iV 0,iV 0,iV 3,.ref 287,.bool true,iV 181,.ref 288,.none,.none,.none,.ref 289,iV 542,iV 133,fC 543]
noncomputable def ko291 (P:Params):Obj:=oF "opposite" "opposite" s_opposite .none (.str "lightshares.deeds" 489) 290
noncomputable def ko297 (P:Params):Obj:=oC [.str "_law_cell" 547,.str "_law_cell" 548,fC 549,iV 136,iV 2,iV 0,iV 0,iV 3,.ref 292,.bool true,iV 181,.ref 293,.none,.ref 294,.ref 295,.ref 296,iV 554,iV 136,fC 555]
noncomputable def ko298 (P:Params):Obj:=oF "_law_cell" "_law_cell" s_l_cell .none (.str "law_lightshares_k07_deeds_of_one_shade" 545) 297
noncomputable def ko304 (P:Params):Obj:=oC [.str "_law_purse" 557,.str "_law_purse" 558,fC 559,iV 143,iV 1,iV 0,iV 0,iV 3,.ref 299,.bool true,iV 181,.ref 300,.none,.ref 301,.ref 302,.ref 303,iV 561,iV 143,fC 562]
noncomputable def ko305 (P:Params):Obj:=oF "_law_purse" "_law_purse" s_l_purse .none (.str "law_lightshares_k07_deeds_of_one_shade" 545) 304
noncomputable def ko311 (P:Params):Obj:=oC [.str "_law_pick" 564,.str "_law_pick" 565,fC 566,iV 145,iV 2,iV 0,iV 0,iV 3,.ref 306,.bool true,iV 181,.ref 307,.none,.ref 308,.ref 309,.ref 310,iV 571,iV 145,fC 572]
noncomputable def ko312 (P:Params):Obj:=oF "_law_pick" "_law_pick" s_l_pick .none (.str "law_lightshares_k07_deeds_of_one_shade" 545) 311
noncomputable def ko318 (P:Params):Obj:=oC [.str "_law_whole" 574,.str "_law_whole" 575,fC 576,iV 154,iV 1,iV 0,iV 0,iV 3,.ref 313,.bool true,iV 181,.ref 314,.none,.ref 315,.ref 316,.ref 317,iV 578,iV 154,fC 579]
noncomputable def ko319 (P:Params):Obj:=oF "_law_whole" "_law_whole" s_l_whole .none (.str "law_lightshares_k07_deeds_of_one_shade" 545) 318
noncomputable def ko325 (P:Params):Obj:=oC [.str "_law_low" 581,.str "_law_low" 582,fC 583,iV 156,iV 2,iV 0,iV 0,iV 3,.ref 320,.bool true,iV 181,.ref 321,.none,.ref 322,.ref 323,.ref 324,iV 588,iV 156,fC 589]
noncomputable def ko326 (P:Params):Obj:=oF "_law_low" "_law_low" s_l_low .none (.str "law_lightshares_k07_deeds_of_one_shade" 545) 325
noncomputable def ko332 (P:Params):Obj:=oC [.str "_law_plus" 591,.str "_law_plus" 592,fC 593,iV 163,iV 2,iV 0,iV 0,iV 3,.ref 327,.bool true,iV 181,.ref 328,.none,.ref 329,.ref 330,.ref 331,iV 596,iV 163,fC 597]
noncomputable def ko333 (P:Params):Obj:=oF "_law_plus" "_law_plus" s_l_plus .none (.str "law_lightshares_k07_deeds_of_one_shade" 545) 332
noncomputable def ko339 (P:Params):Obj:=oC [.str "_law_minus" 599,.str "_law_minus" 600,fC 601,iV 165,iV 2,iV 0,iV 0,iV 3,.ref 334,.bool true,iV 181,.ref 335,.none,.ref 336,.ref 337,.ref 338,iV 604,iV 165,fC 605]
noncomputable def ko340 (P:Params):Obj:=oF "_law_minus" "_law_minus" s_l_minus .none (.str "law_lightshares_k07_deeds_of_one_shade" 545) 339
noncomputable def ko346 (P:Params):Obj:=oC [.str "_law_times" 607,.str "_law_times" 608,fC 609,iV 167,iV 2,iV 0,iV 0,iV 3,.ref 341,.bool true,iV 181,.ref 342,.none,.ref 343,.ref 344,.ref 345,iV 612,iV 167,fC 613]
noncomputable def ko347 (P:Params):Obj:=oF "_law_times" "_law_times" s_l_times .none (.str "law_lightshares_k07_deeds_of_one_shade" 545) 346
noncomputable def ko353 (P:Params):Obj:=oC [.str "_law_is_fraction" 615,.str "_law_is_fraction" 616,fC 617,iV 169,iV 1,iV 0,iV 0,iV 3,.ref 348,.bool true,iV 181,.ref 349,.none,.ref 350,.ref 351,.ref 352,iV 619,iV 169,fC 620]
noncomputable def ko354 (P:Params):Obj:=oF "_law_is_fraction" "_law_is_fraction" s_l_is_fraction .none (.str "law_lightshares_k07_deeds_of_one_shade" 545) 353
noncomputable def ko360 (P:Params):Obj:=oC [.str "_law_text" 622,.str "_law_text" 623,fC 624,iV 173,iV 1,iV 0,iV 0,iV 3,.ref 355,.bool true,iV 181,.ref 356,.none,.ref 357,.ref 358,.ref 359,iV 626,iV 173,fC 627]
noncomputable def ko361 (P:Params):Obj:=oF "_law_text" "_law_text" s_l_text .none (.str "law_lightshares_k07_deeds_of_one_shade" 545) 360
noncomputable def ko367 (P:Params):Obj:=oC [.str "_law_share" 629,.str "_law_share" 630,fC 631,iV 175,iV 1,iV 0,iV 0,iV 3,.ref 362,.bool true,iV 181,.ref 363,.none,.ref 364,.ref 365,.ref 366,iV 635,iV 175,fC 636]
noncomputable def ko368 (P:Params):Obj:=oF "_law_share" "_law_share" s_l_share .none (.str "law_lightshares_k07_deeds_of_one_shade" 545) 367
noncomputable def ko372 (P:Params):Obj:=oC [.str "_law_shares" 638,.str "_law_shares" 639,fC 640,iV 179,iV 1,iV 0,iV 0,iV 3,.ref 369,.bool true,iV 181,.ref 370,.none,.none,.none,.ref 371,iV 641,iV 179,fC 642]
noncomputable def ko373 (P:Params):Obj:=oF "_law_shares" "_law_shares" s_l_shares .none (.str "law_lightshares_k07_deeds_of_one_shade" 545) 372
noncomputable def ko379 (P:Params):Obj:=oC [.str "_law_made" 644,.str "_law_made" 645,fC 646,iV 187,iV 2,iV 0,iV 0,iV 3,.ref 374,.bool true,iV 181,.ref 375,.none,.ref 376,.ref 377,.ref 378,iV 649,iV 187,fC 650]
noncomputable def ko380 (P:Params):Obj:=oF "_law_made" "_law_made" s_l_made .none (.str "law_lightshares_k07_deeds_of_one_shade" 545) 379
noncomputable def ko384 (P:Params):Obj:=oC [.str "_law_deed" 652,.str "_law_deed" 653,fC 654,iV 191,iV 3,iV 0,iV 0,iV 3,.ref 381,.bool true,iV 181,.ref 382,.none,.none,.none,.ref 383,iV 655,iV 191,fC 656]
noncomputable def ko385 (P:Params):Obj:=oF "_law_deed" "_law_deed" s_l_deed .none (.str "law_lightshares_k07_deeds_of_one_shade" 545) 384
noncomputable def ko391 (P:Params):Obj:=oC [.str "_law_by" 658,.str "_law_by" 659,fC 660,iV 208,iV 2,iV 0,iV 0,iV 3,.ref 386,.bool true,iV 181,.ref 387,.none,.ref 388,.ref 389,.ref 390,iV 665,iV 208,fC 666]
noncomputable def ko392 (P:Params):Obj:=oF "_law_by" "_law_by" s_l_by .none (.str "law_lightshares_k07_deeds_of_one_shade" 545) 391
noncomputable def ko396 (P:Params):Obj:=oC [.str "_law_is" 668,.str "_law_is" 669,fC 670,iV 214,iV 2,iV 0,iV 0,iV 3,.ref 393,.bool true,iV 181,.ref 394,.none,.none,.none,.ref 395,iV 671,iV 214,fC 672]
noncomputable def ko397 (P:Params):Obj:=oF "_law_is" "_law_is" s_l_is .none (.str "law_lightshares_k07_deeds_of_one_shade" 545) 396
noncomputable def ko403 (P:Params):Obj:=oC [.str "_law_asked" 674,.str "_law_asked" 675,fC 676,iV 224,iV 4,iV 0,iV 0,iV 3,.ref 398,.bool true,iV 181,.ref 399,.none,.ref 400,.ref 401,.ref 402,iV 681,iV 224,fC 682]
noncomputable def ko404 (P:Params):Obj:=oF "_law_asked" "_law_asked" s_l_asked .none (.str "law_lightshares_k07_deeds_of_one_shade" 545) 403
noncomputable def ko408 (P:Params):Obj:=oC [.str "_law_left_out" 684,.str "_law_left_out" 685,fC 686,iV 234,iV 2,iV 0,iV 0,iV 3,.ref 405,.bool true,iV 181,.ref 406,.none,.none,.none,.ref 407,iV 687,iV 234,fC 688]
noncomputable def ko409 (P:Params):Obj:=oF "_law_left_out" "_law_left_out" s_l_left_out .none (.str "law_lightshares_k07_deeds_of_one_shade" 545) 408
noncomputable def ko415 (P:Params):Obj:=oC [.str "_law_home" 690,.str "_law_home" 691,fC 692,iV 238,iV 3,iV 0,iV 0,iV 3,.ref 410,.bool true,iV 181,.ref 411,.none,.ref 412,.ref 413,.ref 414,iV 696,iV 238,fC 697]
noncomputable def ko416 (P:Params):Obj:=oF "_law_home" "_law_home" s_l_home .none (.str "law_lightshares_k07_deeds_of_one_shade" 545) 415
noncomputable def ko422 (P:Params):Obj:=oC [.str "law" 699,.str "law" 700,fC 701,iV 244,iV 1,iV 0,iV 0,iV 3,.ref 417,.bool true,iV 181,.ref 418,.none,.ref 419,.ref 420,.ref 421,iV 713,iV 244,fC 714]
noncomputable def ko423 (P:Params):Obj:=oF "law" "law" s_law .none (.str "law_lightshares_k07_deeds_of_one_shade" 545) 422
noncomputable def K0:Params→PySem.W.Frag:=fun P=>[(3,ko3 P),(23,ko23 P),(24,ko24 P),(43,ko43 P),(44,ko44 P),(62,ko62 P),(63,ko63 P),(81,ko81 P),(82,ko82 P),(85,ko85 P),(86,ko86 P),(92,ko92 P),(93,ko93 P),(99,ko99 P),(100,ko100 P),(106,ko106 P),(107,ko107 P),(113,ko113 P),(114,ko114 P),(120,ko120 P),(121,ko121 P),(127,ko127 P),(128,ko128 P),(134,ko134 P),(135,ko135 P),(141,ko141 P),(142,ko142 P),(148,ko148 P),(149,ko149 P),(155,ko155 P),(156,ko156 P),(162,ko162 P),(163,ko163 P),(169,ko169 P),(170,ko170 P),(183,ko183 P),(184,ko184 P),(190,ko190 P),(191,ko191 P),(195,ko195 P),(196,ko196 P),(200,ko200 P),(201,ko201 P),(207,ko207 P),(208,ko208 P),(210,ko210 P),(211,ko211 P),(221,ko221 P),(222,ko222 P),(228,ko228 P),(229,ko229 P),(235,ko235 P),(236,ko236 P),(242,ko242 P),(243,ko243 P),(244,ko244 P),(250,ko250 P),(251,ko251 P),(255,ko255 P),(256,ko256 P),(257,ko257 P),(263,ko263 P),(264,ko264 P),(265,ko265 P),(271,ko271 P),(272,ko272 P),(273,ko273 P),(279,ko279 P),(280,ko280 P),(281,ko281 P),(285,ko285 P),(286,ko286 P),(290,ko290 P),(291,ko291 P),(297,ko297 P),(298,ko298 P),(304,ko304 P),(305,ko305 P),(311,ko311 P),(312,ko312 P),(318,ko318 P),(319,ko319 P),(325,ko325 P),(326,ko326 P),(332,ko332 P),(333,ko333 P),(339,ko339 P),(340,ko340 P),(346,ko346 P),(347,ko347 P),(353,ko353 P),(354,ko354 P),(360,ko360 P),(361,ko361 P),(367,ko367 P),(368,ko368 P),(372,ko372 P),(373,ko373 P),(379,ko379 P),(380,ko380 P),(384,ko384 P),(385,ko385 P),(391,ko391 P),(392,ko392 P),(396,ko396 P),(397,ko397 P),(403,ko403 P),(404,ko404 P),(408,ko408 P),(409,ko409 P),(415,ko415 P),(416,ko416 P),(422,ko422 P),(423,ko423 P)]
noncomputable def aK:List Addr:=[3,23,24,43,44,62,63,81,82,85,86,92,93,99,100,106,107,113,114,120,121,127,128,134,135,141,142,148,149,155,156,162,163,169,170,183,184,190,191,195,196,200,201,207,208,210,211,221,222,228,229,235,236,242,243,244,250,251,255,256,257,263,264,265,271,272,273,279,280,281,285,286,290,291,297,298,304,305,311,312,318,319,325,326,332,333,339,340,346,347,353,354,360,361,367,368,372,373,379,380,384,385,391,392,396,397,403,404,408,409,415,416,422,423]
noncomputable def qv:Program:={ PySem.Challenge.pw_lightshares_k07_deeds_of_one_shade with main:={ PySem.Challenge.pw_lightshares_k07_deeds_of_one_shade.main with body:=[top 57] } }
noncomputable def lo:List Str:=(["ShadeError","NoNumber","NoShade","NoPart","ZERO","ONE","PIECE_FIGURES","PIECE","is_whole","common","is_fraction","lowest","need_fractions","plus","minus","times","over","figures","written","is_share","Shade","is_shade","need_shade","shares_of","shade_of","HALF","part_of","toward","lighter","darker","duller","turned","opposite","_law_cell","_law_purse","_law_pick","_law_whole","_law_low","_law_plus","_law_minus","_law_times","_law_is_fraction","_law_text","_law_share","_law_shares","_law_made","_law_deed","_law_by","_law_is","_law_asked","_law_left_out","_law_home"]:List String).map Str.ofString
noncomputable def nmS:List Str:=(["is_whole","common","is_fraction","lowest","need_fractions","plus","minus","times","over","below","nearest_whole","is_share","Shade","Shade.__init__","is_shade","need_shade","shares_of","shade_of","is_grade","need_grade","is_step","need_step","printed","span_of","_law_cell","_law_purse","_law_pick","_law_whole","_law_low","_law_plus","_law_minus","_law_times","_law_over","_law_below","_law_is_fraction","_law_share","_law_shares","_law_made","figures","written","Shade.__str__","Shade.__repr__","Shade.__len__","Shade.__eq__","part_of","toward","lighter","darker","duller","opposite","turned","_law_deed","_law_asked","_law_by","_law_text","_law_is","_law_left_out","_law_home","law"]:List String).map Str.ofString
noncomputable def pkS:Nat→Sp3
  | 0=>spWhole
  | 1=>spCommon
  | 2=>spIsFrac
  | 3=>spLowest
  | 4=>spNeedF
  | 5=>spPlus
  | 6=>spMinus
  | 7=>spTimes
  | 8=>spOver
  | 9=>spBelow
  | 10=>spNear
  | 11=>spIsShare
  | 12=>spShade
  | 13=>spShadeI
  | 14=>spIsShade
  | 15=>spNeedS
  | 16=>spSharesOf
  | 17=>spShadeOf
  | 18=>spIsGr
  | 19=>spNeedGr
  | 20=>spIsStep
  | 21=>spNeedStep
  | 22=>spPrinted
  | 23=>spSpan
  | 24=>spCell
  | 25=>spPurse
  | 26=>spPick
  | 27=>spWhole
  | 28=>spLowest
  | 29=>spPlus
  | 30=>spMinus
  | 31=>spTimes
  | 32=>spOver
  | 33=>spBelow
  | 34=>spIsFracB
  | 35=>spShareL
  | 36=>spSharesL
  | 37=>spMade
  | 38=>spFig
  | 39=>spWr
  | 40=>spStr7
  | 41=>spRep7
  | 42=>spLen7
  | 43=>spEqS
  | 44=>spPart7
  | 45=>spTow7
  | 46=>spDeed7 (fun _=>1)
  | 47=>spDeed7 (fun _=>0)
  | 48=>spDeed7 md
  | 49=>spOpp7
  | 50=>spTurn7
  | 51=>spDeedL
  | 52=>spAsk7
  | 53=>spBy7
  | 54=>spText
  | 55=>spIs7
  | 56=>spLeft
  | 57=>spHome
  | 58=>spTrue
  | _=>fun _ _ _=>False
noncomputable def nmG:List Str:=(["ONE","ZERO","MOST_GRADE","Shade","int","bool","tuple","HALF","PIECE","PIECE_FIGURES","str"]:List String).map Str.ofString
noncomputable def pkG:Nat→PV
  | 0=>FQ 1
  | 1=>FQ 0
  | 2=>.int 1000
  | 3=>.cl "Shade"
  | 4=>.ty "int"
  | 5=>.ty "bool"
  | 6=>.ty "tuple"
  | 7=>.tup [.int 1,.int 2]
  | 8=>.int (10 ^ 64)
  | 9=>.int 64
  | 10=>.ty "str"
  | _=>.non
noncomputable def T:Tb:=⟨fun f=>pkS (nmS.idxOf f),fun f=>pkG (nmG.idxOf f),["Shade"],[("Shade","ember"),("Shade","leaf"),("Shade","sky")]⟩
theorem T_is_whole:T.S "is_whole"=spWhole:=congrArg pkS (by decide +kernel:nmS.idxOf ("is_whole":Str)=0)
theorem T_common:T.S "common"=spCommon:=congrArg pkS (by decide +kernel:nmS.idxOf ("common":Str)=1)
theorem T_is_fraction:T.S "is_fraction"=spIsFrac:=congrArg pkS (by decide +kernel:nmS.idxOf ("is_fraction":Str)=2)
theorem T_lowest:T.S "lowest"=spLowest:=congrArg pkS (by decide +kernel:nmS.idxOf ("lowest":Str)=3)
theorem T_need_fractions:T.S "need_fractions"=spNeedF:=congrArg pkS (by decide +kernel:nmS.idxOf ("need_fractions":Str)=4)
theorem T_plus:T.S "plus"=spPlus:=congrArg pkS (by decide +kernel:nmS.idxOf ("plus":Str)=5)
theorem T_minus:T.S "minus"=spMinus:=congrArg pkS (by decide +kernel:nmS.idxOf ("minus":Str)=6)
theorem T_times:T.S "times"=spTimes:=congrArg pkS (by decide +kernel:nmS.idxOf ("times":Str)=7)
theorem T_over:T.S "over"=spOver:=congrArg pkS (by decide +kernel:nmS.idxOf ("over":Str)=8)
theorem T_below:T.S "below"=spBelow:=congrArg pkS (by decide +kernel:nmS.idxOf ("below":Str)=9)
theorem T_nearest_whole:T.S "nearest_whole"=spNear:=congrArg pkS (by decide +kernel:nmS.idxOf ("nearest_whole":Str)=10)
theorem T_is_share:T.S "is_share"=spIsShare:=congrArg pkS (by decide +kernel:nmS.idxOf ("is_share":Str)=11)
theorem T_Shade:T.S "Shade"=spShade:=congrArg pkS (by decide +kernel:nmS.idxOf ("Shade":Str)=12)
theorem T_Shade___init__:T.S "Shade.__init__"=spShadeI:=congrArg pkS (by decide +kernel:nmS.idxOf ("Shade.__init__":Str)=13)
theorem T_is_shade:T.S "is_shade"=spIsShade:=congrArg pkS (by decide +kernel:nmS.idxOf ("is_shade":Str)=14)
theorem T_need_shade:T.S "need_shade"=spNeedS:=congrArg pkS (by decide +kernel:nmS.idxOf ("need_shade":Str)=15)
theorem T_shares_of:T.S "shares_of"=spSharesOf:=congrArg pkS (by decide +kernel:nmS.idxOf ("shares_of":Str)=16)
theorem T_shade_of:T.S "shade_of"=spShadeOf:=congrArg pkS (by decide +kernel:nmS.idxOf ("shade_of":Str)=17)
theorem T_is_grade:T.S "is_grade"=spIsGr:=congrArg pkS (by decide +kernel:nmS.idxOf ("is_grade":Str)=18)
theorem T_need_grade:T.S "need_grade"=spNeedGr:=congrArg pkS (by decide +kernel:nmS.idxOf ("need_grade":Str)=19)
theorem T_is_step:T.S "is_step"=spIsStep:=congrArg pkS (by decide +kernel:nmS.idxOf ("is_step":Str)=20)
theorem T_need_step:T.S "need_step"=spNeedStep:=congrArg pkS (by decide +kernel:nmS.idxOf ("need_step":Str)=21)
theorem T_printed:T.S "printed"=spPrinted:=congrArg pkS (by decide +kernel:nmS.idxOf ("printed":Str)=22)
theorem T_span_of:T.S "span_of"=spSpan:=congrArg pkS (by decide +kernel:nmS.idxOf ("span_of":Str)=23)
theorem T_l_cell:T.S "_law_cell"=spCell:=congrArg pkS (by decide +kernel:nmS.idxOf ("_law_cell":Str)=24)
theorem T_l_purse:T.S "_law_purse"=spPurse:=congrArg pkS (by decide +kernel:nmS.idxOf ("_law_purse":Str)=25)
theorem T_l_pick:T.S "_law_pick"=spPick:=congrArg pkS (by decide +kernel:nmS.idxOf ("_law_pick":Str)=26)
theorem T_l_whole:T.S "_law_whole"=spWhole:=congrArg pkS (by decide +kernel:nmS.idxOf ("_law_whole":Str)=27)
theorem T_l_low:T.S "_law_low"=spLowest:=congrArg pkS (by decide +kernel:nmS.idxOf ("_law_low":Str)=28)
theorem T_l_plus:T.S "_law_plus"=spPlus:=congrArg pkS (by decide +kernel:nmS.idxOf ("_law_plus":Str)=29)
theorem T_l_minus:T.S "_law_minus"=spMinus:=congrArg pkS (by decide +kernel:nmS.idxOf ("_law_minus":Str)=30)
theorem T_l_times:T.S "_law_times"=spTimes:=congrArg pkS (by decide +kernel:nmS.idxOf ("_law_times":Str)=31)
theorem T_l_over:T.S "_law_over"=spOver:=congrArg pkS (by decide +kernel:nmS.idxOf ("_law_over":Str)=32)
theorem T_l_below:T.S "_law_below"=spBelow:=congrArg pkS (by decide +kernel:nmS.idxOf ("_law_below":Str)=33)
theorem T_l_is_fraction:T.S "_law_is_fraction"=spIsFracB:=congrArg pkS (by decide +kernel:nmS.idxOf ("_law_is_fraction":Str)=34)
theorem T_l_share:T.S "_law_share"=spShareL:=congrArg pkS (by decide +kernel:nmS.idxOf ("_law_share":Str)=35)
theorem T_l_shares:T.S "_law_shares"=spSharesL:=congrArg pkS (by decide +kernel:nmS.idxOf ("_law_shares":Str)=36)
theorem T_l_made:T.S "_law_made"=spMade:=congrArg pkS (by decide +kernel:nmS.idxOf ("_law_made":Str)=37)
theorem T_figures:T.S "figures"=spFig:=congrArg pkS (by decide +kernel:nmS.idxOf ("figures":Str)=38)
theorem T_written:T.S "written"=spWr:=congrArg pkS (by decide +kernel:nmS.idxOf ("written":Str)=39)
theorem T_Shade___str__:T.S "Shade.__str__"=spStr7:=congrArg pkS (by decide +kernel:nmS.idxOf ("Shade.__str__":Str)=40)
theorem T_Shade___repr__:T.S "Shade.__repr__"=spRep7:=congrArg pkS (by decide +kernel:nmS.idxOf ("Shade.__repr__":Str)=41)
theorem T_Shade___len__:T.S "Shade.__len__"=spLen7:=congrArg pkS (by decide +kernel:nmS.idxOf ("Shade.__len__":Str)=42)
theorem T_Shade___eq__:T.S "Shade.__eq__"=spEqS:=congrArg pkS (by decide +kernel:nmS.idxOf ("Shade.__eq__":Str)=43)
theorem T_part_of:T.S "part_of"=spPart7:=congrArg pkS (by decide +kernel:nmS.idxOf ("part_of":Str)=44)
theorem T_toward:T.S "toward"=spTow7:=congrArg pkS (by decide +kernel:nmS.idxOf ("toward":Str)=45)
theorem T_lighter:T.S "lighter"=spDeed7 (fun _=>1):=congrArg pkS (by decide +kernel:nmS.idxOf ("lighter":Str)=46)
theorem T_darker:T.S "darker"=spDeed7 (fun _=>0):=congrArg pkS (by decide +kernel:nmS.idxOf ("darker":Str)=47)
theorem T_duller:T.S "duller"=spDeed7 md:=congrArg pkS (by decide +kernel:nmS.idxOf ("duller":Str)=48)
theorem T_opposite:T.S "opposite"=spOpp7:=congrArg pkS (by decide +kernel:nmS.idxOf ("opposite":Str)=49)
theorem T_turned:T.S "turned"=spTurn7:=congrArg pkS (by decide +kernel:nmS.idxOf ("turned":Str)=50)
theorem T_l_deed:T.S "_law_deed"=spDeedL:=congrArg pkS (by decide +kernel:nmS.idxOf ("_law_deed":Str)=51)
theorem T_l_asked:T.S "_law_asked"=spAsk7:=congrArg pkS (by decide +kernel:nmS.idxOf ("_law_asked":Str)=52)
theorem T_l_by:T.S "_law_by"=spBy7:=congrArg pkS (by decide +kernel:nmS.idxOf ("_law_by":Str)=53)
theorem T_l_text:T.S "_law_text"=spText:=congrArg pkS (by decide +kernel:nmS.idxOf ("_law_text":Str)=54)
theorem T_l_is:T.S "_law_is"=spIs7:=congrArg pkS (by decide +kernel:nmS.idxOf ("_law_is":Str)=55)
theorem T_l_left_out:T.S "_law_left_out"=spLeft:=congrArg pkS (by decide +kernel:nmS.idxOf ("_law_left_out":Str)=56)
theorem T_l_home:T.S "_law_home"=spHome:=congrArg pkS (by decide +kernel:nmS.idxOf ("_law_home":Str)=57)
theorem T_law:T.S "law"=spTrue:=congrArg pkS (by decide +kernel:nmS.idxOf ("law":Str)=58)
theorem G_ONE:T.gv "ONE"=FQ 1:=congrArg pkG (by decide +kernel:nmG.idxOf ("ONE":Str)=0)
theorem G_ZERO:T.gv "ZERO"=FQ 0:=congrArg pkG (by decide +kernel:nmG.idxOf ("ZERO":Str)=1)
theorem G_MOST_GRADE:T.gv "MOST_GRADE"= .int 1000:=congrArg pkG (by decide +kernel:nmG.idxOf ("MOST_GRADE":Str)=2)
theorem G_Shade:T.gv "Shade"= .cl "Shade":=congrArg pkG (by decide +kernel:nmG.idxOf ("Shade":Str)=3)
theorem G_int:T.gv "int"= .ty "int":=congrArg pkG (by decide +kernel:nmG.idxOf ("int":Str)=4)
theorem G_bool:T.gv "bool"= .ty "bool":=congrArg pkG (by decide +kernel:nmG.idxOf ("bool":Str)=5)
theorem G_tuple:T.gv "tuple"= .ty "tuple":=congrArg pkG (by decide +kernel:nmG.idxOf ("tuple":Str)=6)
theorem G_HALF:T.gv "HALF"= .tup [.int 1,.int 2]:=congrArg pkG (by decide +kernel:nmG.idxOf ("HALF":Str)=7)
theorem G_PIECE:T.gv "PIECE"= .int (10 ^ 64):=congrArg pkG (by decide +kernel:nmG.idxOf ("PIECE":Str)=8)
theorem G_PIECE_FIGURES:T.gv "PIECE_FIGURES"= .int 64:=congrArg pkG (by decide +kernel:nmG.idxOf ("PIECE_FIGURES":Str)=9)
theorem G_str:T.gv "str"= .ty "str":=congrArg pkG (by decide +kernel:nmG.idxOf ("str":Str)=10)
theorem hPT:PT T:={ is_whole:=T_is_whole,common:=T_common,is_fraction:=T_is_fraction,lowest:=T_lowest,need_fractions:=T_need_fractions,plus:=T_plus,minus:=T_minus,times:=T_times,over:=T_over,below:=T_below,nearest_whole:=T_nearest_whole,is_share:=T_is_share,shade:=T_Shade,shadeI:=T_Shade___init__,is_shade:=T_is_shade,need_shade:=T_need_shade,shares_of:=T_shares_of,shade_of:=T_shade_of,is_grade:=T_is_grade,need_grade:=T_need_grade,is_step:=T_is_step,need_step:=T_need_step,printed:=T_printed,span_of:=T_span_of,gv_ONE:=G_ONE,gv_ZERO:=G_ZERO,gv_MOST_GRADE:=G_MOST_GRADE,gv_Shade:=G_Shade,cs:=by decide +kernel,fl_e:=by decide +kernel,fl_l:=by decide +kernel,fl_s:=by decide +kernel,ty_int:=G_int,ty_bool:=G_bool,ty_tuple:=G_tuple }
theorem hLT:LT T:={ cell:=T_l_cell,purse:=T_l_purse,pick:=T_l_pick,whole:=T_l_whole,low:=T_l_low,plus:=T_l_plus,minus:=T_l_minus,times:=T_l_times,over:=T_l_over,below:=T_l_below,is_fraction:=T_l_is_fraction,share:=T_l_share,shares:=T_l_shares }
theorem hLM:LM T:={ made:=T_l_made }
theorem hL7:L7 T:={ figures:=T_figures,written:=T_written,strS:=T_Shade___str__,repS:=T_Shade___repr__,lenS:=T_Shade___len__,eqS:=T_Shade___eq__,part_of:=T_part_of,toward:=T_toward,lighter:=T_lighter,darker:=T_darker,duller:=T_duller,opposite:=T_opposite,turned:=T_turned,deed:=T_l_deed,asked:=T_l_asked,by_:=T_l_by,text:=T_l_text,is_:=T_l_is,left:=T_l_left_out,home:=T_l_home,gv_HALF:=G_HALF,gv_PIECE:=G_PIECE,gv_PF:=G_PIECE_FIGURES,gv_str:=G_str }
noncomputable def clsAt (a:Nat→Addr) (c:String):Addr:=if c="Shade" then a 48 else 0
theorem cls_Shade {a:Nat→Addr}:clsAt a "Shade"=a 48:=by unfold clsAt; simp
structure Tx (K:PySem.W.Frag) (mg:Str→Option Value) (a:Nat→Addr) (d:Nat→FuncData) (v:Nat→Value):Prop where
  F_common:FunD K "common" "common" s_common (.none) (a 0) (d 0)
  m_common:mg "common"=some (.ref (a 0))
  F_is_whole:FunD K "is_whole" "is_whole" s_is_whole (.none) (a 1) (d 1)
  m_is_whole:mg "is_whole"=some (.ref (a 1))
  F_is_fraction:FunD K "is_fraction" "is_fraction" s_is_fraction (.none) (a 2) (d 2)
  m_is_fraction:mg "is_fraction"=some (.ref (a 2))
  F_is_share:FunD K "is_share" "is_share" s_is_share (.none) (a 3) (d 3)
  m_is_share:mg "is_share"=some (.ref (a 3))
  F_Shade___init__:FunD K "__init__" "Shade.__init__" s_Shade___init__ (.none) (a 4) (d 4)
  F_is_shade:FunD K "is_shade" "is_shade" s_is_shade (.none) (a 5) (d 5)
  m_is_shade:mg "is_shade"=some (.ref (a 5))
  F_need_shade:FunD K "need_shade" "need_shade" s_need_shade (.none) (a 6) (d 6)
  m_need_shade:mg "need_shade"=some (.ref (a 6))
  F_part_of:FunD K "part_of" "part_of" s_part_of (.none) (a 7) (d 7)
  m_part_of:mg "part_of"=some (.ref (a 7))
  F_lowest:FunD K "lowest" "lowest" s_lowest (.none) (a 8) (d 8)
  m_lowest:mg "lowest"=some (.ref (a 8))
  F_need_fractions:FunD K "need_fractions" "need_fractions" s_need_fractions (.none) (a 9) (d 9)
  m_need_fractions:mg "need_fractions"=some (.ref (a 9))
  F_minus:FunD K "minus" "minus" s_minus (.none) (a 10) (d 10)
  m_minus:mg "minus"=some (.ref (a 10))
  F_plus:FunD K "plus" "plus" s_plus (.none) (a 11) (d 11)
  m_plus:mg "plus"=some (.ref (a 11))
  F_shade_of:FunD K "shade_of" "shade_of" s_shade_of (.none) (a 12) (d 12)
  m_shade_of:mg "shade_of"=some (.ref (a 12))
  F_shares_of:FunD K "shares_of" "shares_of" s_shares_of (.none) (a 13) (d 13)
  m_shares_of:mg "shares_of"=some (.ref (a 13))
  F_times:FunD K "times" "times" s_times (.none) (a 14) (d 14)
  m_times:mg "times"=some (.ref (a 14))
  F_toward:FunD K "toward" "toward" s_toward (.none) (a 15) (d 15)
  m_toward:mg "toward"=some (.ref (a 15))
  F_darker:FunD K "darker" "darker" s_darker (v 16) (a 16) (d 16)
  D_darker:∃ (b:Addr) (oc:Value) (od:Option Addr) (n:Nat) (sl:Array (Option Value)) ,v 16= .ref b∧K.lookup b=some ⟨oc,od,.seq #[.none] n,sl⟩
  m_darker:mg "darker"=some (.ref (a 16))
  F_over:FunD K "over" "over" s_over (.none) (a 17) (d 17)
  m_over:mg "over"=some (.ref (a 17))
  F_duller:FunD K "duller" "duller" s_duller (v 18) (a 18) (d 18)
  D_duller:∃ (b:Addr) (oc:Value) (od:Option Addr) (n:Nat) (sl:Array (Option Value)) ,v 18= .ref b∧K.lookup b=some ⟨oc,od,.seq #[.none] n,sl⟩
  m_duller:mg "duller"=some (.ref (a 18))
  F_lighter:FunD K "lighter" "lighter" s_lighter (v 19) (a 19) (d 19)
  D_lighter:∃ (b:Addr) (oc:Value) (od:Option Addr) (n:Nat) (sl:Array (Option Value)) ,v 19= .ref b∧K.lookup b=some ⟨oc,od,.seq #[.none] n,sl⟩
  m_lighter:mg "lighter"=some (.ref (a 19))
  F_opposite:FunD K "opposite" "opposite" s_opposite (.none) (a 20) (d 20)
  m_opposite:mg "opposite"=some (.ref (a 20))
  F_turned:FunD K "turned" "turned" s_turned (v 21) (a 21) (d 21)
  D_turned:∃ (b:Addr) (oc:Value) (od:Option Addr) (n:Nat) (sl:Array (Option Value)) ,v 21= .ref b∧K.lookup b=some ⟨oc,od,.seq #[.none] n,sl⟩
  m_turned:mg "turned"=some (.ref (a 21))
  F_l_asked:FunD K "_law_asked" "_law_asked" s_l_asked (.none) (a 22) (d 22)
  m_l_asked:mg "_law_asked"=some (.ref (a 22))
  F_l_pick:FunD K "_law_pick" "_law_pick" s_l_pick (.none) (a 23) (d 23)
  m_l_pick:mg "_law_pick"=some (.ref (a 23))
  F_l_low:FunD K "_law_low" "_law_low" s_l_low (.none) (a 24) (d 24)
  m_l_low:mg "_law_low"=some (.ref (a 24))
  F_l_share:FunD K "_law_share" "_law_share" s_l_share (.none) (a 25) (d 25)
  m_l_share:mg "_law_share"=some (.ref (a 25))
  F_l_by:FunD K "_law_by" "_law_by" s_l_by (.none) (a 26) (d 26)
  m_l_by:mg "_law_by"=some (.ref (a 26))
  F_l_cell:FunD K "_law_cell" "_law_cell" s_l_cell (.none) (a 27) (d 27)
  m_l_cell:mg "_law_cell"=some (.ref (a 27))
  F_l_minus:FunD K "_law_minus" "_law_minus" s_l_minus (.none) (a 28) (d 28)
  m_l_minus:mg "_law_minus"=some (.ref (a 28))
  F_l_plus:FunD K "_law_plus" "_law_plus" s_l_plus (.none) (a 29) (d 29)
  m_l_plus:mg "_law_plus"=some (.ref (a 29))
  F_l_times:FunD K "_law_times" "_law_times" s_l_times (.none) (a 30) (d 30)
  m_l_times:mg "_law_times"=some (.ref (a 30))
  F_l_deed:FunD K "_law_deed" "_law_deed" s_l_deed (.none) (a 31) (d 31)
  m_l_deed:mg "_law_deed"=some (.ref (a 31))
  F_l_whole:FunD K "_law_whole" "_law_whole" s_l_whole (.none) (a 32) (d 32)
  m_l_whole:mg "_law_whole"=some (.ref (a 32))
  F_l_is_fraction:FunD K "_law_is_fraction" "_law_is_fraction" s_l_is_fraction (.none) (a 33) (d 33)
  m_l_is_fraction:mg "_law_is_fraction"=some (.ref (a 33))
  F_l_text:FunD K "_law_text" "_law_text" s_l_text (.none) (a 34) (d 34)
  m_l_text:mg "_law_text"=some (.ref (a 34))
  F_Shade___eq__:FunD K "__eq__" "Shade.__eq__" s_Shade___eq__ (.none) (a 35) (d 35)
  E_Shade___eq__:Meth K (a 48) "__eq__" (a 35)
  F_figures:FunD K "figures" "figures" s_figures (.none) (a 36) (d 36)
  m_figures:mg "figures"=some (.ref (a 36))
  F_written:FunD K "written" "written" s_written (.none) (a 37) (d 37)
  m_written:mg "written"=some (.ref (a 37))
  F_Shade___str__:FunD K "__str__" "Shade.__str__" s_Shade___str__ (.none) (a 38) (d 38)
  E_Shade___str__:Meth K (a 48) "__str__" (a 38)
  F_Shade___repr__:FunD K "__repr__" "Shade.__repr__" s_Shade___repr__ (.none) (a 39) (d 39)
  E_Shade___repr__:Meth K (a 48) "__repr__" (a 39)
  F_Shade___len__:FunD K "__len__" "Shade.__len__" s_Shade___len__ (.none) (a 40) (d 40)
  E_Shade___len__:Meth K (a 48) "__len__" (a 40)
  F_l_is:FunD K "_law_is" "_law_is" s_l_is (.none) (a 41) (d 41)
  m_l_is:mg "_law_is"=some (.ref (a 41))
  F_l_home:FunD K "_law_home" "_law_home" s_l_home (.none) (a 42) (d 42)
  m_l_home:mg "_law_home"=some (.ref (a 42))
  F_l_left_out:FunD K "_law_left_out" "_law_left_out" s_l_left_out (.none) (a 43) (d 43)
  m_l_left_out:mg "_law_left_out"=some (.ref (a 43))
  F_l_made:FunD K "_law_made" "_law_made" s_l_made (.none) (a 44) (d 44)
  m_l_made:mg "_law_made"=some (.ref (a 44))
  F_l_purse:FunD K "_law_purse" "_law_purse" s_l_purse (.none) (a 45) (d 45)
  m_l_purse:mg "_law_purse"=some (.ref (a 45))
  F_l_shares:FunD K "_law_shares" "_law_shares" s_l_shares (.none) (a 46) (d 46)
  m_l_shares:mg "_law_shares"=some (.ref (a 46))
  F_law:FunD K "law" "law" s_law (.none) (a 47) (d 47)
  m_law:mg "law"=some (.ref (a 47))
  O_Shade:OwnC K (a 48)
  g_Shade:mg "Shade"=some (.ref (a 48))
  M_Shade:Mk K (a 48) (a 4)
  N_Shade:NeC K (a 48)
  kp_Shade:∀ n∈okNs,PySem.W.kitOne K (.type n) (.ref (a 48))=some false
  ko_Shade:∀ n∈okTs,PySem.W.kitOne K (.ref (a 48)) (.type n)=some false
  na_Shade_ember:NoAttr K (a 48) "ember"
  na_Shade_leaf:NoAttr K (a 48) "leaf"
  na_Shade_sky:NoAttr K (a 48) "sky"
  c_HALF:∃ a t0 t1 n sl,mg "HALF"=some (.ref a)∧K.lookup a=some ⟨.type "tuple",none,.seq #[.int 1 t0,.int 2 t1] n,sl⟩
  c_ONE:∃ a t0 t1 n sl,mg "ONE"=some (.ref a)∧K.lookup a=some ⟨.type "tuple",none,.seq #[.int 1 t0,.int 1 t1] n,sl⟩
  c_PIECE:∃ t,mg "PIECE"=some (.int 10000000000000000000000000000000000000000000000000000000000000000 t)
  c_PIECE_FIGURES:∃ t,mg "PIECE_FIGURES"=some (.int 64 t)
  c_ZERO:∃ a t0 t1 n sl,mg "ZERO"=some (.ref a)∧K.lookup a=some ⟨.type "tuple",none,.seq #[.int 0 t0,.int 1 t1] n,sl⟩
  n_abs:mg "abs"=none
  n_all:mg "all"=none
  n_bool:mg "bool"=none
  n_divmod:mg "divmod"=none
  n_enumerate:mg "enumerate"=none
  n_int:mg "int"=none
  n_isinstance:mg "isinstance"=none
  n_len:mg "len"=none
  n_max:mg "max"=none
  n_min:mg "min"=none
  n_range:mg "range"=none
  n_repr:mg "repr"=none
  n_str:mg "str"=none
  n_tuple:mg "tuple"=none
variable {P:Program} {w:World} {K:PySem.W.Frag} {mg:Str→Option Value} {base:Heap} {a:Nat→Addr} {d:Nat→FuncData} {v:Nat→Value}
noncomputable abbrev Ew (K:PySem.W.Frag) (a:Nat→Addr):Ev:=⟨K,clsAt a⟩
theorem b_common (X:Tx K mg a d v):L2.Binds K (d 0) ["one","other"] []:=X.F_common.binds fun _ _ _ _ _ _ _ us _ hl=>match us,hl with | [_,_],_=>.of_eq rfl
theorem b_is_whole (X:Tx K mg a d v):L2.Binds K (d 1) ["thing"] []:=X.F_is_whole.binds fun _ _ _ _ _ _ _ us _ hl=>match us,hl with | [_],_=>.of_eq rfl
theorem b_is_fraction (X:Tx K mg a d v):L2.Binds K (d 2) ["thing"] []:=X.F_is_fraction.binds fun _ _ _ _ _ _ _ us _ hl=>match us,hl with | [_],_=>.of_eq rfl
theorem b_is_share (X:Tx K mg a d v):L2.Binds K (d 3) ["thing"] []:=X.F_is_share.binds fun _ _ _ _ _ _ _ us _ hl=>match us,hl with | [_],_=>.of_eq rfl
theorem b_Shade___init__ (X:Tx K mg a d v):L2.Binds K (d 4) ["self","ember","leaf","sky"] []:=X.F_Shade___init__.binds fun _ _ _ _ _ _ _ us _ hl=>match us,hl with | [_,_,_,_],_=>.of_eq rfl
theorem b_is_shade (X:Tx K mg a d v):L2.Binds K (d 5) ["thing"] []:=X.F_is_shade.binds fun _ _ _ _ _ _ _ us _ hl=>match us,hl with | [_],_=>.of_eq rfl
theorem b_need_shade (X:Tx K mg a d v):L2.Binds K (d 6) ["thing"] []:=X.F_need_shade.binds fun _ _ _ _ _ _ _ us _ hl=>match us,hl with | [_],_=>.of_eq rfl
theorem b_part_of (X:Tx K mg a d v):L2.Binds K (d 7) ["by"] []:=X.F_part_of.binds fun _ _ _ _ _ _ _ us _ hl=>match us,hl with | [_],_=>.of_eq rfl
theorem b_lowest (X:Tx K mg a d v):L2.Binds K (d 8) ["top","bottom"] []:=X.F_lowest.binds fun _ _ _ _ _ _ _ us _ hl=>match us,hl with | [_,_],_=>.of_eq rfl
theorem b_need_fractions (X:Tx K mg a d v):L2.Binds K (d 9) ["things"] []:=X.F_need_fractions.binds fun _ _ _ _ _ _ _ us _ hl=>match us,hl with | [_],_=>.of_eq rfl
theorem b_minus (X:Tx K mg a d v):L2.Binds K (d 10) ["one","other"] []:=X.F_minus.binds fun _ _ _ _ _ _ _ us _ hl=>match us,hl with | [_,_],_=>.of_eq rfl
theorem b_plus (X:Tx K mg a d v):L2.Binds K (d 11) ["one","other"] []:=X.F_plus.binds fun _ _ _ _ _ _ _ us _ hl=>match us,hl with | [_,_],_=>.of_eq rfl
theorem b_shade_of (X:Tx K mg a d v):L2.Binds K (d 12) ["shares"] []:=X.F_shade_of.binds fun _ _ _ _ _ _ _ us _ hl=>match us,hl with | [_],_=>.of_eq rfl
theorem b_shares_of (X:Tx K mg a d v):L2.Binds K (d 13) ["shade"] []:=X.F_shares_of.binds fun _ _ _ _ _ _ _ us _ hl=>match us,hl with | [_],_=>.of_eq rfl
theorem b_times (X:Tx K mg a d v):L2.Binds K (d 14) ["one","other"] []:=X.F_times.binds fun _ _ _ _ _ _ _ us _ hl=>match us,hl with | [_,_],_=>.of_eq rfl
theorem b_toward (X:Tx K mg a d v):L2.Binds K (d 15) ["shade","goal","part"] []:=X.F_toward.binds fun _ _ _ _ _ _ _ us _ hl=>match us,hl with | [_,_,_],_=>.of_eq rfl
theorem b_darker (X:Tx K mg a d v):L2.Binds K (d 16) ["shade","by"] []:=by
  obtain ⟨b,oc,od,n,sl,e,hb⟩:=X.D_darker
  exact X.F_darker.binds fun _ _ _ _ _ _ _ us hK hl=>match us,hl with | [_,_],_=>PySem.W.binds_K hK e hb rfl rfl rfl
theorem b_over (X:Tx K mg a d v):L2.Binds K (d 17) ["one","other"] []:=X.F_over.binds fun _ _ _ _ _ _ _ us _ hl=>match us,hl with | [_,_],_=>.of_eq rfl
theorem b_duller (X:Tx K mg a d v):L2.Binds K (d 18) ["shade","by"] []:=by
  obtain ⟨b,oc,od,n,sl,e,hb⟩:=X.D_duller
  exact X.F_duller.binds fun _ _ _ _ _ _ _ us hK hl=>match us,hl with | [_,_],_=>PySem.W.binds_K hK e hb rfl rfl rfl
theorem b_lighter (X:Tx K mg a d v):L2.Binds K (d 19) ["shade","by"] []:=by
  obtain ⟨b,oc,od,n,sl,e,hb⟩:=X.D_lighter
  exact X.F_lighter.binds fun _ _ _ _ _ _ _ us hK hl=>match us,hl with | [_,_],_=>PySem.W.binds_K hK e hb rfl rfl rfl
theorem b_opposite (X:Tx K mg a d v):L2.Binds K (d 20) ["shade"] []:=X.F_opposite.binds fun _ _ _ _ _ _ _ us _ hl=>match us,hl with | [_],_=>.of_eq rfl
theorem b_turned (X:Tx K mg a d v):L2.Binds K (d 21) ["shade","by"] []:=by
  obtain ⟨b,oc,od,n,sl,e,hb⟩:=X.D_turned
  exact X.F_turned.binds fun _ _ _ _ _ _ _ us hK hl=>match us,hl with | [_,_],_=>PySem.W.binds_K hK e hb rfl rfl rfl
theorem b_l_asked (X:Tx K mg a d v):L2.Binds K (d 22) ["_law_word","_law_one","_law_amount","_law_way"] []:=X.F_l_asked.binds fun _ _ _ _ _ _ _ us _ hl=>match us,hl with | [_,_,_,_],_=>.of_eq rfl
theorem b_l_pick (X:Tx K mg a d v):L2.Binds K (d 23) ["_law_purse_here","_law_many"] []:=X.F_l_pick.binds fun _ _ _ _ _ _ _ us _ hl=>match us,hl with | [_,_],_=>.of_eq rfl
theorem b_l_low (X:Tx K mg a d v):L2.Binds K (d 24) ["_law_top","_law_bottom"] []:=X.F_l_low.binds fun _ _ _ _ _ _ _ us _ hl=>match us,hl with | [_,_],_=>.of_eq rfl
theorem b_l_share (X:Tx K mg a d v):L2.Binds K (d 25) ["_law_purse_here"] []:=X.F_l_share.binds fun _ _ _ _ _ _ _ us _ hl=>match us,hl with | [_],_=>.of_eq rfl
theorem b_l_by (X:Tx K mg a d v):L2.Binds K (d 26) ["_law_purse_here","_law_word"] []:=X.F_l_by.binds fun _ _ _ _ _ _ _ us _ hl=>match us,hl with | [_,_],_=>.of_eq rfl
theorem b_l_cell (X:Tx K mg a d v):L2.Binds K (d 27) ["_law_script","_law_k"] []:=X.F_l_cell.binds fun _ _ _ _ _ _ _ us _ hl=>match us,hl with | [_,_],_=>.of_eq rfl
theorem b_l_minus (X:Tx K mg a d v):L2.Binds K (d 28) ["_law_a","_law_b"] []:=X.F_l_minus.binds fun _ _ _ _ _ _ _ us _ hl=>match us,hl with | [_,_],_=>.of_eq rfl
theorem b_l_plus (X:Tx K mg a d v):L2.Binds K (d 29) ["_law_a","_law_b"] []:=X.F_l_plus.binds fun _ _ _ _ _ _ _ us _ hl=>match us,hl with | [_,_],_=>.of_eq rfl
theorem b_l_times (X:Tx K mg a d v):L2.Binds K (d 30) ["_law_a","_law_b"] []:=X.F_l_times.binds fun _ _ _ _ _ _ _ us _ hl=>match us,hl with | [_,_],_=>.of_eq rfl
theorem b_l_deed (X:Tx K mg a d v):L2.Binds K (d 31) ["_law_row","_law_word","_law_amount"] []:=X.F_l_deed.binds fun _ _ _ _ _ _ _ us _ hl=>match us,hl with | [_,_,_],_=>.of_eq rfl
theorem b_l_whole (X:Tx K mg a d v):L2.Binds K (d 32) ["_law_thing"] []:=X.F_l_whole.binds fun _ _ _ _ _ _ _ us _ hl=>match us,hl with | [_],_=>.of_eq rfl
theorem b_l_is_fraction (X:Tx K mg a d v):L2.Binds K (d 33) ["_law_thing"] []:=X.F_l_is_fraction.binds fun _ _ _ _ _ _ _ us _ hl=>match us,hl with | [_],_=>.of_eq rfl
theorem b_l_text (X:Tx K mg a d v):L2.Binds K (d 34) ["_law_a"] []:=X.F_l_text.binds fun _ _ _ _ _ _ _ us _ hl=>match us,hl with | [_],_=>.of_eq rfl
theorem b_Shade___eq__ (X:Tx K mg a d v):L2.Binds K (d 35) ["self","other"] []:=X.F_Shade___eq__.binds fun _ _ _ _ _ _ _ us _ hl=>match us,hl with | [_,_],_=>.of_eq rfl
theorem b_figures (X:Tx K mg a d v):L2.Binds K (d 36) ["number"] []:=X.F_figures.binds fun _ _ _ _ _ _ _ us _ hl=>match us,hl with | [_],_=>.of_eq rfl
theorem b_written (X:Tx K mg a d v):L2.Binds K (d 37) ["one"] []:=X.F_written.binds fun _ _ _ _ _ _ _ us _ hl=>match us,hl with | [_],_=>.of_eq rfl
theorem b_Shade___str__ (X:Tx K mg a d v):L2.Binds K (d 38) ["self"] []:=X.F_Shade___str__.binds fun _ _ _ _ _ _ _ us _ hl=>match us,hl with | [_],_=>.of_eq rfl
theorem b_Shade___repr__ (X:Tx K mg a d v):L2.Binds K (d 39) ["self"] []:=X.F_Shade___repr__.binds fun _ _ _ _ _ _ _ us _ hl=>match us,hl with | [_],_=>.of_eq rfl
theorem b_Shade___len__ (X:Tx K mg a d v):L2.Binds K (d 40) ["self"] []:=X.F_Shade___len__.binds fun _ _ _ _ _ _ _ us _ hl=>match us,hl with | [_],_=>.of_eq rfl
theorem b_l_is (X:Tx K mg a d v):L2.Binds K (d 41) ["_law_told","_law_row"] []:=X.F_l_is.binds fun _ _ _ _ _ _ _ us _ hl=>match us,hl with | [_,_],_=>.of_eq rfl
theorem b_l_home (X:Tx K mg a d v):L2.Binds K (d 42) ["_law_one","_law_row","_law_amount"] []:=X.F_l_home.binds fun _ _ _ _ _ _ _ us _ hl=>match us,hl with | [_,_,_],_=>.of_eq rfl
theorem b_l_left_out (X:Tx K mg a d v):L2.Binds K (d 43) ["_law_one","_law_row"] []:=X.F_l_left_out.binds fun _ _ _ _ _ _ _ us _ hl=>match us,hl with | [_,_],_=>.of_eq rfl
theorem b_l_made (X:Tx K mg a d v):L2.Binds K (d 44) ["_law_purse_here","_law_row"] []:=X.F_l_made.binds fun _ _ _ _ _ _ _ us _ hl=>match us,hl with | [_,_],_=>.of_eq rfl
theorem b_l_purse (X:Tx K mg a d v):L2.Binds K (d 45) ["_law_cell_here"] []:=X.F_l_purse.binds fun _ _ _ _ _ _ _ us _ hl=>match us,hl with | [_],_=>.of_eq rfl
theorem b_l_shares (X:Tx K mg a d v):L2.Binds K (d 46) ["_law_purse_here"] []:=X.F_l_shares.binds fun _ _ _ _ _ _ _ us _ hl=>match us,hl with | [_],_=>.of_eq rfl
theorem sh_darker_0_by_shade (X:Tx K mg a d v):ShOk K (d 16) ["shade","by"] 0 ["by","shade"] [.arg 1,.arg 0]:=by
  obtain ⟨b,oc,od,n,sl,e,hb⟩:=X.D_darker
  refine X.F_darker.sh rfl fun _ _ _ _ _ _ _ us ws hK hl hl2=>?_
  match us,hl,ws,hl2 with
  | [],_,[w0,w1],_ =>
    refine ⟨[w1,w0],PySem.W.binds_K hK e hb rfl rfl rfl,fun vs zs r rz=>?_⟩
    cases r
    obtain _ | ⟨r_w0,rz⟩:=rz
    obtain _ | ⟨r_w1,rz⟩:=rz
    cases rz
    exact (.cons r_w1 (.cons r_w0 .nil))
theorem sh_duller_0_by_shade (X:Tx K mg a d v):ShOk K (d 18) ["shade","by"] 0 ["by","shade"] [.arg 1,.arg 0]:=by
  obtain ⟨b,oc,od,n,sl,e,hb⟩:=X.D_duller
  refine X.F_duller.sh rfl fun _ _ _ _ _ _ _ us ws hK hl hl2=>?_
  match us,hl,ws,hl2 with
  | [],_,[w0,w1],_ =>
    refine ⟨[w1,w0],PySem.W.binds_K hK e hb rfl rfl rfl,fun vs zs r rz=>?_⟩
    cases r
    obtain _ | ⟨r_w0,rz⟩:=rz
    obtain _ | ⟨r_w1,rz⟩:=rz
    cases rz
    exact (.cons r_w1 (.cons r_w0 .nil))
theorem sh_lighter_0_by_shade (X:Tx K mg a d v):ShOk K (d 19) ["shade","by"] 0 ["by","shade"] [.arg 1,.arg 0]:=by
  obtain ⟨b,oc,od,n,sl,e,hb⟩:=X.D_lighter
  refine X.F_lighter.sh rfl fun _ _ _ _ _ _ _ us ws hK hl hl2=>?_
  match us,hl,ws,hl2 with
  | [],_,[w0,w1],_ =>
    refine ⟨[w1,w0],PySem.W.binds_K hK e hb rfl rfl rfl,fun vs zs r rz=>?_⟩
    cases r
    obtain _ | ⟨r_w0,rz⟩:=rz
    obtain _ | ⟨r_w1,rz⟩:=rz
    cases rz
    exact (.cons r_w1 (.cons r_w0 .nil))
theorem sh_opposite_0_shade (X:Tx K mg a d v):ShOk K (d 20) ["shade"] 0 ["shade"] [.arg 0]:=by
  refine X.F_opposite.sh rfl fun _ _ _ _ _ _ _ us ws hK hl hl2=>?_
  match us,hl,ws,hl2 with
  | [],_,[w0],_ =>
    refine ⟨[w0],.of_eq rfl,fun vs zs r rz=>?_⟩
    cases r
    obtain _ | ⟨r_w0,rz⟩:=rz
    cases rz
    exact (.cons r_w0 .nil)
theorem sh_turned_0_by_shade (X:Tx K mg a d v):ShOk K (d 21) ["shade","by"] 0 ["by","shade"] [.arg 1,.arg 0]:=by
  obtain ⟨b,oc,od,n,sl,e,hb⟩:=X.D_turned
  refine X.F_turned.sh rfl fun _ _ _ _ _ _ _ us ws hK hl hl2=>?_
  match us,hl,ws,hl2 with
  | [],_,[w0,w1],_ =>
    refine ⟨[w1,w0],PySem.W.binds_K hK e hb rfl rfl rfl,fun vs zs r rz=>?_⟩
    cases r
    obtain _ | ⟨r_w0,rz⟩:=rz
    obtain _ | ⟨r_w1,rz⟩:=rz
    cases rz
    exact (.cons r_w1 (.cons r_w0 .nil))
theorem sh_turned_1_ (X:Tx K mg a d v):ShOk K (d 21) ["shade","by"] 1 [] [.arg 0,.non]:=by
  obtain ⟨b,oc,od,n,sl,e,hb⟩:=X.D_turned
  refine X.F_turned.sh rfl fun _ _ _ _ _ _ _ us ws hK hl hl2=>?_
  match us,hl,ws,hl2 with
  | [u0],_,[],_ =>
    refine ⟨[u0,(.none)],PySem.W.binds_K hK e hb rfl rfl rfl,fun vs zs r rz=>?_⟩
    obtain _ | ⟨r_u0,r⟩:=r
    cases r
    cases rz
    exact (.cons r_u0 (.cons rfl .nil))
theorem sh_darker_1_ (X:Tx K mg a d v):ShOk K (d 16) ["shade","by"] 1 [] [.arg 0,.non]:=by
  obtain ⟨b,oc,od,n,sl,e,hb⟩:=X.D_darker
  refine X.F_darker.sh rfl fun _ _ _ _ _ _ _ us ws hK hl hl2=>?_
  match us,hl,ws,hl2 with
  | [u0],_,[],_ =>
    refine ⟨[u0,(.none)],PySem.W.binds_K hK e hb rfl rfl rfl,fun vs zs r rz=>?_⟩
    obtain _ | ⟨r_u0,r⟩:=r
    cases r
    cases rz
    exact (.cons r_u0 (.cons rfl .nil))
theorem sh_duller_1_ (X:Tx K mg a d v):ShOk K (d 18) ["shade","by"] 1 [] [.arg 0,.non]:=by
  obtain ⟨b,oc,od,n,sl,e,hb⟩:=X.D_duller
  refine X.F_duller.sh rfl fun _ _ _ _ _ _ _ us ws hK hl hl2=>?_
  match us,hl,ws,hl2 with
  | [u0],_,[],_ =>
    refine ⟨[u0,(.none)],PySem.W.binds_K hK e hb rfl rfl rfl,fun vs zs r rz=>?_⟩
    obtain _ | ⟨r_u0,r⟩:=r
    cases r
    cases rz
    exact (.cons r_u0 (.cons rfl .nil))
theorem sh_lighter_0_shade (X:Tx K mg a d v):ShOk K (d 19) ["shade","by"] 0 ["shade"] [.arg 0,.non]:=by
  obtain ⟨b,oc,od,n,sl,e,hb⟩:=X.D_lighter
  refine X.F_lighter.sh rfl fun _ _ _ _ _ _ _ us ws hK hl hl2=>?_
  match us,hl,ws,hl2 with
  | [],_,[w0],_ =>
    refine ⟨[w0,(.none)],PySem.W.binds_K hK e hb rfl rfl rfl,fun vs zs r rz=>?_⟩
    cases r
    obtain _ | ⟨r_w0,rz⟩:=rz
    cases rz
    exact (.cons r_w0 (.cons rfl .nil))
theorem sh_lighter_1_ (X:Tx K mg a d v):ShOk K (d 19) ["shade","by"] 1 [] [.arg 0,.non]:=by
  obtain ⟨b,oc,od,n,sl,e,hb⟩:=X.D_lighter
  refine X.F_lighter.sh rfl fun _ _ _ _ _ _ _ us ws hK hl hl2=>?_
  match us,hl,ws,hl2 with
  | [u0],_,[],_ =>
    refine ⟨[u0,(.none)],PySem.W.binds_K hK e hb rfl rfl rfl,fun vs zs r rz=>?_⟩
    obtain _ | ⟨r_u0,r⟩:=r
    cases r
    cases rz
    exact (.cons r_u0 (.cons rfl .nil))
theorem sh_turned_0_shade (X:Tx K mg a d v):ShOk K (d 21) ["shade","by"] 0 ["shade"] [.arg 0,.non]:=by
  obtain ⟨b,oc,od,n,sl,e,hb⟩:=X.D_turned
  refine X.F_turned.sh rfl fun _ _ _ _ _ _ _ us ws hK hl hl2=>?_
  match us,hl,ws,hl2 with
  | [],_,[w0],_ =>
    refine ⟨[w0,(.none)],PySem.W.binds_K hK e hb rfl rfl rfl,fun vs zs r rz=>?_⟩
    cases r
    obtain _ | ⟨r_w0,rz⟩:=rz
    cases rz
    exact (.cons r_w0 (.cons rfl .nil))
theorem sh_Shade_0_sky_ember_leaf (X:Tx K mg a d v):ShOk K (d 4) ["self","ember","leaf","sky"] 1 ["sky","ember","leaf"] [.arg 0,.arg 2,.arg 3,.arg 1]:=by
  refine X.F_Shade___init__.sh rfl fun _ _ _ _ _ _ _ us ws hK hl hl2=>?_
  match us,hl,ws,hl2 with
  | [u0],_,[w0,w1,w2],_ =>
    refine ⟨[u0,w1,w2,w0],.of_eq rfl,fun vs zs r rz=>?_⟩
    obtain _ | ⟨r_u0,r⟩:=r
    cases r
    obtain _ | ⟨r_w0,rz⟩:=rz
    obtain _ | ⟨r_w1,rz⟩:=rz
    obtain _ | ⟨r_w2,rz⟩:=rz
    cases rz
    exact (.cons r_u0 (.cons r_w1 (.cons r_w2 (.cons r_w0 .nil))))
noncomputable abbrev FO (P:Program) (w:World) (K:PySem.W.Frag) (mg:Str→Option Value) (base:Heap) (a:Nat→Addr) (d:Nat→FuncData) (n i:Nat) (ps:List Str) (x:Str):Prop:=FnOk P w K mg base CX0 n (a i) (d i) ps (lift (Ew K a) (T.S x))
theorem ck (X:Tx K mg a d v):Ck K (Ew K a) T:=by
  refine ⟨rfl,⟨?_, ?_, ?_, ?_⟩, ?_⟩
  · exact ac (by rw [show (Ew K a).cls "Shade"=a 48 from cls_Shade]; exact X.O_Shade) (an)
  · exact ac (by rw [show (Ew K a).cls "Shade"=a 48 from cls_Shade]; exact X.kp_Shade) (an)
  · exact ac (by rw [show (Ew K a).cls "Shade"=a 48 from cls_Shade]; exact X.ko_Shade) (an)
  · exact ac (ac (fun h=>absurd rfl h) (an)) (an)
  · intro c f h
    have key:∀ p∈T.fl,Cls K ((Ew K a).cls p.1)∧NoAttr K ((Ew K a).cls p.1) p.2:=ac (by dsimp only; rw [cls_Shade]; exact ⟨X.O_Shade.cl,X.na_Shade_ember⟩) (ac (by dsimp only; rw [cls_Shade]; exact ⟨X.O_Shade.cl,X.na_Shade_leaf⟩) (ac (by dsimp only; rw [cls_Shade]; exact ⟨X.O_Shade.cl,X.na_Shade_sky⟩) (an)))
    exact key (c,f) h
local macro_rules | `(tactic| walk_at "sl") => `(tactic| (intro xs G Q h; repeat (first | exact (congrArg List.length h.1).trans rfl | (obtain ⟨_, h⟩ := h))))
theorem gf_common (X:Tx K mg a d v)  :Gf P w K mg base (Ew K a) T 0 C_common:=by
  refine ⟨?_, ?_, ?_, ?_, ?_, ?_, ?_, ?_, ?_, ?_, ?_⟩
  · exact an
  · exact an
  · exact an
  · exact an
  · exact an
  · exact an
  · exact an
  · exact an
  · exact an
  · exact an
  · exact an
theorem ok_common (X:Tx K mg a d v):FO P w K mg base a d 2 0 ["one","other"] "common":=by
  unfold FO
  rw [T_common]
  exact fn_ok X.F_common dk_common (ck X) (gf_common X ) cd_common (by walk_at "sl") (w_common hPT)
theorem gf_is_whole (X:Tx K mg a d v)  :Gf P w K mg base (Ew K a) T 0 C_is_whole:=by
  refine ⟨?_, ?_, ?_, ?_, ?_, ?_, ?_, ?_, ?_, ?_, ?_⟩
  · exact an
  · exact an
  · exact an
  · exact an
  · exact an
  · exact ac (⟨X.n_bool,⟨"bool",PyProof.Rows.boot_bool,G_bool⟩,by decide +kernel⟩) (ac (⟨X.n_int,⟨"int",PyProof.Rows.boot_int,G_int⟩,by decide +kernel⟩) (an))
  · exact ac (X.n_isinstance) (an)
  · exact an
  · exact an
  · exact an
  · exact an
theorem ok_is_whole (X:Tx K mg a d v):FO P w K mg base a d 2 1 ["thing"] "is_whole":=by
  unfold FO
  rw [T_is_whole]
  exact fn_ok X.F_is_whole dk_is_whole (ck X) (gf_is_whole X ) cd_is_whole (by walk_at "sl") (w_is_whole hPT)
theorem gf_is_fraction (X:Tx K mg a d v) (o_common:FO P w K mg base a d 2 0 ["one","other"] "common") (o_is_whole:FO P w K mg base a d 2 1 ["thing"] "is_whole"):Gf P w K mg base (Ew K a) T 2 C_is_fraction:=by
  refine ⟨?_, ?_, ?_, ?_, ?_, ?_, ?_, ?_, ?_, ?_, ?_⟩
  · exact ac (⟨_,_,_,⟨o_common.mono (by decide),X.m_common,X.F_common.kp,by decide +kernel⟩,b_common X⟩) (ac (⟨_,_,_,⟨o_is_whole.mono (by decide),X.m_is_whole,X.F_is_whole.kp,by decide +kernel⟩,b_is_whole X⟩) (an))
  · exact an
  · exact an
  · exact an
  · exact an
  · exact ac (⟨X.n_tuple,⟨"tuple",PyProof.Rows.boot_tuple,G_tuple⟩,by decide +kernel⟩) (an)
  · exact ac (X.n_abs) (ac (X.n_isinstance) (ac (X.n_len) (an)))
  · exact an
  · exact an
  · exact an
  · exact an
theorem ok_is_fraction (X:Tx K mg a d v):FO P w K mg base a d 4 2 ["thing"] "is_fraction":=by
  unfold FO
  rw [T_is_fraction]
  exact fn_ok X.F_is_fraction dk_is_fraction (ck X) (gf_is_fraction X (ok_common X) (ok_is_whole X)) cd_is_fraction (by walk_at "sl") (w_is_fraction hPT)
theorem gf_is_share (X:Tx K mg a d v) (o_is_fraction:FO P w K mg base a d 4 2 ["thing"] "is_fraction"):Gf P w K mg base (Ew K a) T 4 C_is_share:=by
  refine ⟨?_, ?_, ?_, ?_, ?_, ?_, ?_, ?_, ?_, ?_, ?_⟩
  · exact ac (⟨_,_,_,⟨o_is_fraction.mono (by decide),X.m_is_fraction,X.F_is_fraction.kp,by decide +kernel⟩,b_is_fraction X⟩) (an)
  · exact an
  · exact an
  · exact an
  · exact an
  · exact an
  · exact an
  · exact an
  · exact an
  · exact an
  · exact an
theorem ok_is_share (X:Tx K mg a d v):FO P w K mg base a d 6 3 ["thing"] "is_share":=by
  unfold FO
  rw [T_is_share]
  exact fn_ok X.F_is_share dk_is_share (ck X) (gf_is_share X (ok_is_fraction X)) cd_is_share (by walk_at "sl") (w_is_share hPT)
theorem gf_Shade___init__ (X:Tx K mg a d v) (o_is_share:FO P w K mg base a d 6 3 ["thing"] "is_share"):Gf P w K mg base (Ew K a) T 6 C_Shade___init__:=by
  refine ⟨?_, ?_, ?_, ?_, ?_, ?_, ?_, ?_, ?_, ?_, ?_⟩
  · exact ac (⟨_,_,_,⟨o_is_share.mono (by decide),X.m_is_share,X.F_is_share.kp,by decide +kernel⟩,b_is_share X⟩) (an)
  · exact an
  · exact an
  · exact an
  · exact an
  · exact an
  · exact ac (X.n_enumerate) (an)
  · exact an
  · exact an
  · exact an
  · exact an
theorem ok_Shade___init__ (X:Tx K mg a d v):FO P w K mg base a d 8 4 ["self","ember","leaf","sky"] "Shade.__init__":=by
  unfold FO
  rw [T_Shade___init__]
  exact fn_ok X.F_Shade___init__ dk_Shade___init__ (ck X) (gf_Shade___init__ X (ok_is_share X)) cd_Shade___init__ (by walk_at "sl") (w_Shade___init__ hPT)
theorem gf_is_shade (X:Tx K mg a d v)  :Gf P w K mg base (Ew K a) T 0 C_is_shade:=by
  refine ⟨?_, ?_, ?_, ?_, ?_, ?_, ?_, ?_, ?_, ?_, ?_⟩
  · exact an
  · exact an
  · exact an
  · exact an
  · exact ac (by rw [G_Shade]; exact gl_cls X.g_Shade cls_Shade) (an)
  · exact an
  · exact ac (X.n_isinstance) (an)
  · exact an
  · exact an
  · exact an
  · exact an
theorem ok_is_shade (X:Tx K mg a d v):FO P w K mg base a d 2 5 ["thing"] "is_shade":=by
  unfold FO
  rw [T_is_shade]
  exact fn_ok X.F_is_shade dk_is_shade (ck X) (gf_is_shade X ) cd_is_shade (by walk_at "sl") (w_is_shade hPT)
theorem gf_need_shade (X:Tx K mg a d v) (o_is_shade:FO P w K mg base a d 2 5 ["thing"] "is_shade"):Gf P w K mg base (Ew K a) T 2 C_need_shade:=by
  refine ⟨?_, ?_, ?_, ?_, ?_, ?_, ?_, ?_, ?_, ?_, ?_⟩
  · exact ac (⟨_,_,_,⟨o_is_shade.mono (by decide),X.m_is_shade,X.F_is_shade.kp,by decide +kernel⟩,b_is_shade X⟩) (an)
  · exact an
  · exact an
  · exact an
  · exact an
  · exact an
  · exact an
  · exact an
  · exact an
  · exact an
  · exact an
theorem ok_need_shade (X:Tx K mg a d v):FO P w K mg base a d 4 6 ["thing"] "need_shade":=by
  unfold FO
  rw [T_need_shade]
  exact fn_ok X.F_need_shade dk_need_shade (ck X) (gf_need_shade X (ok_is_shade X)) cd_need_shade (by walk_at "sl") (w_need_shade hPT)
theorem gf_part_of (X:Tx K mg a d v) (o_is_share:FO P w K mg base a d 6 3 ["thing"] "is_share"):Gf P w K mg base (Ew K a) T 6 C_part_of:=by
  refine ⟨?_, ?_, ?_, ?_, ?_, ?_, ?_, ?_, ?_, ?_, ?_⟩
  · exact ac (⟨_,_,_,⟨o_is_share.mono (by decide),X.m_is_share,X.F_is_share.kp,by decide +kernel⟩,b_is_share X⟩) (an)
  · exact an
  · exact an
  · exact an
  · exact ac (by obtain ⟨b,t0,t1,n,sl,h,l⟩:=X.c_HALF; rw [G_HALF]; exact gl_cast (gl_tup2 rfl h l) (by first | rfl | exact FQ_int.symm)) (an)
  · exact an
  · exact an
  · exact an
  · exact an
  · exact an
  · exact an
theorem ok_part_of (X:Tx K mg a d v):FO P w K mg base a d 8 7 ["by"] "part_of":=by
  unfold FO
  rw [T_part_of]
  exact fn_ok X.F_part_of dk_part_of (ck X) (gf_part_of X (ok_is_share X)) cd_part_of (by walk_at "sl") (w_part_of_07 hPT hL7)
theorem gf_lowest (X:Tx K mg a d v) (o_common:FO P w K mg base a d 2 0 ["one","other"] "common"):Gf P w K mg base (Ew K a) T 2 C_lowest:=by
  refine ⟨?_, ?_, ?_, ?_, ?_, ?_, ?_, ?_, ?_, ?_, ?_⟩
  · exact ac (⟨_,_,_,⟨o_common.mono (by decide),X.m_common,X.F_common.kp,by decide +kernel⟩,b_common X⟩) (an)
  · exact an
  · exact an
  · exact an
  · exact an
  · exact an
  · exact ac (X.n_abs) (an)
  · exact an
  · exact an
  · exact an
  · exact an
theorem ok_lowest (X:Tx K mg a d v):FO P w K mg base a d 4 8 ["top","bottom"] "lowest":=by
  unfold FO
  rw [T_lowest]
  exact fn_ok X.F_lowest dk_lowest (ck X) (gf_lowest X (ok_common X)) cd_lowest (by walk_at "sl") (w_lowest hPT)
theorem gf_need_fractions (X:Tx K mg a d v) (o_is_fraction:FO P w K mg base a d 4 2 ["thing"] "is_fraction"):Gf P w K mg base (Ew K a) T 4 C_need_fractions:=by
  refine ⟨?_, ?_, ?_, ?_, ?_, ?_, ?_, ?_, ?_, ?_, ?_⟩
  · exact ac (⟨_,_,_,⟨o_is_fraction.mono (by decide),X.m_is_fraction,X.F_is_fraction.kp,by decide +kernel⟩,b_is_fraction X⟩) (an)
  · exact an
  · exact an
  · exact an
  · exact an
  · exact an
  · exact ac (X.n_enumerate) (an)
  · exact an
  · exact an
  · exact an
  · exact an
theorem ok_need_fractions (X:Tx K mg a d v):FO P w K mg base a d 6 9 ["things"] "need_fractions":=by
  unfold FO
  rw [T_need_fractions]
  exact fn_ok X.F_need_fractions dk_need_fractions (ck X) (gf_need_fractions X (ok_is_fraction X)) cd_need_fractions (by walk_at "sl") (w_need_fractions hPT)
theorem gf_minus (X:Tx K mg a d v) (o_lowest:FO P w K mg base a d 4 8 ["top","bottom"] "lowest") (o_need_fractions:FO P w K mg base a d 6 9 ["things"] "need_fractions"):Gf P w K mg base (Ew K a) T 6 C_minus:=by
  refine ⟨?_, ?_, ?_, ?_, ?_, ?_, ?_, ?_, ?_, ?_, ?_⟩
  · exact ac (⟨_,_,_,⟨o_lowest.mono (by decide),X.m_lowest,X.F_lowest.kp,by decide +kernel⟩,b_lowest X⟩) (ac (⟨_,_,_,⟨o_need_fractions.mono (by decide),X.m_need_fractions,X.F_need_fractions.kp,by decide +kernel⟩,b_need_fractions X⟩) (an))
  · exact an
  · exact an
  · exact an
  · exact an
  · exact an
  · exact an
  · exact an
  · exact an
  · exact an
  · exact an
theorem ok_minus (X:Tx K mg a d v):FO P w K mg base a d 8 10 ["one","other"] "minus":=by
  unfold FO
  rw [T_minus]
  exact fn_ok X.F_minus dk_minus (ck X) (gf_minus X (ok_lowest X) (ok_need_fractions X)) cd_minus (by walk_at "sl") (w_minus hPT)
theorem gf_plus (X:Tx K mg a d v) (o_lowest:FO P w K mg base a d 4 8 ["top","bottom"] "lowest") (o_need_fractions:FO P w K mg base a d 6 9 ["things"] "need_fractions"):Gf P w K mg base (Ew K a) T 6 C_plus:=by
  refine ⟨?_, ?_, ?_, ?_, ?_, ?_, ?_, ?_, ?_, ?_, ?_⟩
  · exact ac (⟨_,_,_,⟨o_lowest.mono (by decide),X.m_lowest,X.F_lowest.kp,by decide +kernel⟩,b_lowest X⟩) (ac (⟨_,_,_,⟨o_need_fractions.mono (by decide),X.m_need_fractions,X.F_need_fractions.kp,by decide +kernel⟩,b_need_fractions X⟩) (an))
  · exact an
  · exact an
  · exact an
  · exact an
  · exact an
  · exact an
  · exact an
  · exact an
  · exact an
  · exact an
theorem ok_plus (X:Tx K mg a d v):FO P w K mg base a d 8 11 ["one","other"] "plus":=by
  unfold FO
  rw [T_plus]
  exact fn_ok X.F_plus dk_plus (ck X) (gf_plus X (ok_lowest X) (ok_need_fractions X)) cd_plus (by walk_at "sl") (w_plus hPT)
theorem gf_shade_of (X:Tx K mg a d v) (o_Shade___init__:FO P w K mg base a d 8 4 ["self","ember","leaf","sky"] "Shade.__init__"):Gf P w K mg base (Ew K a) T 8 C_shade_of:=by
  refine ⟨?_, ?_, ?_, ?_, ?_, ?_, ?_, ?_, ?_, ?_, ?_⟩
  · exact an
  · exact ac (⟨"Shade","Shade.__init__",_,_,_,⟨by rw [show (Ew K a).cls "Shade"=a 48 from cls_Shade]; exact X.M_Shade,o_Shade___init__.mono (by decide),by rw [show (Ew K a).cls "Shade"=a 48 from cls_Shade]; exact X.g_Shade,mk_Shade hPT,by decide +kernel⟩,b_Shade___init__ X⟩) (an)
  · exact an
  · exact an
  · exact ac (by rw [G_Shade]; exact gl_cls X.g_Shade cls_Shade) (an)
  · exact an
  · exact an
  · exact an
  · exact an
  · exact an
  · exact an
theorem ok_shade_of (X:Tx K mg a d v):FO P w K mg base a d 10 12 ["shares"] "shade_of":=by
  unfold FO
  rw [T_shade_of]
  exact fn_ok X.F_shade_of dk_shade_of (ck X) (gf_shade_of X (ok_Shade___init__ X)) cd_shade_of (by walk_at "sl") (w_shade_of hPT)
theorem gf_shares_of (X:Tx K mg a d v) (o_need_shade:FO P w K mg base a d 4 6 ["thing"] "need_shade"):Gf P w K mg base (Ew K a) T 4 C_shares_of:=by
  refine ⟨?_, ?_, ?_, ?_, ?_, ?_, ?_, ?_, ?_, ?_, ?_⟩
  · exact ac (⟨_,_,_,⟨o_need_shade.mono (by decide),X.m_need_shade,X.F_need_shade.kp,by decide +kernel⟩,b_need_shade X⟩) (an)
  · exact an
  · exact an
  · exact an
  · exact an
  · exact an
  · exact an
  · exact an
  · exact an
  · exact an
  · exact an
theorem ok_shares_of (X:Tx K mg a d v):FO P w K mg base a d 6 13 ["shade"] "shares_of":=by
  unfold FO
  rw [T_shares_of]
  exact fn_ok X.F_shares_of dk_shares_of (ck X) (gf_shares_of X (ok_need_shade X)) cd_shares_of (by walk_at "sl") (w_shares_of hPT)
theorem gf_times (X:Tx K mg a d v) (o_lowest:FO P w K mg base a d 4 8 ["top","bottom"] "lowest") (o_need_fractions:FO P w K mg base a d 6 9 ["things"] "need_fractions"):Gf P w K mg base (Ew K a) T 6 C_times:=by
  refine ⟨?_, ?_, ?_, ?_, ?_, ?_, ?_, ?_, ?_, ?_, ?_⟩
  · exact ac (⟨_,_,_,⟨o_lowest.mono (by decide),X.m_lowest,X.F_lowest.kp,by decide +kernel⟩,b_lowest X⟩) (ac (⟨_,_,_,⟨o_need_fractions.mono (by decide),X.m_need_fractions,X.F_need_fractions.kp,by decide +kernel⟩,b_need_fractions X⟩) (an))
  · exact an
  · exact an
  · exact an
  · exact an
  · exact an
  · exact an
  · exact an
  · exact an
  · exact an
  · exact an
theorem ok_times (X:Tx K mg a d v):FO P w K mg base a d 8 14 ["one","other"] "times":=by
  unfold FO
  rw [T_times]
  exact fn_ok X.F_times dk_times (ck X) (gf_times X (ok_lowest X) (ok_need_fractions X)) cd_times (by walk_at "sl") (w_times hPT)
theorem gf_toward (X:Tx K mg a d v) (o_minus:FO P w K mg base a d 8 10 ["one","other"] "minus") (o_plus:FO P w K mg base a d 8 11 ["one","other"] "plus") (o_shade_of:FO P w K mg base a d 10 12 ["shares"] "shade_of") (o_shares_of:FO P w K mg base a d 6 13 ["shade"] "shares_of") (o_times:FO P w K mg base a d 8 14 ["one","other"] "times"):Gf P w K mg base (Ew K a) T 10 C_toward:=by
  refine ⟨?_, ?_, ?_, ?_, ?_, ?_, ?_, ?_, ?_, ?_, ?_⟩
  · exact ac (⟨_,_,_,⟨o_minus.mono (by decide),X.m_minus,X.F_minus.kp,by decide +kernel⟩,b_minus X⟩) (ac (⟨_,_,_,⟨o_plus.mono (by decide),X.m_plus,X.F_plus.kp,by decide +kernel⟩,b_plus X⟩) (ac (⟨_,_,_,⟨o_shade_of.mono (by decide),X.m_shade_of,X.F_shade_of.kp,by decide +kernel⟩,b_shade_of X⟩) (ac (⟨_,_,_,⟨o_shares_of.mono (by decide),X.m_shares_of,X.F_shares_of.kp,by decide +kernel⟩,b_shares_of X⟩) (ac (⟨_,_,_,⟨o_times.mono (by decide),X.m_times,X.F_times.kp,by decide +kernel⟩,b_times X⟩) (an)))))
  · exact an
  · exact an
  · exact an
  · exact an
  · exact an
  · exact an
  · exact an
  · exact an
  · exact an
  · exact an
theorem ok_toward (X:Tx K mg a d v):FO P w K mg base a d 12 15 ["shade","goal","part"] "toward":=by
  unfold FO
  rw [T_toward]
  exact fn_ok X.F_toward dk_toward (ck X) (gf_toward X (ok_minus X) (ok_plus X) (ok_shade_of X) (ok_shares_of X) (ok_times X)) cd_toward (by walk_at "sl") (w_toward_07 hPT)
theorem gf_darker (X:Tx K mg a d v) (o_need_shade:FO P w K mg base a d 4 6 ["thing"] "need_shade") (o_part_of:FO P w K mg base a d 8 7 ["by"] "part_of") (o_toward:FO P w K mg base a d 12 15 ["shade","goal","part"] "toward"):Gf P w K mg base (Ew K a) T 12 C_darker:=by
  refine ⟨?_, ?_, ?_, ?_, ?_, ?_, ?_, ?_, ?_, ?_, ?_⟩
  · exact ac (⟨_,_,_,⟨o_need_shade.mono (by decide),X.m_need_shade,X.F_need_shade.kp,by decide +kernel⟩,b_need_shade X⟩) (ac (⟨_,_,_,⟨o_part_of.mono (by decide),X.m_part_of,X.F_part_of.kp,by decide +kernel⟩,b_part_of X⟩) (ac (⟨_,_,_,⟨o_toward.mono (by decide),X.m_toward,X.F_toward.kp,by decide +kernel⟩,b_toward X⟩) (an)))
  · exact an
  · exact an
  · exact an
  · exact ac (by obtain ⟨b,t0,t1,n,sl,h,l⟩:=X.c_ZERO; rw [G_ZERO]; exact gl_cast (gl_tup2 rfl h l) (by first | rfl | exact FQ_int.symm)) (an)
  · exact an
  · exact an
  · exact an
  · exact an
  · exact an
  · exact an
theorem ok_darker (X:Tx K mg a d v):FO P w K mg base a d 14 16 ["shade","by"] "darker":=by
  unfold FO
  rw [T_darker]
  exact fn_ok X.F_darker dk_darker (ck X) (gf_darker X (ok_need_shade X) (ok_part_of X) (ok_toward X)) cd_darker (by walk_at "sl") (w_darker_07 hPT hL7)
theorem gf_over (X:Tx K mg a d v) (o_lowest:FO P w K mg base a d 4 8 ["top","bottom"] "lowest") (o_need_fractions:FO P w K mg base a d 6 9 ["things"] "need_fractions"):Gf P w K mg base (Ew K a) T 6 C_over:=by
  refine ⟨?_, ?_, ?_, ?_, ?_, ?_, ?_, ?_, ?_, ?_, ?_⟩
  · exact ac (⟨_,_,_,⟨o_lowest.mono (by decide),X.m_lowest,X.F_lowest.kp,by decide +kernel⟩,b_lowest X⟩) (ac (⟨_,_,_,⟨o_need_fractions.mono (by decide),X.m_need_fractions,X.F_need_fractions.kp,by decide +kernel⟩,b_need_fractions X⟩) (an))
  · exact an
  · exact an
  · exact an
  · exact an
  · exact an
  · exact an
  · exact an
  · exact an
  · exact an
  · exact an
theorem ok_over (X:Tx K mg a d v):FO P w K mg base a d 8 17 ["one","other"] "over":=by
  unfold FO
  rw [T_over]
  exact fn_ok X.F_over dk_over (ck X) (gf_over X (ok_lowest X) (ok_need_fractions X)) cd_over (by walk_at "sl") (w_over hPT)
theorem gf_duller (X:Tx K mg a d v) (o_need_shade:FO P w K mg base a d 4 6 ["thing"] "need_shade") (o_over:FO P w K mg base a d 8 17 ["one","other"] "over") (o_part_of:FO P w K mg base a d 8 7 ["by"] "part_of") (o_plus:FO P w K mg base a d 8 11 ["one","other"] "plus") (o_toward:FO P w K mg base a d 12 15 ["shade","goal","part"] "toward"):Gf P w K mg base (Ew K a) T 12 C_duller:=by
  refine ⟨?_, ?_, ?_, ?_, ?_, ?_, ?_, ?_, ?_, ?_, ?_⟩
  · exact ac (⟨_,_,_,⟨o_need_shade.mono (by decide),X.m_need_shade,X.F_need_shade.kp,by decide +kernel⟩,b_need_shade X⟩) (ac (⟨_,_,_,⟨o_over.mono (by decide),X.m_over,X.F_over.kp,by decide +kernel⟩,b_over X⟩) (ac (⟨_,_,_,⟨o_part_of.mono (by decide),X.m_part_of,X.F_part_of.kp,by decide +kernel⟩,b_part_of X⟩) (ac (⟨_,_,_,⟨o_plus.mono (by decide),X.m_plus,X.F_plus.kp,by decide +kernel⟩,b_plus X⟩) (ac (⟨_,_,_,⟨o_toward.mono (by decide),X.m_toward,X.F_toward.kp,by decide +kernel⟩,b_toward X⟩) (an)))))
  · exact an
  · exact an
  · exact an
  · exact an
  · exact an
  · exact an
  · exact an
  · exact an
  · exact an
  · exact an
theorem ok_duller (X:Tx K mg a d v):FO P w K mg base a d 14 18 ["shade","by"] "duller":=by
  unfold FO
  rw [T_duller]
  exact fn_ok X.F_duller dk_duller (ck X) (gf_duller X (ok_need_shade X) (ok_over X) (ok_part_of X) (ok_plus X) (ok_toward X)) cd_duller (by walk_at "sl") (w_duller hPT hL7)
theorem gf_lighter (X:Tx K mg a d v) (o_need_shade:FO P w K mg base a d 4 6 ["thing"] "need_shade") (o_part_of:FO P w K mg base a d 8 7 ["by"] "part_of") (o_toward:FO P w K mg base a d 12 15 ["shade","goal","part"] "toward"):Gf P w K mg base (Ew K a) T 12 C_lighter:=by
  refine ⟨?_, ?_, ?_, ?_, ?_, ?_, ?_, ?_, ?_, ?_, ?_⟩
  · exact ac (⟨_,_,_,⟨o_need_shade.mono (by decide),X.m_need_shade,X.F_need_shade.kp,by decide +kernel⟩,b_need_shade X⟩) (ac (⟨_,_,_,⟨o_part_of.mono (by decide),X.m_part_of,X.F_part_of.kp,by decide +kernel⟩,b_part_of X⟩) (ac (⟨_,_,_,⟨o_toward.mono (by decide),X.m_toward,X.F_toward.kp,by decide +kernel⟩,b_toward X⟩) (an)))
  · exact an
  · exact an
  · exact an
  · exact ac (by obtain ⟨b,t0,t1,n,sl,h,l⟩:=X.c_ONE; rw [G_ONE]; exact gl_cast (gl_tup2 rfl h l) (by first | rfl | exact FQ_int.symm)) (an)
  · exact an
  · exact an
  · exact an
  · exact an
  · exact an
  · exact an
theorem ok_lighter (X:Tx K mg a d v):FO P w K mg base a d 14 19 ["shade","by"] "lighter":=by
  unfold FO
  rw [T_lighter]
  exact fn_ok X.F_lighter dk_lighter (ck X) (gf_lighter X (ok_need_shade X) (ok_part_of X) (ok_toward X)) cd_lighter (by walk_at "sl") (w_lighter_07 hPT hL7)
theorem gf_opposite (X:Tx K mg a d v) (o_minus:FO P w K mg base a d 8 10 ["one","other"] "minus") (o_shade_of:FO P w K mg base a d 10 12 ["shares"] "shade_of") (o_shares_of:FO P w K mg base a d 6 13 ["shade"] "shares_of"):Gf P w K mg base (Ew K a) T 10 C_opposite:=by
  refine ⟨?_, ?_, ?_, ?_, ?_, ?_, ?_, ?_, ?_, ?_, ?_⟩
  · exact ac (⟨_,_,_,⟨o_minus.mono (by decide),X.m_minus,X.F_minus.kp,by decide +kernel⟩,b_minus X⟩) (ac (⟨_,_,_,⟨o_shade_of.mono (by decide),X.m_shade_of,X.F_shade_of.kp,by decide +kernel⟩,b_shade_of X⟩) (ac (⟨_,_,_,⟨o_shares_of.mono (by decide),X.m_shares_of,X.F_shares_of.kp,by decide +kernel⟩,b_shares_of X⟩) (an)))
  · exact an
  · exact an
  · exact an
  · exact ac (by obtain ⟨b,t0,t1,n,sl,h,l⟩:=X.c_ONE; rw [G_ONE]; exact gl_cast (gl_tup2 rfl h l) (by first | rfl | exact FQ_int.symm)) (an)
  · exact an
  · exact an
  · exact an
  · exact an
  · exact an
  · exact an
theorem ok_opposite (X:Tx K mg a d v):FO P w K mg base a d 12 20 ["shade"] "opposite":=by
  unfold FO
  rw [T_opposite]
  exact fn_ok X.F_opposite dk_opposite (ck X) (gf_opposite X (ok_minus X) (ok_shade_of X) (ok_shares_of X)) cd_opposite (by walk_at "sl") (w_opposite_07 hPT)
theorem gf_turned (X:Tx K mg a d v) (o_is_whole:FO P w K mg base a d 2 1 ["thing"] "is_whole") (o_need_shade:FO P w K mg base a d 4 6 ["thing"] "need_shade") (o_shade_of:FO P w K mg base a d 10 12 ["shares"] "shade_of") (o_shares_of:FO P w K mg base a d 6 13 ["shade"] "shares_of"):Gf P w K mg base (Ew K a) T 10 C_turned:=by
  refine ⟨?_, ?_, ?_, ?_, ?_, ?_, ?_, ?_, ?_, ?_, ?_⟩
  · exact ac (⟨_,_,_,⟨o_is_whole.mono (by decide),X.m_is_whole,X.F_is_whole.kp,by decide +kernel⟩,b_is_whole X⟩) (ac (⟨_,_,_,⟨o_need_shade.mono (by decide),X.m_need_shade,X.F_need_shade.kp,by decide +kernel⟩,b_need_shade X⟩) (ac (⟨_,_,_,⟨o_shade_of.mono (by decide),X.m_shade_of,X.F_shade_of.kp,by decide +kernel⟩,b_shade_of X⟩) (ac (⟨_,_,_,⟨o_shares_of.mono (by decide),X.m_shares_of,X.F_shares_of.kp,by decide +kernel⟩,b_shares_of X⟩) (an))))
  · exact an
  · exact an
  · exact an
  · exact an
  · exact an
  · exact ac (X.n_range) (an)
  · exact an
  · exact an
  · exact an
  · exact an
theorem ok_turned (X:Tx K mg a d v):FO P w K mg base a d 12 21 ["shade","by"] "turned":=by
  unfold FO
  rw [T_turned]
  exact fn_ok X.F_turned dk_turned (ck X) (gf_turned X (ok_is_whole X) (ok_need_shade X) (ok_shade_of X) (ok_shares_of X)) cd_turned (by walk_at "sl") (w_turned_07 hPT)
theorem gf_l_asked (X:Tx K mg a d v) (o_darker:FO P w K mg base a d 14 16 ["shade","by"] "darker") (o_duller:FO P w K mg base a d 14 18 ["shade","by"] "duller") (o_lighter:FO P w K mg base a d 14 19 ["shade","by"] "lighter") (o_opposite:FO P w K mg base a d 12 20 ["shade"] "opposite") (o_turned:FO P w K mg base a d 12 21 ["shade","by"] "turned"):Gf P w K mg base (Ew K a) T 14 C_l_asked:=by
  refine ⟨?_, ?_, ?_, ?_, ?_, ?_, ?_, ?_, ?_, ?_, ?_⟩
  · exact ac (⟨_,_,_,⟨o_darker.mono (by decide),X.m_darker,X.F_darker.kp,by decide +kernel⟩,b_darker X⟩) (ac (⟨_,_,_,⟨o_duller.mono (by decide),X.m_duller,X.F_duller.kp,by decide +kernel⟩,b_duller X⟩) (ac (⟨_,_,_,⟨o_lighter.mono (by decide),X.m_lighter,X.F_lighter.kp,by decide +kernel⟩,b_lighter X⟩) (ac (⟨_,_,_,⟨o_opposite.mono (by decide),X.m_opposite,X.F_opposite.kp,by decide +kernel⟩,b_opposite X⟩) (ac (⟨_,_,_,⟨o_turned.mono (by decide),X.m_turned,X.F_turned.kp,by decide +kernel⟩,b_turned X⟩) (an)))))
  · exact an
  · exact ac (⟨_,_,_,⟨o_darker.mono (by decide),X.m_darker,X.F_darker.kp,by decide +kernel⟩,sh_darker_0_by_shade X⟩) (ac (⟨_,_,_,⟨o_duller.mono (by decide),X.m_duller,X.F_duller.kp,by decide +kernel⟩,sh_duller_0_by_shade X⟩) (ac (⟨_,_,_,⟨o_lighter.mono (by decide),X.m_lighter,X.F_lighter.kp,by decide +kernel⟩,sh_lighter_0_by_shade X⟩) (ac (⟨_,_,_,⟨o_opposite.mono (by decide),X.m_opposite,X.F_opposite.kp,by decide +kernel⟩,sh_opposite_0_shade X⟩) (ac (⟨_,_,_,⟨o_turned.mono (by decide),X.m_turned,X.F_turned.kp,by decide +kernel⟩,sh_turned_0_by_shade X⟩) (an)))))
  · exact an
  · exact an
  · exact an
  · exact an
  · exact an
  · exact an
  · exact an
  · exact an
theorem ok_l_asked (X:Tx K mg a d v):FO P w K mg base a d 16 22 ["_law_word","_law_one","_law_amount","_law_way"] "_law_asked":=by
  unfold FO
  rw [T_l_asked]
  exact fn_ok X.F_l_asked dk_l_asked (ck X) (gf_l_asked X (ok_darker X) (ok_duller X) (ok_lighter X) (ok_opposite X) (ok_turned X)) cd_l_asked (by walk_at "sl") (w_l_asked_07 hL7)
theorem gf_l_pick (X:Tx K mg a d v)  :Gf P w K mg base (Ew K a) T 0 C_l_pick:=by
  refine ⟨?_, ?_, ?_, ?_, ?_, ?_, ?_, ?_, ?_, ?_, ?_⟩
  · exact an
  · exact an
  · exact an
  · exact an
  · exact an
  · exact an
  · exact an
  · exact an
  · exact an
  · exact an
  · exact an
theorem ok_l_pick (X:Tx K mg a d v):FO P w K mg base a d 2 23 ["_law_purse_here","_law_many"] "_law_pick":=by
  unfold FO
  rw [T_l_pick]
  exact fn_ok X.F_l_pick dk_l_pick (ck X) (gf_l_pick X ) cd_l_pick (by walk_at "sl") (w_l_pick)
theorem gf_l_low (X:Tx K mg a d v)  :Gf P w K mg base (Ew K a) T 0 C_l_low:=by
  refine ⟨?_, ?_, ?_, ?_, ?_, ?_, ?_, ?_, ?_, ?_, ?_⟩
  · exact an
  · exact an
  · exact an
  · exact an
  · exact an
  · exact an
  · exact ac (X.n_abs) (an)
  · exact an
  · exact an
  · exact an
  · exact an
theorem ok_l_low (X:Tx K mg a d v):FO P w K mg base a d 2 24 ["_law_top","_law_bottom"] "_law_low":=by
  unfold FO
  rw [T_l_low]
  exact fn_ok X.F_l_low dk_l_low (ck X) (gf_l_low X ) cd_l_low (by walk_at "sl") (w_l_low)
theorem gf_l_share (X:Tx K mg a d v) (o_l_low:FO P w K mg base a d 2 24 ["_law_top","_law_bottom"] "_law_low") (o_l_pick:FO P w K mg base a d 2 23 ["_law_purse_here","_law_many"] "_law_pick"):Gf P w K mg base (Ew K a) T 2 C_l_share:=by
  refine ⟨?_, ?_, ?_, ?_, ?_, ?_, ?_, ?_, ?_, ?_, ?_⟩
  · exact ac (⟨_,_,_,⟨o_l_low.mono (by decide),X.m_l_low,X.F_l_low.kp,by decide +kernel⟩,b_l_low X⟩) (ac (⟨_,_,_,⟨o_l_pick.mono (by decide),X.m_l_pick,X.F_l_pick.kp,by decide +kernel⟩,b_l_pick X⟩) (an))
  · exact an
  · exact an
  · exact an
  · exact an
  · exact an
  · exact an
  · exact an
  · exact an
  · exact an
  · exact an
theorem ok_l_share (X:Tx K mg a d v):FO P w K mg base a d 4 25 ["_law_purse_here"] "_law_share":=by
  unfold FO
  rw [T_l_share]
  exact fn_ok X.F_l_share dk_l_share (ck X) (gf_l_share X (ok_l_low X) (ok_l_pick X)) cd_l_share (by walk_at "sl") (w_l_share hLT)
theorem gf_l_by (X:Tx K mg a d v) (o_l_pick:FO P w K mg base a d 2 23 ["_law_purse_here","_law_many"] "_law_pick") (o_l_share:FO P w K mg base a d 4 25 ["_law_purse_here"] "_law_share"):Gf P w K mg base (Ew K a) T 4 C_l_by:=by
  refine ⟨?_, ?_, ?_, ?_, ?_, ?_, ?_, ?_, ?_, ?_, ?_⟩
  · exact ac (⟨_,_,_,⟨o_l_pick.mono (by decide),X.m_l_pick,X.F_l_pick.kp,by decide +kernel⟩,b_l_pick X⟩) (ac (⟨_,_,_,⟨o_l_share.mono (by decide),X.m_l_share,X.F_l_share.kp,by decide +kernel⟩,b_l_share X⟩) (an))
  · exact an
  · exact an
  · exact an
  · exact an
  · exact an
  · exact an
  · exact an
  · exact an
  · exact an
  · exact an
theorem ok_l_by (X:Tx K mg a d v):FO P w K mg base a d 6 26 ["_law_purse_here","_law_word"] "_law_by":=by
  unfold FO
  rw [T_l_by]
  exact fn_ok X.F_l_by dk_l_by (ck X) (gf_l_by X (ok_l_pick X) (ok_l_share X)) cd_l_by (by walk_at "sl") (w_l_by_07 hLT)
theorem gf_l_cell (X:Tx K mg a d v)  :Gf P w K mg base (Ew K a) T 0 C_l_cell:=by
  refine ⟨?_, ?_, ?_, ?_, ?_, ?_, ?_, ?_, ?_, ?_, ?_⟩
  · exact an
  · exact an
  · exact an
  · exact an
  · exact an
  · exact an
  · exact ac (X.n_len) (an)
  · exact an
  · exact an
  · exact an
  · exact an
theorem ok_l_cell (X:Tx K mg a d v):FO P w K mg base a d 2 27 ["_law_script","_law_k"] "_law_cell":=by
  unfold FO
  rw [T_l_cell]
  exact fn_ok X.F_l_cell dk_l_cell (ck X) (gf_l_cell X ) cd_l_cell (by walk_at "sl") (w_l_cell)
theorem gf_l_minus (X:Tx K mg a d v) (o_l_low:FO P w K mg base a d 2 24 ["_law_top","_law_bottom"] "_law_low"):Gf P w K mg base (Ew K a) T 2 C_l_minus:=by
  refine ⟨?_, ?_, ?_, ?_, ?_, ?_, ?_, ?_, ?_, ?_, ?_⟩
  · exact ac (⟨_,_,_,⟨o_l_low.mono (by decide),X.m_l_low,X.F_l_low.kp,by decide +kernel⟩,b_l_low X⟩) (an)
  · exact an
  · exact an
  · exact an
  · exact an
  · exact an
  · exact an
  · exact an
  · exact an
  · exact an
  · exact an
theorem ok_l_minus (X:Tx K mg a d v):FO P w K mg base a d 4 28 ["_law_a","_law_b"] "_law_minus":=by
  unfold FO
  rw [T_l_minus]
  exact fn_ok X.F_l_minus dk_l_minus (ck X) (gf_l_minus X (ok_l_low X)) cd_l_minus (by walk_at "sl") (w_l_minus hLT)
theorem gf_l_plus (X:Tx K mg a d v) (o_l_low:FO P w K mg base a d 2 24 ["_law_top","_law_bottom"] "_law_low"):Gf P w K mg base (Ew K a) T 2 C_l_plus:=by
  refine ⟨?_, ?_, ?_, ?_, ?_, ?_, ?_, ?_, ?_, ?_, ?_⟩
  · exact ac (⟨_,_,_,⟨o_l_low.mono (by decide),X.m_l_low,X.F_l_low.kp,by decide +kernel⟩,b_l_low X⟩) (an)
  · exact an
  · exact an
  · exact an
  · exact an
  · exact an
  · exact an
  · exact an
  · exact an
  · exact an
  · exact an
theorem ok_l_plus (X:Tx K mg a d v):FO P w K mg base a d 4 29 ["_law_a","_law_b"] "_law_plus":=by
  unfold FO
  rw [T_l_plus]
  exact fn_ok X.F_l_plus dk_l_plus (ck X) (gf_l_plus X (ok_l_low X)) cd_l_plus (by walk_at "sl") (w_l_plus hLT)
theorem gf_l_times (X:Tx K mg a d v) (o_l_low:FO P w K mg base a d 2 24 ["_law_top","_law_bottom"] "_law_low"):Gf P w K mg base (Ew K a) T 2 C_l_times:=by
  refine ⟨?_, ?_, ?_, ?_, ?_, ?_, ?_, ?_, ?_, ?_, ?_⟩
  · exact ac (⟨_,_,_,⟨o_l_low.mono (by decide),X.m_l_low,X.F_l_low.kp,by decide +kernel⟩,b_l_low X⟩) (an)
  · exact an
  · exact an
  · exact an
  · exact an
  · exact an
  · exact an
  · exact an
  · exact an
  · exact an
  · exact an
theorem ok_l_times (X:Tx K mg a d v):FO P w K mg base a d 4 30 ["_law_a","_law_b"] "_law_times":=by
  unfold FO
  rw [T_l_times]
  exact fn_ok X.F_l_times dk_l_times (ck X) (gf_l_times X (ok_l_low X)) cd_l_times (by walk_at "sl") (w_l_times hLT)
theorem gf_l_deed (X:Tx K mg a d v) (o_l_minus:FO P w K mg base a d 4 28 ["_law_a","_law_b"] "_law_minus") (o_l_plus:FO P w K mg base a d 4 29 ["_law_a","_law_b"] "_law_plus") (o_l_times:FO P w K mg base a d 4 30 ["_law_a","_law_b"] "_law_times"):Gf P w K mg base (Ew K a) T 4 C_l_deed:=by
  refine ⟨?_, ?_, ?_, ?_, ?_, ?_, ?_, ?_, ?_, ?_, ?_⟩
  · exact ac (⟨_,_,_,⟨o_l_minus.mono (by decide),X.m_l_minus,X.F_l_minus.kp,by decide +kernel⟩,b_l_minus X⟩) (ac (⟨_,_,_,⟨o_l_plus.mono (by decide),X.m_l_plus,X.F_l_plus.kp,by decide +kernel⟩,b_l_plus X⟩) (ac (⟨_,_,_,⟨o_l_times.mono (by decide),X.m_l_times,X.F_l_times.kp,by decide +kernel⟩,b_l_times X⟩) (an)))
  · exact an
  · exact an
  · exact an
  · exact an
  · exact ac (⟨X.n_int,⟨"int",PyProof.Rows.boot_int,G_int⟩,by decide +kernel⟩) (ac (⟨X.n_tuple,⟨"tuple",PyProof.Rows.boot_tuple,G_tuple⟩,by decide +kernel⟩) (an))
  · exact ac (X.n_int) (ac (X.n_range) (ac (X.n_tuple) (an)))
  · exact an
  · exact an
  · exact an
  · exact an
theorem ok_l_deed (X:Tx K mg a d v):FO P w K mg base a d 6 31 ["_law_row","_law_word","_law_amount"] "_law_deed":=by
  unfold FO
  rw [T_l_deed]
  exact fn_ok X.F_l_deed dk_l_deed (ck X) (gf_l_deed X (ok_l_minus X) (ok_l_plus X) (ok_l_times X)) cd_l_deed (by walk_at "sl") (w_l_deed_07 hLT)
theorem gf_l_whole (X:Tx K mg a d v)  :Gf P w K mg base (Ew K a) T 0 C_l_whole:=by
  refine ⟨?_, ?_, ?_, ?_, ?_, ?_, ?_, ?_, ?_, ?_, ?_⟩
  · exact an
  · exact an
  · exact an
  · exact an
  · exact an
  · exact ac (⟨X.n_bool,⟨"bool",PyProof.Rows.boot_bool,G_bool⟩,by decide +kernel⟩) (ac (⟨X.n_int,⟨"int",PyProof.Rows.boot_int,G_int⟩,by decide +kernel⟩) (an))
  · exact ac (X.n_isinstance) (an)
  · exact an
  · exact an
  · exact an
  · exact an
theorem ok_l_whole (X:Tx K mg a d v):FO P w K mg base a d 2 32 ["_law_thing"] "_law_whole":=by
  unfold FO
  rw [T_l_whole]
  exact fn_ok X.F_l_whole dk_l_whole (ck X) (gf_l_whole X ) cd_l_whole (by walk_at "sl") (w_l_whole hPT)
theorem gf_l_is_fraction (X:Tx K mg a d v) (o_l_low:FO P w K mg base a d 2 24 ["_law_top","_law_bottom"] "_law_low") (o_l_whole:FO P w K mg base a d 2 32 ["_law_thing"] "_law_whole"):Gf P w K mg base (Ew K a) T 2 C_l_is_fraction:=by
  refine ⟨?_, ?_, ?_, ?_, ?_, ?_, ?_, ?_, ?_, ?_, ?_⟩
  · exact ac (⟨_,_,_,⟨o_l_low.mono (by decide),X.m_l_low,X.F_l_low.kp,by decide +kernel⟩,b_l_low X⟩) (ac (⟨_,_,_,⟨o_l_whole.mono (by decide),X.m_l_whole,X.F_l_whole.kp,by decide +kernel⟩,b_l_whole X⟩) (an))
  · exact an
  · exact an
  · exact an
  · exact an
  · exact ac (⟨X.n_tuple,⟨"tuple",PyProof.Rows.boot_tuple,G_tuple⟩,by decide +kernel⟩) (an)
  · exact ac (X.n_isinstance) (ac (X.n_len) (an))
  · exact an
  · exact an
  · exact an
  · exact an
theorem ok_l_is_fraction (X:Tx K mg a d v):FO P w K mg base a d 4 33 ["_law_thing"] "_law_is_fraction":=by
  unfold FO
  rw [T_l_is_fraction]
  exact fn_ok X.F_l_is_fraction dk_l_is_fraction (ck X) (gf_l_is_fraction X (ok_l_low X) (ok_l_whole X)) cd_l_is_fraction (by walk_at "sl") (w_l_is_fraction hPT hLT)
theorem gf_l_text (X:Tx K mg a d v)  :Gf P w K mg base (Ew K a) T 0 C_l_text:=by
  refine ⟨?_, ?_, ?_, ?_, ?_, ?_, ?_, ?_, ?_, ?_, ?_⟩
  · exact an
  · exact an
  · exact an
  · exact an
  · exact an
  · exact ac (⟨X.n_int,⟨"int",PyProof.Rows.boot_int,G_int⟩,by decide +kernel⟩) (ac (⟨X.n_str,⟨"str",PyProof.Rows.boot_str,G_str⟩,by decide +kernel⟩) (an))
  · exact ac (X.n_int) (ac (X.n_str) (an))
  · exact an
  · exact an
  · exact an
  · exact an
theorem ok_l_text (X:Tx K mg a d v):FO P w K mg base a d 2 34 ["_law_a"] "_law_text":=by
  unfold FO
  rw [T_l_text]
  exact fn_ok X.F_l_text dk_l_text (ck X) (gf_l_text X ) cd_l_text (by walk_at "sl") (w_l_text)
theorem gf_Shade___eq__ (X:Tx K mg a d v) (o_shares_of:FO P w K mg base a d 6 13 ["shade"] "shares_of"):Gf P w K mg base (Ew K a) T 6 C_Shade___eq__:=by
  refine ⟨?_, ?_, ?_, ?_, ?_, ?_, ?_, ?_, ?_, ?_, ?_⟩
  · exact ac (⟨_,_,_,⟨o_shares_of.mono (by decide),X.m_shares_of,X.F_shares_of.kp,by decide +kernel⟩,b_shares_of X⟩) (an)
  · exact an
  · exact an
  · exact an
  · exact ac (by rw [G_Shade]; exact gl_cls X.g_Shade cls_Shade) (an)
  · exact an
  · exact ac (X.n_isinstance) (an)
  · exact an
  · exact an
  · exact an
  · exact an
theorem ok_Shade___eq__ (X:Tx K mg a d v):FO P w K mg base a d 8 35 ["self","other"] "Shade.__eq__":=by
  unfold FO
  rw [T_Shade___eq__]
  exact fn_ok X.F_Shade___eq__ dk_Shade___eq__ (ck X) (gf_Shade___eq__ X (ok_shares_of X)) cd_Shade___eq__ (by walk_at "sl") (w_Shade___eq__ hPT)
theorem gf_figures (X:Tx K mg a d v)  :Gf P w K mg base (Ew K a) T 0 C_figures:=by
  refine ⟨?_, ?_, ?_, ?_, ?_, ?_, ?_, ?_, ?_, ?_, ?_⟩
  · exact an
  · exact an
  · exact an
  · exact an
  · exact ac (by obtain ⟨t,h⟩:=X.c_PIECE; rw [G_PIECE]; exact gl_int h) (ac (by obtain ⟨t,h⟩:=X.c_PIECE_FIGURES; rw [G_PIECE_FIGURES]; exact gl_int h) (an))
  · exact ac (⟨X.n_str,⟨"str",PyProof.Rows.boot_str,G_str⟩,by decide +kernel⟩) (an)
  · exact ac (X.n_divmod) (ac (X.n_str) (an))
  · exact an
  · exact an
  · exact an
  · exact an
theorem ok_figures (X:Tx K mg a d v):FO P w K mg base a d 2 36 ["number"] "figures":=by
  unfold FO
  rw [T_figures]
  exact fn_ok X.F_figures dk_figures (ck X) (gf_figures X ) cd_figures (by walk_at "sl") (w_figures hL7)
theorem gf_written (X:Tx K mg a d v) (o_figures:FO P w K mg base a d 2 36 ["number"] "figures"):Gf P w K mg base (Ew K a) T 2 C_written:=by
  refine ⟨?_, ?_, ?_, ?_, ?_, ?_, ?_, ?_, ?_, ?_, ?_⟩
  · exact ac (⟨_,_,_,⟨o_figures.mono (by decide),X.m_figures,X.F_figures.kp,by decide +kernel⟩,b_figures X⟩) (an)
  · exact an
  · exact an
  · exact an
  · exact an
  · exact an
  · exact an
  · exact an
  · exact an
  · exact an
  · exact an
theorem ok_written (X:Tx K mg a d v):FO P w K mg base a d 4 37 ["one"] "written":=by
  unfold FO
  rw [T_written]
  exact fn_ok X.F_written dk_written (ck X) (gf_written X (ok_figures X)) cd_written (by walk_at "sl") (w_written hL7)
theorem gf_Shade___str__ (X:Tx K mg a d v) (o_shares_of:FO P w K mg base a d 6 13 ["shade"] "shares_of") (o_written:FO P w K mg base a d 4 37 ["one"] "written"):Gf P w K mg base (Ew K a) T 6 C_Shade___str__:=by
  refine ⟨?_, ?_, ?_, ?_, ?_, ?_, ?_, ?_, ?_, ?_, ?_⟩
  · exact ac (⟨_,_,_,⟨o_shares_of.mono (by decide),X.m_shares_of,X.F_shares_of.kp,by decide +kernel⟩,b_shares_of X⟩) (ac (⟨_,_,_,⟨o_written.mono (by decide),X.m_written,X.F_written.kp,by decide +kernel⟩,b_written X⟩) (an))
  · exact an
  · exact an
  · exact an
  · exact an
  · exact an
  · exact an
  · exact an
  · exact an
  · exact an
  · exact an
theorem ok_Shade___str__ (X:Tx K mg a d v):FO P w K mg base a d 8 38 ["self"] "Shade.__str__":=by
  unfold FO
  rw [T_Shade___str__]
  exact fn_ok X.F_Shade___str__ dk_Shade___str__ (ck X) (gf_Shade___str__ X (ok_shares_of X) (ok_written X)) cd_Shade___str__ (by walk_at "sl") (w_Shade___str__ hPT hL7)
theorem gf_Shade___repr__ (X:Tx K mg a d v) (o_Shade___str__:FO P w K mg base a d 8 38 ["self"] "Shade.__str__"):Gf P w K mg base (Ew K a) T 10 C_Shade___repr__:=by
  refine ⟨?_, ?_, ?_, ?_, ?_, ?_, ?_, ?_, ?_, ?_, ?_⟩
  · exact an
  · exact an
  · exact an
  · exact an
  · exact an
  · exact ac (⟨X.n_str,⟨"str",PyProof.Rows.boot_str,G_str⟩,by decide +kernel⟩) (an)
  · exact ac (X.n_str) (an)
  · exact an
  · exact an
  · exact an
  · exact ac (fun b hb=>by rw [show bTab.lookup ("str":Str)=some .str from by decide +kernel] at hb; cases hb; exact ac (⟨_,_,8,"__str__",by decide,rfl,by rw [show (Ew K a).cls "Shade"=a 48 from cls_Shade]; exact X.N_Shade,by rw [show (Ew K a).cls "Shade"=a 48 from cls_Shade]; exact X.E_Shade___str__,o_Shade___str__,b_Shade___str__ X⟩) (an)) (an)
theorem ok_Shade___repr__ (X:Tx K mg a d v):FO P w K mg base a d 12 39 ["self"] "Shade.__repr__":=by
  unfold FO
  rw [T_Shade___repr__]
  exact fn_ok X.F_Shade___repr__ dk_Shade___repr__ (ck X) (gf_Shade___repr__ X (ok_Shade___str__ X)) cd_Shade___repr__ (by walk_at "sl") (w_Shade___repr__ hL7)
theorem gf_Shade___len__ (X:Tx K mg a d v) (o_shares_of:FO P w K mg base a d 6 13 ["shade"] "shares_of"):Gf P w K mg base (Ew K a) T 6 C_Shade___len__:=by
  refine ⟨?_, ?_, ?_, ?_, ?_, ?_, ?_, ?_, ?_, ?_, ?_⟩
  · exact ac (⟨_,_,_,⟨o_shares_of.mono (by decide),X.m_shares_of,X.F_shares_of.kp,by decide +kernel⟩,b_shares_of X⟩) (an)
  · exact an
  · exact an
  · exact an
  · exact an
  · exact an
  · exact ac (X.n_len) (an)
  · exact an
  · exact an
  · exact an
  · exact an
theorem ok_Shade___len__ (X:Tx K mg a d v):FO P w K mg base a d 8 40 ["self"] "Shade.__len__":=by
  unfold FO
  rw [T_Shade___len__]
  exact fn_ok X.F_Shade___len__ dk_Shade___len__ (ck X) (gf_Shade___len__ X (ok_shares_of X)) cd_Shade___len__ (by walk_at "sl") (w_Shade___len___07 hPT)
theorem gf_l_is (X:Tx K mg a d v) (o_Shade___eq__:FO P w K mg base a d 8 35 ["self","other"] "Shade.__eq__") (o_Shade___init__:FO P w K mg base a d 8 4 ["self","ember","leaf","sky"] "Shade.__init__") (o_Shade___len__:FO P w K mg base a d 8 40 ["self"] "Shade.__len__") (o_Shade___repr__:FO P w K mg base a d 12 39 ["self"] "Shade.__repr__") (o_Shade___str__:FO P w K mg base a d 8 38 ["self"] "Shade.__str__") (o_l_is_fraction:FO P w K mg base a d 4 33 ["_law_thing"] "_law_is_fraction") (o_l_text:FO P w K mg base a d 2 34 ["_law_a"] "_law_text") (o_is_shade:FO P w K mg base a d 2 5 ["thing"] "is_shade") (o_shares_of:FO P w K mg base a d 6 13 ["shade"] "shares_of"):Gf P w K mg base (Ew K a) T 14 C_l_is:=by
  refine ⟨?_, ?_, ?_, ?_, ?_, ?_, ?_, ?_, ?_, ?_, ?_⟩
  · exact ac (⟨_,_,_,⟨o_l_is_fraction.mono (by decide),X.m_l_is_fraction,X.F_l_is_fraction.kp,by decide +kernel⟩,b_l_is_fraction X⟩) (ac (⟨_,_,_,⟨o_l_text.mono (by decide),X.m_l_text,X.F_l_text.kp,by decide +kernel⟩,b_l_text X⟩) (ac (⟨_,_,_,⟨o_is_shade.mono (by decide),X.m_is_shade,X.F_is_shade.kp,by decide +kernel⟩,b_is_shade X⟩) (ac (⟨_,_,_,⟨o_shares_of.mono (by decide),X.m_shares_of,X.F_shares_of.kp,by decide +kernel⟩,b_shares_of X⟩) (an))))
  · exact ac (⟨"Shade","Shade.__init__",_,_,_,⟨by rw [show (Ew K a).cls "Shade"=a 48 from cls_Shade]; exact X.M_Shade,o_Shade___init__.mono (by decide),by rw [show (Ew K a).cls "Shade"=a 48 from cls_Shade]; exact X.g_Shade,mk_Shade hPT,by decide +kernel⟩,b_Shade___init__ X⟩) (an)
  · exact an
  · exact an
  · exact ac (by rw [G_Shade]; exact gl_cls X.g_Shade cls_Shade) (an)
  · exact ac (⟨X.n_bool,⟨"bool",PyProof.Rows.boot_bool,G_bool⟩,by decide +kernel⟩) (ac (⟨X.n_str,⟨"str",PyProof.Rows.boot_str,G_str⟩,by decide +kernel⟩) (an))
  · exact ac (X.n_all) (ac (X.n_bool) (ac (X.n_len) (ac (X.n_repr) (ac (X.n_str) (an)))))
  · exact an
  · exact ac (⟨_,_,by rw [show (Ew K a).cls "Shade"=a 48 from cls_Shade]; exact X.N_Shade,by rw [show (Ew K a).cls "Shade"=a 48 from cls_Shade]; exact X.E_Shade___eq__,o_Shade___eq__.mono (by decide),b_Shade___eq__ X⟩) (an)
  · exact an
  · exact ac (fun b hb=>by rw [show bTab.lookup ("str":Str)=some .str from by decide +kernel] at hb; cases hb; exact ac (⟨_,_,8,"__str__",by decide,rfl,by rw [show (Ew K a).cls "Shade"=a 48 from cls_Shade]; exact X.N_Shade,by rw [show (Ew K a).cls "Shade"=a 48 from cls_Shade]; exact X.E_Shade___str__,o_Shade___str__,b_Shade___str__ X⟩) (an)) (ac (fun b hb=>by rw [show bTab.lookup ("repr":Str)=some .repr from by decide +kernel] at hb; cases hb; exact ac (⟨_,_,12,"__repr__",by decide,rfl,by rw [show (Ew K a).cls "Shade"=a 48 from cls_Shade]; exact X.N_Shade,by rw [show (Ew K a).cls "Shade"=a 48 from cls_Shade]; exact X.E_Shade___repr__,o_Shade___repr__,b_Shade___repr__ X⟩) (an)) (ac (fun b hb=>by rw [show bTab.lookup ("len":Str)=some .len from by decide +kernel] at hb; cases hb; exact ac (⟨_,_,8,"__len__",by decide,rfl,by rw [show (Ew K a).cls "Shade"=a 48 from cls_Shade]; exact X.N_Shade,by rw [show (Ew K a).cls "Shade"=a 48 from cls_Shade]; exact X.E_Shade___len__,o_Shade___len__,b_Shade___len__ X⟩) (an)) (ac (fun b hb=>by rw [show bTab.lookup ("bool":Str)=some .bool from by decide +kernel] at hb; cases hb; exact ac (⟨_,_,8,"__len__",by decide,rfl,by rw [show (Ew K a).cls "Shade"=a 48 from cls_Shade]; exact X.N_Shade,by rw [show (Ew K a).cls "Shade"=a 48 from cls_Shade]; exact X.E_Shade___len__,o_Shade___len__,b_Shade___len__ X⟩) (an)) (an))))
theorem ok_l_is (X:Tx K mg a d v):FO P w K mg base a d 16 41 ["_law_told","_law_row"] "_law_is":=by
  unfold FO
  rw [T_l_is]
  exact fn_ok X.F_l_is dk_l_is (ck X) (gf_l_is X (ok_Shade___eq__ X) (ok_Shade___init__ X) (ok_Shade___len__ X) (ok_Shade___repr__ X) (ok_Shade___str__ X) (ok_l_is_fraction X) (ok_l_text X) (ok_is_shade X) (ok_shares_of X)) cd_l_is (by walk_at "sl") (w_l_is_07 hPT hLT hL7)
theorem gf_l_home (X:Tx K mg a d v) (o_l_is:FO P w K mg base a d 16 41 ["_law_told","_law_row"] "_law_is") (o_lighter:FO P w K mg base a d 14 19 ["shade","by"] "lighter") (o_opposite:FO P w K mg base a d 12 20 ["shade"] "opposite") (o_turned:FO P w K mg base a d 12 21 ["shade","by"] "turned"):Gf P w K mg base (Ew K a) T 16 C_l_home:=by
  refine ⟨?_, ?_, ?_, ?_, ?_, ?_, ?_, ?_, ?_, ?_, ?_⟩
  · exact ac (⟨_,_,_,⟨o_l_is.mono (by decide),X.m_l_is,X.F_l_is.kp,by decide +kernel⟩,b_l_is X⟩) (ac (⟨_,_,_,⟨o_lighter.mono (by decide),X.m_lighter,X.F_lighter.kp,by decide +kernel⟩,b_lighter X⟩) (ac (⟨_,_,_,⟨o_opposite.mono (by decide),X.m_opposite,X.F_opposite.kp,by decide +kernel⟩,b_opposite X⟩) (ac (⟨_,_,_,⟨o_turned.mono (by decide),X.m_turned,X.F_turned.kp,by decide +kernel⟩,b_turned X⟩) (an))))
  · exact an
  · exact ac (⟨_,_,_,⟨o_turned.mono (by decide),X.m_turned,X.F_turned.kp,by decide +kernel⟩,sh_turned_1_ X⟩) (an)
  · exact an
  · exact an
  · exact an
  · exact an
  · exact an
  · exact an
  · exact an
  · exact an
theorem ok_l_home (X:Tx K mg a d v):FO P w K mg base a d 18 42 ["_law_one","_law_row","_law_amount"] "_law_home":=by
  unfold FO
  rw [T_l_home]
  exact fn_ok X.F_l_home dk_l_home (ck X) (gf_l_home X (ok_l_is X) (ok_lighter X) (ok_opposite X) (ok_turned X)) cd_l_home (by walk_at "sl") (w_l_home hL7)
theorem gf_l_left_out (X:Tx K mg a d v) (o_l_deed:FO P w K mg base a d 6 31 ["_law_row","_law_word","_law_amount"] "_law_deed") (o_l_is:FO P w K mg base a d 16 41 ["_law_told","_law_row"] "_law_is") (o_darker:FO P w K mg base a d 14 16 ["shade","by"] "darker") (o_duller:FO P w K mg base a d 14 18 ["shade","by"] "duller") (o_lighter:FO P w K mg base a d 14 19 ["shade","by"] "lighter") (o_turned:FO P w K mg base a d 12 21 ["shade","by"] "turned"):Gf P w K mg base (Ew K a) T 16 C_l_left_out:=by
  refine ⟨?_, ?_, ?_, ?_, ?_, ?_, ?_, ?_, ?_, ?_, ?_⟩
  · exact ac (⟨_,_,_,⟨o_l_deed.mono (by decide),X.m_l_deed,X.F_l_deed.kp,by decide +kernel⟩,b_l_deed X⟩) (ac (⟨_,_,_,⟨o_l_is.mono (by decide),X.m_l_is,X.F_l_is.kp,by decide +kernel⟩,b_l_is X⟩) (an))
  · exact an
  · exact ac (⟨_,_,_,⟨o_darker.mono (by decide),X.m_darker,X.F_darker.kp,by decide +kernel⟩,sh_darker_1_ X⟩) (ac (⟨_,_,_,⟨o_duller.mono (by decide),X.m_duller,X.F_duller.kp,by decide +kernel⟩,sh_duller_1_ X⟩) (ac (⟨_,_,_,⟨o_lighter.mono (by decide),X.m_lighter,X.F_lighter.kp,by decide +kernel⟩,sh_lighter_0_shade X⟩) (ac (⟨_,_,_,⟨o_lighter.mono (by decide),X.m_lighter,X.F_lighter.kp,by decide +kernel⟩,sh_lighter_1_ X⟩) (ac (⟨_,_,_,⟨o_turned.mono (by decide),X.m_turned,X.F_turned.kp,by decide +kernel⟩,sh_turned_0_shade X⟩) (ac (⟨_,_,_,⟨o_turned.mono (by decide),X.m_turned,X.F_turned.kp,by decide +kernel⟩,sh_turned_1_ X⟩) (an))))))
  · exact an
  · exact an
  · exact an
  · exact ac (X.n_all) (an)
  · exact an
  · exact an
  · exact an
  · exact an
theorem ok_l_left_out (X:Tx K mg a d v):FO P w K mg base a d 18 43 ["_law_one","_law_row"] "_law_left_out":=by
  unfold FO
  rw [T_l_left_out]
  exact fn_ok X.F_l_left_out dk_l_left_out (ck X) (gf_l_left_out X (ok_l_deed X) (ok_l_is X) (ok_darker X) (ok_duller X) (ok_lighter X) (ok_turned X)) cd_l_left_out (by walk_at "sl") (w_l_left_out hL7)
theorem gf_l_made (X:Tx K mg a d v) (o_Shade___init__:FO P w K mg base a d 8 4 ["self","ember","leaf","sky"] "Shade.__init__") (o_l_pick:FO P w K mg base a d 2 23 ["_law_purse_here","_law_many"] "_law_pick"):Gf P w K mg base (Ew K a) T 8 C_l_made:=by
  refine ⟨?_, ?_, ?_, ?_, ?_, ?_, ?_, ?_, ?_, ?_, ?_⟩
  · exact ac (⟨_,_,_,⟨o_l_pick.mono (by decide),X.m_l_pick,X.F_l_pick.kp,by decide +kernel⟩,b_l_pick X⟩) (an)
  · exact ac (⟨"Shade","Shade.__init__",_,_,_,⟨by rw [show (Ew K a).cls "Shade"=a 48 from cls_Shade]; exact X.M_Shade,o_Shade___init__.mono (by decide),by rw [show (Ew K a).cls "Shade"=a 48 from cls_Shade]; exact X.g_Shade,mk_Shade hPT,by decide +kernel⟩,b_Shade___init__ X⟩) (an)
  · exact an
  · exact ac (⟨"Shade","Shade.__init__",_,_,_,⟨by rw [show (Ew K a).cls "Shade"=a 48 from cls_Shade]; exact X.M_Shade,o_Shade___init__.mono (by decide),by rw [show (Ew K a).cls "Shade"=a 48 from cls_Shade]; exact X.g_Shade,mk_Shade hPT,by decide +kernel⟩,sh_Shade_0_sky_ember_leaf X⟩) (an)
  · exact ac (by rw [G_Shade]; exact gl_cls X.g_Shade cls_Shade) (an)
  · exact an
  · exact an
  · exact an
  · exact an
  · exact an
  · exact an
theorem ok_l_made (X:Tx K mg a d v):FO P w K mg base a d 10 44 ["_law_purse_here","_law_row"] "_law_made":=by
  unfold FO
  rw [T_l_made]
  exact fn_ok X.F_l_made dk_l_made (ck X) (gf_l_made X (ok_Shade___init__ X) (ok_l_pick X)) cd_l_made (by walk_at "sl") (w_l_made hPT hLT)
theorem gf_l_purse (X:Tx K mg a d v)  :Gf P w K mg base (Ew K a) T 0 C_l_purse:=by
  refine ⟨?_, ?_, ?_, ?_, ?_, ?_, ?_, ?_, ?_, ?_, ?_⟩
  · exact an
  · exact an
  · exact an
  · exact an
  · exact an
  · exact ac (⟨X.n_int,⟨"int",PyProof.Rows.boot_int,G_int⟩,by decide +kernel⟩) (an)
  · exact ac (X.n_int) (an)
  · exact an
  · exact an
  · exact an
  · exact an
theorem ok_l_purse (X:Tx K mg a d v):FO P w K mg base a d 2 45 ["_law_cell_here"] "_law_purse":=by
  unfold FO
  rw [T_l_purse]
  exact fn_ok X.F_l_purse dk_l_purse (ck X) (gf_l_purse X ) cd_l_purse (by walk_at "sl") (w_l_purse)
theorem gf_l_shares (X:Tx K mg a d v) (o_l_pick:FO P w K mg base a d 2 23 ["_law_purse_here","_law_many"] "_law_pick") (o_l_share:FO P w K mg base a d 4 25 ["_law_purse_here"] "_law_share"):Gf P w K mg base (Ew K a) T 4 C_l_shares:=by
  refine ⟨?_, ?_, ?_, ?_, ?_, ?_, ?_, ?_, ?_, ?_, ?_⟩
  · exact ac (⟨_,_,_,⟨o_l_pick.mono (by decide),X.m_l_pick,X.F_l_pick.kp,by decide +kernel⟩,b_l_pick X⟩) (ac (⟨_,_,_,⟨o_l_share.mono (by decide),X.m_l_share,X.F_l_share.kp,by decide +kernel⟩,b_l_share X⟩) (an))
  · exact an
  · exact an
  · exact an
  · exact an
  · exact ac (⟨X.n_tuple,⟨"tuple",PyProof.Rows.boot_tuple,G_tuple⟩,by decide +kernel⟩) (an)
  · exact ac (X.n_range) (ac (X.n_tuple) (an))
  · exact an
  · exact an
  · exact an
  · exact an
theorem ok_l_shares (X:Tx K mg a d v):FO P w K mg base a d 6 46 ["_law_purse_here"] "_law_shares":=by
  unfold FO
  rw [T_l_shares]
  exact fn_ok X.F_l_shares dk_l_shares (ck X) (gf_l_shares X (ok_l_pick X) (ok_l_share X)) cd_l_shares (by walk_at "sl") (w_l_shares hLT)
theorem gf_law (X:Tx K mg a d v) (o_Shade___init__:FO P w K mg base a d 8 4 ["self","ember","leaf","sky"] "Shade.__init__") (o_l_asked:FO P w K mg base a d 16 22 ["_law_word","_law_one","_law_amount","_law_way"] "_law_asked") (o_l_by:FO P w K mg base a d 6 26 ["_law_purse_here","_law_word"] "_law_by") (o_l_cell:FO P w K mg base a d 2 27 ["_law_script","_law_k"] "_law_cell") (o_l_deed:FO P w K mg base a d 6 31 ["_law_row","_law_word","_law_amount"] "_law_deed") (o_l_home:FO P w K mg base a d 18 42 ["_law_one","_law_row","_law_amount"] "_law_home") (o_l_is:FO P w K mg base a d 16 41 ["_law_told","_law_row"] "_law_is") (o_l_left_out:FO P w K mg base a d 18 43 ["_law_one","_law_row"] "_law_left_out") (o_l_made:FO P w K mg base a d 10 44 ["_law_purse_here","_law_row"] "_law_made") (o_l_pick:FO P w K mg base a d 2 23 ["_law_purse_here","_law_many"] "_law_pick") (o_l_purse:FO P w K mg base a d 2 45 ["_law_cell_here"] "_law_purse") (o_l_shares:FO P w K mg base a d 6 46 ["_law_purse_here"] "_law_shares"):Gf P w K mg base (Ew K a) T 18 C_law:=by
  refine ⟨?_, ?_, ?_, ?_, ?_, ?_, ?_, ?_, ?_, ?_, ?_⟩
  · exact ac (⟨_,_,_,⟨o_l_asked.mono (by decide),X.m_l_asked,X.F_l_asked.kp,by decide +kernel⟩,b_l_asked X⟩) (ac (⟨_,_,_,⟨o_l_by.mono (by decide),X.m_l_by,X.F_l_by.kp,by decide +kernel⟩,b_l_by X⟩) (ac (⟨_,_,_,⟨o_l_cell.mono (by decide),X.m_l_cell,X.F_l_cell.kp,by decide +kernel⟩,b_l_cell X⟩) (ac (⟨_,_,_,⟨o_l_deed.mono (by decide),X.m_l_deed,X.F_l_deed.kp,by decide +kernel⟩,b_l_deed X⟩) (ac (⟨_,_,_,⟨o_l_home.mono (by decide),X.m_l_home,X.F_l_home.kp,by decide +kernel⟩,b_l_home X⟩) (ac (⟨_,_,_,⟨o_l_is.mono (by decide),X.m_l_is,X.F_l_is.kp,by decide +kernel⟩,b_l_is X⟩) (ac (⟨_,_,_,⟨o_l_left_out.mono (by decide),X.m_l_left_out,X.F_l_left_out.kp,by decide +kernel⟩,b_l_left_out X⟩) (ac (⟨_,_,_,⟨o_l_made.mono (by decide),X.m_l_made,X.F_l_made.kp,by decide +kernel⟩,b_l_made X⟩) (ac (⟨_,_,_,⟨o_l_pick.mono (by decide),X.m_l_pick,X.F_l_pick.kp,by decide +kernel⟩,b_l_pick X⟩) (ac (⟨_,_,_,⟨o_l_purse.mono (by decide),X.m_l_purse,X.F_l_purse.kp,by decide +kernel⟩,b_l_purse X⟩) (ac (⟨_,_,_,⟨o_l_shares.mono (by decide),X.m_l_shares,X.F_l_shares.kp,by decide +kernel⟩,b_l_shares X⟩) (an)))))))))))
  · exact ac (⟨"Shade","Shade.__init__",_,_,_,⟨by rw [show (Ew K a).cls "Shade"=a 48 from cls_Shade]; exact X.M_Shade,o_Shade___init__.mono (by decide),by rw [show (Ew K a).cls "Shade"=a 48 from cls_Shade]; exact X.g_Shade,mk_Shade hPT,by decide +kernel⟩,b_Shade___init__ X⟩) (an)
  · exact an
  · exact an
  · exact ac (by rw [G_Shade]; exact gl_cls X.g_Shade cls_Shade) (an)
  · exact an
  · exact ac (X.n_len) (ac (X.n_max) (ac (X.n_min) (ac (X.n_range) (an))))
  · exact an
  · exact an
  · exact an
  · exact an
theorem ok_law (X:Tx K mg a d v):FO P w K mg base a d 20 47 ["_law_script"] "law":=by
  unfold FO
  rw [T_law]
  exact fn_ok X.F_law dk_law (ck X) (gf_law X (ok_Shade___init__ X) (ok_l_asked X) (ok_l_by X) (ok_l_cell X) (ok_l_deed X) (ok_l_home X) (ok_l_is X) (ok_l_left_out X) (ok_l_made X) (ok_l_pick X) (ok_l_purse X) (ok_l_shares X)) cd_law (by walk_at "sl") (w_law hPT hLT hLM hL7)
theorem all_mk {l:PySem.W.OpenLaw} {w:World} {K:PySem.W.Frag} {h:Heap} {mg:Str→Option Value} {fa:Addr} {f0 f1 f2 f3 f4 f5 f6 f7 f8 f9 f10 f11 f12 f13 f14 f15 f16 f17 f18 f19 f20 f21 f22 f23 f24 f25 f26 f27 f28 f29 f30 f31 f32 f33 f34 f35 f36 f37 f38 f39 f40 f41 f42 f43 f44 f45 f46 f47:Addr} {pm0 cd0 pm1 cd1 pm2 cd2 pm3 cd3 pm4 cd4 pm5 cd5 pm6 cd6 pm7 cd7 pm8 cd8 pm9 cd9 pm10 cd10 pm11 cd11 pm12 cd12 pm13 cd13 pm14 cd14 pm15 cd15 pm16 cd16 pm17 cd17 pm18 cd18 pm19 cd19 pm20 cd20 pm21 cd21 pm22 cd22 pm23 cd23 pm24 cd24 pm25 cd25 pm26 cd26 pm27 cd27 pm28 cd28 pm29 cd29 pm30 cd30 pm31 cd31 pm32 cd32 pm33 cd33 pm34 cd34 pm35 cd35 pm36 cd36 pm37 cd37 pm38 cd38 pm39 cd39 pm40 cd40 pm41 cd41 pm42 cd42 pm43 cd43 pm44 cd44 pm45 cd45 pm46 cd46 pm47 cd47:Value} (X:K.In h) (G:h.Ns mainGlobals mg) (hfa:mg "law"=some (.ref fa))
    {C_Shade:Addr} (aC_Shade:PySem.W.nsIn K mainGlobals "Shade"=some (some (.ref C_Shade))) (pg_Shade:PySem.W.plainGet K C_Shade Str.empty=true) (hd_Shade:PySem.W.hasDictIn K C_Shade=true) (po_Shade:PySem.W.plainOver K C_Shade=true) (sa_Shade:PySem.W.findIn K (.ref C_Shade) "__setattr__"=some (some (.builtin "object.__setattr__"))) (mk_Shade:PySem.W.makesIn K C_Shade=true) (kc_Shade:PySem.W.keepIn K (.ref C_Shade)=true)
    (ha_Shade:PySem.W.findIn K (.ref C_Shade) "__class__"=some (some (.builtin "object.__class__"))) (hn_Shade:PySem.W.specialIn K (.builtin "object.__class__") "__get__"=some (some (.builtin "getset_descriptor.__get__"))) (ht_Shade:PySem.W.takesIn K (.builtin "object.__class__")=some true) (hm_Shade:PySem.W.mroIn K C_Shade (.type "object")=some true)
    (nn_Shade:PySem.W.findIn K (.ref C_Shade) "__ne__"=some (some (.builtin "object.__ne__"))) (no_Shade:PySem.W.subIn K (.ref C_Shade) (.type "object")=some true) (nb_Shade:PySem.W.findIn K (.ref C_Shade) "__bool__"=some none)
    (kp_Shade_NoneType:PySem.W.kitOne K (.type "NoneType") (.ref C_Shade)=some false)
    (kp_Shade_bool:PySem.W.kitOne K (.type "bool") (.ref C_Shade)=some false)
    (kp_Shade_int:PySem.W.kitOne K (.type "int") (.ref C_Shade)=some false)
    (kp_Shade_str:PySem.W.kitOne K (.type "str") (.ref C_Shade)=some false)
    (kp_Shade_list:PySem.W.kitOne K (.type "list") (.ref C_Shade)=some false)
    (kp_Shade_tuple:PySem.W.kitOne K (.type "tuple") (.ref C_Shade)=some false)
    (kp_Shade_dict:PySem.W.kitOne K (.type "dict") (.ref C_Shade)=some false)
    (ko_Shade_int:PySem.W.kitOne K (.ref C_Shade) (.type "int")=some false)
    (ko_Shade_bool:PySem.W.kitOne K (.ref C_Shade) (.type "bool")=some false)
    (ko_Shade_tuple:PySem.W.kitOne K (.ref C_Shade) (.type "tuple")=some false)
    (ko_Shade_str:PySem.W.kitOne K (.ref C_Shade) (.type "str")=some false)
    (ko_Shade_list:PySem.W.kitOne K (.ref C_Shade) (.type "list")=some false)
    (ko_Shade_dict:PySem.W.kitOne K (.ref C_Shade) (.type "dict")=some false)
    (na_Shade_ember:PySem.W.findIn K (.ref C_Shade) "ember"=some none)
    (na_Shade_leaf:PySem.W.findIn K (.ref C_Shade) "leaf"=some none)
    (na_Shade_sky:PySem.W.findIn K (.ref C_Shade) "sky"=some none)
    {ac_HALF:Addr} {t1_HALF t2_HALF:Tok} {odc_HALF:Option Addr} {nc_HALF:Nat} {slc_HALF:Array (Option Value)} (cc_HALF:PySem.W.nsIn K mainGlobals "HALF"=some (some (.ref ac_HALF))) (cl_HALF:K.lookup ac_HALF=some ⟨.type "tuple",none,.seq #[.int 1 t1_HALF,.int 2 t2_HALF] nc_HALF,slc_HALF⟩)
    {ac_ONE:Addr} {t1_ONE t2_ONE:Tok} {odc_ONE:Option Addr} {nc_ONE:Nat} {slc_ONE:Array (Option Value)} (cc_ONE:PySem.W.nsIn K mainGlobals "ONE"=some (some (.ref ac_ONE))) (cl_ONE:K.lookup ac_ONE=some ⟨.type "tuple",none,.seq #[.int 1 t1_ONE,.int 1 t2_ONE] nc_ONE,slc_ONE⟩)
    {tk_PIECE:Tok} (cc_PIECE:PySem.W.nsIn K mainGlobals "PIECE"=some (some (.int 10000000000000000000000000000000000000000000000000000000000000000 tk_PIECE)))
    {tk_PIECE_FIGURES:Tok} (cc_PIECE_FIGURES:PySem.W.nsIn K mainGlobals "PIECE_FIGURES"=some (some (.int 64 tk_PIECE_FIGURES)))
    {ac_ZERO:Addr} {t1_ZERO t2_ZERO:Tok} {odc_ZERO:Option Addr} {nc_ZERO:Nat} {slc_ZERO:Array (Option Value)} (cc_ZERO:PySem.W.nsIn K mainGlobals "ZERO"=some (some (.ref ac_ZERO))) (cl_ZERO:K.lookup ac_ZERO=some ⟨.type "tuple",none,.seq #[.int 0 t1_ZERO,.int 1 t2_ZERO] nc_ZERO,slc_ZERO⟩)
    (a0:PySem.W.nsIn K mainGlobals "common"=some (some (.ref f0)))
    (l0:K.lookup f0=some ⟨.type "function",none,.func (fX "common" "common" s_common .none pm0 cd0), #[]⟩) (c0:PySem.W.codeIn K cd0 "common"=true) (k0:PySem.W.keepIn K (.ref f0)=true)
    (a1:PySem.W.nsIn K mainGlobals "is_whole"=some (some (.ref f1)))
    (l1:K.lookup f1=some ⟨.type "function",none,.func (fX "is_whole" "is_whole" s_is_whole .none pm1 cd1), #[]⟩) (c1:PySem.W.codeIn K cd1 "is_whole"=true) (k1:PySem.W.keepIn K (.ref f1)=true)
    (a2:PySem.W.nsIn K mainGlobals "is_fraction"=some (some (.ref f2)))
    (l2:K.lookup f2=some ⟨.type "function",none,.func (fX "is_fraction" "is_fraction" s_is_fraction .none pm2 cd2), #[]⟩) (c2:PySem.W.codeIn K cd2 "is_fraction"=true) (k2:PySem.W.keepIn K (.ref f2)=true)
    (a3:PySem.W.nsIn K mainGlobals "is_share"=some (some (.ref f3)))
    (l3:K.lookup f3=some ⟨.type "function",none,.func (fX "is_share" "is_share" s_is_share .none pm3 cd3), #[]⟩) (c3:PySem.W.codeIn K cd3 "is_share"=true) (k3:PySem.W.keepIn K (.ref f3)=true)
    (a4:PySem.W.findIn K (.ref C_Shade) "__init__"=some (some (.ref f4))) (i4:PySem.W.isFn K (.ref f4)=true)
    (l4:K.lookup f4=some ⟨.type "function",none,.func (fX "__init__" "Shade.__init__" s_Shade___init__ .none pm4 cd4), #[]⟩) (c4:PySem.W.codeIn K cd4 "Shade.__init__"=true) (k4:PySem.W.keepIn K (.ref f4)=true)
    (a5:PySem.W.nsIn K mainGlobals "is_shade"=some (some (.ref f5)))
    (l5:K.lookup f5=some ⟨.type "function",none,.func (fX "is_shade" "is_shade" s_is_shade .none pm5 cd5), #[]⟩) (c5:PySem.W.codeIn K cd5 "is_shade"=true) (k5:PySem.W.keepIn K (.ref f5)=true)
    (a6:PySem.W.nsIn K mainGlobals "need_shade"=some (some (.ref f6)))
    (l6:K.lookup f6=some ⟨.type "function",none,.func (fX "need_shade" "need_shade" s_need_shade .none pm6 cd6), #[]⟩) (c6:PySem.W.codeIn K cd6 "need_shade"=true) (k6:PySem.W.keepIn K (.ref f6)=true)
    (a7:PySem.W.nsIn K mainGlobals "part_of"=some (some (.ref f7)))
    (l7:K.lookup f7=some ⟨.type "function",none,.func (fX "part_of" "part_of" s_part_of .none pm7 cd7), #[]⟩) (c7:PySem.W.codeIn K cd7 "part_of"=true) (k7:PySem.W.keepIn K (.ref f7)=true)
    (a8:PySem.W.nsIn K mainGlobals "lowest"=some (some (.ref f8)))
    (l8:K.lookup f8=some ⟨.type "function",none,.func (fX "lowest" "lowest" s_lowest .none pm8 cd8), #[]⟩) (c8:PySem.W.codeIn K cd8 "lowest"=true) (k8:PySem.W.keepIn K (.ref f8)=true)
    (a9:PySem.W.nsIn K mainGlobals "need_fractions"=some (some (.ref f9)))
    (l9:K.lookup f9=some ⟨.type "function",none,.func (fX "need_fractions" "need_fractions" s_need_fractions .none pm9 cd9), #[]⟩) (c9:PySem.W.codeIn K cd9 "need_fractions"=true) (k9:PySem.W.keepIn K (.ref f9)=true)
    (a10:PySem.W.nsIn K mainGlobals "minus"=some (some (.ref f10)))
    (l10:K.lookup f10=some ⟨.type "function",none,.func (fX "minus" "minus" s_minus .none pm10 cd10), #[]⟩) (c10:PySem.W.codeIn K cd10 "minus"=true) (k10:PySem.W.keepIn K (.ref f10)=true)
    (a11:PySem.W.nsIn K mainGlobals "plus"=some (some (.ref f11)))
    (l11:K.lookup f11=some ⟨.type "function",none,.func (fX "plus" "plus" s_plus .none pm11 cd11), #[]⟩) (c11:PySem.W.codeIn K cd11 "plus"=true) (k11:PySem.W.keepIn K (.ref f11)=true)
    (a12:PySem.W.nsIn K mainGlobals "shade_of"=some (some (.ref f12)))
    (l12:K.lookup f12=some ⟨.type "function",none,.func (fX "shade_of" "shade_of" s_shade_of .none pm12 cd12), #[]⟩) (c12:PySem.W.codeIn K cd12 "shade_of"=true) (k12:PySem.W.keepIn K (.ref f12)=true)
    (a13:PySem.W.nsIn K mainGlobals "shares_of"=some (some (.ref f13)))
    (l13:K.lookup f13=some ⟨.type "function",none,.func (fX "shares_of" "shares_of" s_shares_of .none pm13 cd13), #[]⟩) (c13:PySem.W.codeIn K cd13 "shares_of"=true) (k13:PySem.W.keepIn K (.ref f13)=true)
    (a14:PySem.W.nsIn K mainGlobals "times"=some (some (.ref f14)))
    (l14:K.lookup f14=some ⟨.type "function",none,.func (fX "times" "times" s_times .none pm14 cd14), #[]⟩) (c14:PySem.W.codeIn K cd14 "times"=true) (k14:PySem.W.keepIn K (.ref f14)=true)
    (a15:PySem.W.nsIn K mainGlobals "toward"=some (some (.ref f15)))
    (l15:K.lookup f15=some ⟨.type "function",none,.func (fX "toward" "toward" s_toward .none pm15 cd15), #[]⟩) (c15:PySem.W.codeIn K cd15 "toward"=true) (k15:PySem.W.keepIn K (.ref f15)=true)
    {bd16:Addr} {ocd16:Value} {odd16:Option Addr} {nd16:Nat} {sld16:Array (Option Value)}
    (a16:PySem.W.nsIn K mainGlobals "darker"=some (some (.ref f16)))
    (l16:K.lookup f16=some ⟨.type "function",none,.func (fX "darker" "darker" s_darker (.ref bd16) pm16 cd16), #[]⟩) (c16:PySem.W.codeIn K cd16 "darker"=true) (k16:PySem.W.keepIn K (.ref f16)=true)
    (ld16:K.lookup bd16=some ⟨ocd16,odd16,.seq #[.none] nd16,sld16⟩)
    (a17:PySem.W.nsIn K mainGlobals "over"=some (some (.ref f17)))
    (l17:K.lookup f17=some ⟨.type "function",none,.func (fX "over" "over" s_over .none pm17 cd17), #[]⟩) (c17:PySem.W.codeIn K cd17 "over"=true) (k17:PySem.W.keepIn K (.ref f17)=true)
    {bd18:Addr} {ocd18:Value} {odd18:Option Addr} {nd18:Nat} {sld18:Array (Option Value)}
    (a18:PySem.W.nsIn K mainGlobals "duller"=some (some (.ref f18)))
    (l18:K.lookup f18=some ⟨.type "function",none,.func (fX "duller" "duller" s_duller (.ref bd18) pm18 cd18), #[]⟩) (c18:PySem.W.codeIn K cd18 "duller"=true) (k18:PySem.W.keepIn K (.ref f18)=true)
    (ld18:K.lookup bd18=some ⟨ocd18,odd18,.seq #[.none] nd18,sld18⟩)
    {bd19:Addr} {ocd19:Value} {odd19:Option Addr} {nd19:Nat} {sld19:Array (Option Value)}
    (a19:PySem.W.nsIn K mainGlobals "lighter"=some (some (.ref f19)))
    (l19:K.lookup f19=some ⟨.type "function",none,.func (fX "lighter" "lighter" s_lighter (.ref bd19) pm19 cd19), #[]⟩) (c19:PySem.W.codeIn K cd19 "lighter"=true) (k19:PySem.W.keepIn K (.ref f19)=true)
    (ld19:K.lookup bd19=some ⟨ocd19,odd19,.seq #[.none] nd19,sld19⟩)
    (a20:PySem.W.nsIn K mainGlobals "opposite"=some (some (.ref f20)))
    (l20:K.lookup f20=some ⟨.type "function",none,.func (fX "opposite" "opposite" s_opposite .none pm20 cd20), #[]⟩) (c20:PySem.W.codeIn K cd20 "opposite"=true) (k20:PySem.W.keepIn K (.ref f20)=true)
    {bd21:Addr} {ocd21:Value} {odd21:Option Addr} {nd21:Nat} {sld21:Array (Option Value)}
    (a21:PySem.W.nsIn K mainGlobals "turned"=some (some (.ref f21)))
    (l21:K.lookup f21=some ⟨.type "function",none,.func (fX "turned" "turned" s_turned (.ref bd21) pm21 cd21), #[]⟩) (c21:PySem.W.codeIn K cd21 "turned"=true) (k21:PySem.W.keepIn K (.ref f21)=true)
    (ld21:K.lookup bd21=some ⟨ocd21,odd21,.seq #[.none] nd21,sld21⟩)
    (a22:PySem.W.nsIn K mainGlobals "_law_asked"=some (some (.ref f22)))
    (l22:K.lookup f22=some ⟨.type "function",none,.func (fX "_law_asked" "_law_asked" s_l_asked .none pm22 cd22), #[]⟩) (c22:PySem.W.codeIn K cd22 "_law_asked"=true) (k22:PySem.W.keepIn K (.ref f22)=true)
    (a23:PySem.W.nsIn K mainGlobals "_law_pick"=some (some (.ref f23)))
    (l23:K.lookup f23=some ⟨.type "function",none,.func (fX "_law_pick" "_law_pick" s_l_pick .none pm23 cd23), #[]⟩) (c23:PySem.W.codeIn K cd23 "_law_pick"=true) (k23:PySem.W.keepIn K (.ref f23)=true)
    (a24:PySem.W.nsIn K mainGlobals "_law_low"=some (some (.ref f24)))
    (l24:K.lookup f24=some ⟨.type "function",none,.func (fX "_law_low" "_law_low" s_l_low .none pm24 cd24), #[]⟩) (c24:PySem.W.codeIn K cd24 "_law_low"=true) (k24:PySem.W.keepIn K (.ref f24)=true)
    (a25:PySem.W.nsIn K mainGlobals "_law_share"=some (some (.ref f25)))
    (l25:K.lookup f25=some ⟨.type "function",none,.func (fX "_law_share" "_law_share" s_l_share .none pm25 cd25), #[]⟩) (c25:PySem.W.codeIn K cd25 "_law_share"=true) (k25:PySem.W.keepIn K (.ref f25)=true)
    (a26:PySem.W.nsIn K mainGlobals "_law_by"=some (some (.ref f26)))
    (l26:K.lookup f26=some ⟨.type "function",none,.func (fX "_law_by" "_law_by" s_l_by .none pm26 cd26), #[]⟩) (c26:PySem.W.codeIn K cd26 "_law_by"=true) (k26:PySem.W.keepIn K (.ref f26)=true)
    (a27:PySem.W.nsIn K mainGlobals "_law_cell"=some (some (.ref f27)))
    (l27:K.lookup f27=some ⟨.type "function",none,.func (fX "_law_cell" "_law_cell" s_l_cell .none pm27 cd27), #[]⟩) (c27:PySem.W.codeIn K cd27 "_law_cell"=true) (k27:PySem.W.keepIn K (.ref f27)=true)
    (a28:PySem.W.nsIn K mainGlobals "_law_minus"=some (some (.ref f28)))
    (l28:K.lookup f28=some ⟨.type "function",none,.func (fX "_law_minus" "_law_minus" s_l_minus .none pm28 cd28), #[]⟩) (c28:PySem.W.codeIn K cd28 "_law_minus"=true) (k28:PySem.W.keepIn K (.ref f28)=true)
    (a29:PySem.W.nsIn K mainGlobals "_law_plus"=some (some (.ref f29)))
    (l29:K.lookup f29=some ⟨.type "function",none,.func (fX "_law_plus" "_law_plus" s_l_plus .none pm29 cd29), #[]⟩) (c29:PySem.W.codeIn K cd29 "_law_plus"=true) (k29:PySem.W.keepIn K (.ref f29)=true)
    (a30:PySem.W.nsIn K mainGlobals "_law_times"=some (some (.ref f30)))
    (l30:K.lookup f30=some ⟨.type "function",none,.func (fX "_law_times" "_law_times" s_l_times .none pm30 cd30), #[]⟩) (c30:PySem.W.codeIn K cd30 "_law_times"=true) (k30:PySem.W.keepIn K (.ref f30)=true)
    (a31:PySem.W.nsIn K mainGlobals "_law_deed"=some (some (.ref f31)))
    (l31:K.lookup f31=some ⟨.type "function",none,.func (fX "_law_deed" "_law_deed" s_l_deed .none pm31 cd31), #[]⟩) (c31:PySem.W.codeIn K cd31 "_law_deed"=true) (k31:PySem.W.keepIn K (.ref f31)=true)
    (a32:PySem.W.nsIn K mainGlobals "_law_whole"=some (some (.ref f32)))
    (l32:K.lookup f32=some ⟨.type "function",none,.func (fX "_law_whole" "_law_whole" s_l_whole .none pm32 cd32), #[]⟩) (c32:PySem.W.codeIn K cd32 "_law_whole"=true) (k32:PySem.W.keepIn K (.ref f32)=true)
    (a33:PySem.W.nsIn K mainGlobals "_law_is_fraction"=some (some (.ref f33)))
    (l33:K.lookup f33=some ⟨.type "function",none,.func (fX "_law_is_fraction" "_law_is_fraction" s_l_is_fraction .none pm33 cd33), #[]⟩) (c33:PySem.W.codeIn K cd33 "_law_is_fraction"=true) (k33:PySem.W.keepIn K (.ref f33)=true)
    (a34:PySem.W.nsIn K mainGlobals "_law_text"=some (some (.ref f34)))
    (l34:K.lookup f34=some ⟨.type "function",none,.func (fX "_law_text" "_law_text" s_l_text .none pm34 cd34), #[]⟩) (c34:PySem.W.codeIn K cd34 "_law_text"=true) (k34:PySem.W.keepIn K (.ref f34)=true)
    (a35:PySem.W.findIn K (.ref C_Shade) "__eq__"=some (some (.ref f35))) (i35:PySem.W.isFn K (.ref f35)=true)
    (l35:K.lookup f35=some ⟨.type "function",none,.func (fX "__eq__" "Shade.__eq__" s_Shade___eq__ .none pm35 cd35), #[]⟩) (c35:PySem.W.codeIn K cd35 "Shade.__eq__"=true) (k35:PySem.W.keepIn K (.ref f35)=true)
    (a36:PySem.W.nsIn K mainGlobals "figures"=some (some (.ref f36)))
    (l36:K.lookup f36=some ⟨.type "function",none,.func (fX "figures" "figures" s_figures .none pm36 cd36), #[]⟩) (c36:PySem.W.codeIn K cd36 "figures"=true) (k36:PySem.W.keepIn K (.ref f36)=true)
    (a37:PySem.W.nsIn K mainGlobals "written"=some (some (.ref f37)))
    (l37:K.lookup f37=some ⟨.type "function",none,.func (fX "written" "written" s_written .none pm37 cd37), #[]⟩) (c37:PySem.W.codeIn K cd37 "written"=true) (k37:PySem.W.keepIn K (.ref f37)=true)
    (a38:PySem.W.findIn K (.ref C_Shade) "__str__"=some (some (.ref f38))) (i38:PySem.W.isFn K (.ref f38)=true)
    (l38:K.lookup f38=some ⟨.type "function",none,.func (fX "__str__" "Shade.__str__" s_Shade___str__ .none pm38 cd38), #[]⟩) (c38:PySem.W.codeIn K cd38 "Shade.__str__"=true) (k38:PySem.W.keepIn K (.ref f38)=true)
    (a39:PySem.W.findIn K (.ref C_Shade) "__repr__"=some (some (.ref f39))) (i39:PySem.W.isFn K (.ref f39)=true)
    (l39:K.lookup f39=some ⟨.type "function",none,.func (fX "__repr__" "Shade.__repr__" s_Shade___repr__ .none pm39 cd39), #[]⟩) (c39:PySem.W.codeIn K cd39 "Shade.__repr__"=true) (k39:PySem.W.keepIn K (.ref f39)=true)
    (a40:PySem.W.findIn K (.ref C_Shade) "__len__"=some (some (.ref f40))) (i40:PySem.W.isFn K (.ref f40)=true)
    (l40:K.lookup f40=some ⟨.type "function",none,.func (fX "__len__" "Shade.__len__" s_Shade___len__ .none pm40 cd40), #[]⟩) (c40:PySem.W.codeIn K cd40 "Shade.__len__"=true) (k40:PySem.W.keepIn K (.ref f40)=true)
    (a41:PySem.W.nsIn K mainGlobals "_law_is"=some (some (.ref f41)))
    (l41:K.lookup f41=some ⟨.type "function",none,.func (fX "_law_is" "_law_is" s_l_is .none pm41 cd41), #[]⟩) (c41:PySem.W.codeIn K cd41 "_law_is"=true) (k41:PySem.W.keepIn K (.ref f41)=true)
    (a42:PySem.W.nsIn K mainGlobals "_law_home"=some (some (.ref f42)))
    (l42:K.lookup f42=some ⟨.type "function",none,.func (fX "_law_home" "_law_home" s_l_home .none pm42 cd42), #[]⟩) (c42:PySem.W.codeIn K cd42 "_law_home"=true) (k42:PySem.W.keepIn K (.ref f42)=true)
    (a43:PySem.W.nsIn K mainGlobals "_law_left_out"=some (some (.ref f43)))
    (l43:K.lookup f43=some ⟨.type "function",none,.func (fX "_law_left_out" "_law_left_out" s_l_left_out .none pm43 cd43), #[]⟩) (c43:PySem.W.codeIn K cd43 "_law_left_out"=true) (k43:PySem.W.keepIn K (.ref f43)=true)
    (a44:PySem.W.nsIn K mainGlobals "_law_made"=some (some (.ref f44)))
    (l44:K.lookup f44=some ⟨.type "function",none,.func (fX "_law_made" "_law_made" s_l_made .none pm44 cd44), #[]⟩) (c44:PySem.W.codeIn K cd44 "_law_made"=true) (k44:PySem.W.keepIn K (.ref f44)=true)
    (a45:PySem.W.nsIn K mainGlobals "_law_purse"=some (some (.ref f45)))
    (l45:K.lookup f45=some ⟨.type "function",none,.func (fX "_law_purse" "_law_purse" s_l_purse .none pm45 cd45), #[]⟩) (c45:PySem.W.codeIn K cd45 "_law_purse"=true) (k45:PySem.W.keepIn K (.ref f45)=true)
    (a46:PySem.W.nsIn K mainGlobals "_law_shares"=some (some (.ref f46)))
    (l46:K.lookup f46=some ⟨.type "function",none,.func (fX "_law_shares" "_law_shares" s_l_shares .none pm46 cd46), #[]⟩) (c46:PySem.W.codeIn K cd46 "_law_shares"=true) (k46:PySem.W.keepIn K (.ref f46)=true)
    (a47:PySem.W.nsIn K mainGlobals "law"=some (some (.ref f47)))
    (l47:K.lookup f47=some ⟨.type "function",none,.func (fX "law" "law" s_law .none pm47 cd47), #[]⟩) (c47:PySem.W.codeIn K cd47 "law"=true) (k47:PySem.W.keepIn K (.ref f47)=true)
    (z_abs:PySem.W.nsIn K mainGlobals "abs"=some none)
    (z_all:PySem.W.nsIn K mainGlobals "all"=some none)
    (z_bool:PySem.W.nsIn K mainGlobals "bool"=some none)
    (z_divmod:PySem.W.nsIn K mainGlobals "divmod"=some none)
    (z_enumerate:PySem.W.nsIn K mainGlobals "enumerate"=some none)
    (z_int:PySem.W.nsIn K mainGlobals "int"=some none)
    (z_isinstance:PySem.W.nsIn K mainGlobals "isinstance"=some none)
    (z_len:PySem.W.nsIn K mainGlobals "len"=some none)
    (z_max:PySem.W.nsIn K mainGlobals "max"=some none)
    (z_min:PySem.W.nsIn K mainGlobals "min"=some none)
    (z_range:PySem.W.nsIn K mainGlobals "range"=some none)
    (z_repr:PySem.W.nsIn K mainGlobals "repr"=some none)
    (z_str:PySem.W.nsIn K mainGlobals "str"=some none)
    (z_tuple:PySem.W.nsIn K mainGlobals "tuple"=some none)
    :∃ fd:FuncData,(∀ (s:Shared) (v:Value),BindsTo s fd ⟨[v],[]⟩ [("_law_script",v)])∧∀ base:Heap,K.In base→base.Ns mainGlobals mg→FnOk l.prog w K mg base CX0 20 fa fd ["_law_script"] (spTop K):=by
  have e:=hfa.symm.trans (PySem.W.mg_of X G a47)
  have e2:f47=fa:=by injection e with e; injection e with e; exact e.symm
  subst e2
  have T:Tx K mg (fun i=>([f0,f1,f2,f3,f4,f5,f6,f7,f8,f9,f10,f11,f12,f13,f14,f15,f16,f17,f18,f19,f20,f21,f22,f23,f24,f25,f26,f27,f28,f29,f30,f31,f32,f33,f34,f35,f36,f37,f38,f39,f40,f41,f42,f43,f44,f45,f46,f47,C_Shade]:List Addr).getD i 0) (fun i=>([fX "common" "common" s_common .none pm0 cd0,fX "is_whole" "is_whole" s_is_whole .none pm1 cd1,fX "is_fraction" "is_fraction" s_is_fraction .none pm2 cd2,fX "is_share" "is_share" s_is_share .none pm3 cd3,fX "__init__" "Shade.__init__" s_Shade___init__ .none pm4 cd4,fX "is_shade" "is_shade" s_is_shade .none pm5 cd5,fX "need_shade" "need_shade" s_need_shade .none pm6 cd6,fX "part_of" "part_of" s_part_of .none pm7 cd7,fX "lowest" "lowest" s_lowest .none pm8 cd8,fX "need_fractions" "need_fractions" s_need_fractions .none pm9 cd9,fX "minus" "minus" s_minus .none pm10 cd10,fX "plus" "plus" s_plus .none pm11 cd11,fX "shade_of" "shade_of" s_shade_of .none pm12 cd12,fX "shares_of" "shares_of" s_shares_of .none pm13 cd13,fX "times" "times" s_times .none pm14 cd14,fX "toward" "toward" s_toward .none pm15 cd15,fX "darker" "darker" s_darker (.ref bd16) pm16 cd16,fX "over" "over" s_over .none pm17 cd17,fX "duller" "duller" s_duller (.ref bd18) pm18 cd18,fX "lighter" "lighter" s_lighter (.ref bd19) pm19 cd19,fX "opposite" "opposite" s_opposite .none pm20 cd20,fX "turned" "turned" s_turned (.ref bd21) pm21 cd21,fX "_law_asked" "_law_asked" s_l_asked .none pm22 cd22,fX "_law_pick" "_law_pick" s_l_pick .none pm23 cd23,fX "_law_low" "_law_low" s_l_low .none pm24 cd24,fX "_law_share" "_law_share" s_l_share .none pm25 cd25,fX "_law_by" "_law_by" s_l_by .none pm26 cd26,fX "_law_cell" "_law_cell" s_l_cell .none pm27 cd27,fX "_law_minus" "_law_minus" s_l_minus .none pm28 cd28,fX "_law_plus" "_law_plus" s_l_plus .none pm29 cd29,fX "_law_times" "_law_times" s_l_times .none pm30 cd30,fX "_law_deed" "_law_deed" s_l_deed .none pm31 cd31,fX "_law_whole" "_law_whole" s_l_whole .none pm32 cd32,fX "_law_is_fraction" "_law_is_fraction" s_l_is_fraction .none pm33 cd33,fX "_law_text" "_law_text" s_l_text .none pm34 cd34,fX "__eq__" "Shade.__eq__" s_Shade___eq__ .none pm35 cd35,fX "figures" "figures" s_figures .none pm36 cd36,fX "written" "written" s_written .none pm37 cd37,fX "__str__" "Shade.__str__" s_Shade___str__ .none pm38 cd38,fX "__repr__" "Shade.__repr__" s_Shade___repr__ .none pm39 cd39,fX "__len__" "Shade.__len__" s_Shade___len__ .none pm40 cd40,fX "_law_is" "_law_is" s_l_is .none pm41 cd41,fX "_law_home" "_law_home" s_l_home .none pm42 cd42,fX "_law_left_out" "_law_left_out" s_l_left_out .none pm43 cd43,fX "_law_made" "_law_made" s_l_made .none pm44 cd44,fX "_law_purse" "_law_purse" s_l_purse .none pm45 cd45,fX "_law_shares" "_law_shares" s_l_shares .none pm46 cd46,fX "law" "law" s_law .none pm47 cd47]:List FuncData).getD i (fX "law" "law" s_law .none pm47 cd47)) (fun i=>([.none,.none,.none,.none,.none,.none,.none,.none,.none,.none,.none,.none,.none,.none,.none,.none,.ref bd16,.none,.ref bd18,.ref bd19,.none,.ref bd21,.none,.none,.none,.none,.none,.none,.none,.none,.none,.none,.none,.none,.none,.none,.none,.none,.none,.none,.none,.none,.none,.none,.none,.none,.none,.none]:List Value).getD i .none) :=
    ⟨fund_mk (st:=s_common) l0 c0 k0,
     PySem.W.mg_of X G a0,
     fund_mk (st:=s_is_whole) l1 c1 k1,
     PySem.W.mg_of X G a1,
     fund_mk (st:=s_is_fraction) l2 c2 k2,
     PySem.W.mg_of X G a2,
     fund_mk (st:=s_is_share) l3 c3 k3,
     PySem.W.mg_of X G a3,
     fund_mk (st:=s_Shade___init__) l4 c4 k4,
     fund_mk (st:=s_is_shade) l5 c5 k5,
     PySem.W.mg_of X G a5,
     fund_mk (st:=s_need_shade) l6 c6 k6,
     PySem.W.mg_of X G a6,
     fund_mk (st:=s_part_of) l7 c7 k7,
     PySem.W.mg_of X G a7,
     fund_mk (st:=s_lowest) l8 c8 k8,
     PySem.W.mg_of X G a8,
     fund_mk (st:=s_need_fractions) l9 c9 k9,
     PySem.W.mg_of X G a9,
     fund_mk (st:=s_minus) l10 c10 k10,
     PySem.W.mg_of X G a10,
     fund_mk (st:=s_plus) l11 c11 k11,
     PySem.W.mg_of X G a11,
     fund_mk (st:=s_shade_of) l12 c12 k12,
     PySem.W.mg_of X G a12,
     fund_mk (st:=s_shares_of) l13 c13 k13,
     PySem.W.mg_of X G a13,
     fund_mk (st:=s_times) l14 c14 k14,
     PySem.W.mg_of X G a14,
     fund_mk (st:=s_toward) l15 c15 k15,
     PySem.W.mg_of X G a15,
     fund_mk (st:=s_darker) l16 c16 k16,
     ⟨_,_,_,_,_,rfl,ld16⟩,
     PySem.W.mg_of X G a16,
     fund_mk (st:=s_over) l17 c17 k17,
     PySem.W.mg_of X G a17,
     fund_mk (st:=s_duller) l18 c18 k18,
     ⟨_,_,_,_,_,rfl,ld18⟩,
     PySem.W.mg_of X G a18,
     fund_mk (st:=s_lighter) l19 c19 k19,
     ⟨_,_,_,_,_,rfl,ld19⟩,
     PySem.W.mg_of X G a19,
     fund_mk (st:=s_opposite) l20 c20 k20,
     PySem.W.mg_of X G a20,
     fund_mk (st:=s_turned) l21 c21 k21,
     ⟨_,_,_,_,_,rfl,ld21⟩,
     PySem.W.mg_of X G a21,
     fund_mk (st:=s_l_asked) l22 c22 k22,
     PySem.W.mg_of X G a22,
     fund_mk (st:=s_l_pick) l23 c23 k23,
     PySem.W.mg_of X G a23,
     fund_mk (st:=s_l_low) l24 c24 k24,
     PySem.W.mg_of X G a24,
     fund_mk (st:=s_l_share) l25 c25 k25,
     PySem.W.mg_of X G a25,
     fund_mk (st:=s_l_by) l26 c26 k26,
     PySem.W.mg_of X G a26,
     fund_mk (st:=s_l_cell) l27 c27 k27,
     PySem.W.mg_of X G a27,
     fund_mk (st:=s_l_minus) l28 c28 k28,
     PySem.W.mg_of X G a28,
     fund_mk (st:=s_l_plus) l29 c29 k29,
     PySem.W.mg_of X G a29,
     fund_mk (st:=s_l_times) l30 c30 k30,
     PySem.W.mg_of X G a30,
     fund_mk (st:=s_l_deed) l31 c31 k31,
     PySem.W.mg_of X G a31,
     fund_mk (st:=s_l_whole) l32 c32 k32,
     PySem.W.mg_of X G a32,
     fund_mk (st:=s_l_is_fraction) l33 c33 k33,
     PySem.W.mg_of X G a33,
     fund_mk (st:=s_l_text) l34 c34 k34,
     PySem.W.mg_of X G a34,
     fund_mk (st:=s_Shade___eq__) l35 c35 k35,
     ⟨a35,i35,k35⟩,
     fund_mk (st:=s_figures) l36 c36 k36,
     PySem.W.mg_of X G a36,
     fund_mk (st:=s_written) l37 c37 k37,
     PySem.W.mg_of X G a37,
     fund_mk (st:=s_Shade___str__) l38 c38 k38,
     ⟨a38,i38,k38⟩,
     fund_mk (st:=s_Shade___repr__) l39 c39 k39,
     ⟨a39,i39,k39⟩,
     fund_mk (st:=s_Shade___len__) l40 c40 k40,
     ⟨a40,i40,k40⟩,
     fund_mk (st:=s_l_is) l41 c41 k41,
     PySem.W.mg_of X G a41,
     fund_mk (st:=s_l_home) l42 c42 k42,
     PySem.W.mg_of X G a42,
     fund_mk (st:=s_l_left_out) l43 c43 k43,
     PySem.W.mg_of X G a43,
     fund_mk (st:=s_l_made) l44 c44 k44,
     PySem.W.mg_of X G a44,
     fund_mk (st:=s_l_purse) l45 c45 k45,
     PySem.W.mg_of X G a45,
     fund_mk (st:=s_l_shares) l46 c46 k46,
     PySem.W.mg_of X G a46,
     fund_mk (st:=s_law) l47 c47 k47,
     PySem.W.mg_of X G a47,
     ⟨⟨pg_Shade,hd_Shade,po_Shade,sa_Shade⟩,ha_Shade,hn_Shade,ht_Shade,hm_Shade⟩,
     PySem.W.mg_of X G aC_Shade,
     ⟨mk_Shade,a4,i4,kc_Shade⟩,
     ⟨nn_Shade,no_Shade,nb_Shade⟩,
     ac (kp_Shade_NoneType) (ac (kp_Shade_bool) (ac (kp_Shade_int) (ac (kp_Shade_str) (ac (kp_Shade_list) (ac (kp_Shade_tuple) (ac (kp_Shade_dict) (an))))))),
     ac (ko_Shade_int) (ac (ko_Shade_bool) (ac (ko_Shade_tuple) (ac (ko_Shade_str) (ac (ko_Shade_list) (ac (ko_Shade_dict) (an)))))),
     na_Shade_ember,
     na_Shade_leaf,
     na_Shade_sky,
     ⟨_,_,_,_,_,PySem.W.mg_of X G cc_HALF,cl_HALF⟩,
     ⟨_,_,_,_,_,PySem.W.mg_of X G cc_ONE,cl_ONE⟩,
     ⟨tk_PIECE,PySem.W.mg_of X G cc_PIECE⟩,
     ⟨tk_PIECE_FIGURES,PySem.W.mg_of X G cc_PIECE_FIGURES⟩,
     ⟨_,_,_,_,_,PySem.W.mg_of X G cc_ZERO,cl_ZERO⟩,
     PySem.W.mg_none_of X G z_abs,
     PySem.W.mg_none_of X G z_all,
     PySem.W.mg_none_of X G z_bool,
     PySem.W.mg_none_of X G z_divmod,
     PySem.W.mg_none_of X G z_enumerate,
     PySem.W.mg_none_of X G z_int,
     PySem.W.mg_none_of X G z_isinstance,
     PySem.W.mg_none_of X G z_len,
     PySem.W.mg_none_of X G z_max,
     PySem.W.mg_none_of X G z_min,
     PySem.W.mg_none_of X G z_range,
     PySem.W.mg_none_of X G z_repr,
     PySem.W.mg_none_of X G z_str,
     PySem.W.mg_none_of X G z_tuple⟩
  refine ⟨fX "law" "law" s_law .none pm47 cd47,fun s v=>.of_eq rfl,fun base _ _=>?_⟩
  have ok:=ok_law (P:=l.prog) (w:=w) (base:=base) T
  unfold FO at ok
  rw [T_law] at ok
  exact ok.imp fun vs H Q E h=>top_of h
theorem wsd:PySem.W.OpenLaw.wellSaid PySem.Challenge.rw_lightshares_k07_deeds_of_one_shade=true:=by kernel_rfl
noncomputable abbrev hk0:PySem.W.Hook:=PySem.W.kHook K0 aK fun _=>rfl
noncomputable def mo0 (P:Params):Obj:=⟨(.type "dict"),none,.dict #[kE P "__name__" 165 (.str "lightshares.errors" 187),kE P "__doc__" 166 .none,kE P "__package__" 167 .none,kE P "__loader__" 168 (.builtin "__main__.__loader__#opaque"),kE P "__spec__" 169 .none,kE P "__annotations__" 170 (.ref 6),kE P "__builtins__" 171 (.ref 4),kE P "__file__" 173 (.str "/claim/cut.py" 172),kE P "__cached__" 174 .none,kE P "ShadeError" 206 (.ref 24),kE P "NoNumber" 231 (.ref 44),kE P "NoShade" 256 (.ref 63),kE P "NoPart" 281 (.ref 82)] 13, #[]⟩
noncomputable def M1:Obj:=oT []
noncomputable def M2:Obj:=oL [iV 2,iV 0,.ref 20,iV 4,iV 0,.ref 33,iV 9,iV 0,.ref 52,iV 14,iV 0,.ref 71]
noncomputable def M3:Obj:=oC [.str "<module>" 182,.str "<module>" 183,fC 184,iV 1,iV 0,iV 0,iV 0,iV 0,.ref 11,.bool false,iV 181,.ref 12,.none,.none,.none,.none,iV 185,iV 1,fC 186]
noncomputable def M4:Obj:=oR 13 3 (.str "__main__" 164)
noncomputable def M5:Obj:=oT [.type "ValueError"]
noncomputable def M6:Obj:=oB "type.__prepare__" (.type "type")
noncomputable def mo7 (P:Params):Obj:=⟨(.type "dict"),none,.dict #[kE P "__module__" 196 (.str "lightshares.errors" 187),kE P "__qualname__" 198 (.str "ShadeError" 197),kE P "__firstlineno__" 200 (.int 2 199),kE P "__static_attributes__" 201 (.ref 22)] 4, #[]⟩
noncomputable def M8:Obj:=oL []
noncomputable def M9:Obj:=oC [.str "ShadeError" 191,.str "ShadeError" 192,fC 193,iV 2,iV 0,iV 0,iV 0,iV 0,.ref 18,.bool false,iV 181,.ref 19,.none,.none,.none,.none,iV 194,iV 2,fC 195]
noncomputable def M10:Obj:=oR 20 17 (.str "lightshares.errors" 187)
noncomputable def M11:Obj:=⟨(.type "getset_descriptor"),none,.fields #[(.str "__weakref__" 202),(.ref 24),(.builtin "ExceptionGroup.__weakref__"),.none], #[]⟩
noncomputable def M12:Obj:=oS 24
noncomputable def M13:Obj:=oB "object.__init_subclass__" (.ref 24)
noncomputable def M14:Obj:=oT [.ref 24]
noncomputable def mo15 (P:Params):Obj:=⟨(.type "dict"),none,.dict #[kE P "__module__" 214 (.str "lightshares.errors" 187),kE P "__qualname__" 216 (.str "NoNumber" 215),kE P "__firstlineno__" 218 (.int 4 217),kE P "__init__" 226 (.ref 41),kE P "__static_attributes__" 228 (.ref 42)] 5, #[]⟩
noncomputable def M16:Obj:=oL [iV 6,iV 4,.ref 40]
noncomputable def M17:Obj:=oC [.str "NoNumber" 209,.str "NoNumber" 210,fC 211,iV 4,iV 0,iV 0,iV 0,iV 0,.ref 31,.bool false,iV 181,.ref 32,.none,.none,.none,.none,iV 212,iV 4,fC 213]
noncomputable def M18:Obj:=oR 33 30 (.str "lightshares.errors" 187)
noncomputable def M19:Obj:=oT [.str "self" 222,.str "place" 223]
noncomputable def M20:Obj:=oN "__init__" "NoNumber.__init__" (inClass (top 2) 0)
noncomputable def M21:Obj:=oC [.str "__init__" 219,.str "NoNumber.__init__" 220,fC 221,iV 6,iV 2,iV 0,iV 0,iV 3,.ref 35,.bool true,iV 181,.ref 36,.none,.ref 37,.ref 38,.ref 39,iV 224,iV 6,fC 225]
noncomputable def M22:Obj:=oF "__init__" "NoNumber.__init__" (inClass (top 2) 0) .none (.str "lightshares.errors" 187) 40
noncomputable def M23:Obj:=oT [.str "place" 227]
noncomputable def M24:Obj:=oS 44
noncomputable def M25:Obj:=oB "object.__init_subclass__" (.ref 44)
noncomputable def mo26 (P:Params):Obj:=⟨(.type "dict"),none,.dict #[kE P "__module__" 239 (.str "lightshares.errors" 187),kE P "__qualname__" 241 (.str "NoShade" 240),kE P "__firstlineno__" 243 (.int 9 242),kE P "__init__" 251 (.ref 60),kE P "__static_attributes__" 253 (.ref 61)] 5, #[]⟩
noncomputable def M27:Obj:=oL [iV 11,iV 4,.ref 59]
noncomputable def M28:Obj:=oC [.str "NoShade" 234,.str "NoShade" 235,fC 236,iV 9,iV 0,iV 0,iV 0,iV 0,.ref 50,.bool false,iV 181,.ref 51,.none,.none,.none,.none,iV 237,iV 9,fC 238]
noncomputable def M29:Obj:=oR 52 49 (.str "lightshares.errors" 187)
noncomputable def M30:Obj:=oT [.str "self" 247,.str "light" 248]
noncomputable def M31:Obj:=oN "__init__" "NoShade.__init__" (inClass (top 3) 0)
noncomputable def M32:Obj:=oC [.str "__init__" 244,.str "NoShade.__init__" 245,fC 246,iV 11,iV 2,iV 0,iV 0,iV 3,.ref 54,.bool true,iV 181,.ref 55,.none,.ref 56,.ref 57,.ref 58,iV 249,iV 11,fC 250]
noncomputable def M33:Obj:=oF "__init__" "NoShade.__init__" (inClass (top 3) 0) .none (.str "lightshares.errors" 187) 59
noncomputable def M34:Obj:=oT [.str "light" 252]
noncomputable def M35:Obj:=oS 63
noncomputable def M36:Obj:=oB "object.__init_subclass__" (.ref 63)
noncomputable def mo37 (P:Params):Obj:=⟨(.type "dict"),none,.dict #[kE P "__module__" 264 (.str "lightshares.errors" 187),kE P "__qualname__" 266 (.str "NoPart" 265),kE P "__firstlineno__" 268 (.int 14 267),kE P "__init__" 276 (.ref 79),kE P "__static_attributes__" 278 (.ref 80)] 5, #[]⟩
noncomputable def M38:Obj:=oL [iV 16,iV 4,.ref 78]
noncomputable def M39:Obj:=oC [.str "NoPart" 259,.str "NoPart" 260,fC 261,iV 14,iV 0,iV 0,iV 0,iV 0,.ref 69,.bool false,iV 181,.ref 70,.none,.none,.none,.none,iV 262,iV 14,fC 263]
noncomputable def M40:Obj:=oR 71 68 (.str "lightshares.errors" 187)
noncomputable def M41:Obj:=oT [.str "self" 272,.str "part" 273]
noncomputable def M42:Obj:=oN "__init__" "NoPart.__init__" (inClass (top 4) 0)
noncomputable def M43:Obj:=oC [.str "__init__" 269,.str "NoPart.__init__" 270,fC 271,iV 16,iV 2,iV 0,iV 0,iV 3,.ref 73,.bool true,iV 181,.ref 74,.none,.ref 75,.ref 76,.ref 77,iV 274,iV 16,fC 275]
noncomputable def M44:Obj:=oF "__init__" "NoPart.__init__" (inClass (top 4) 0) .none (.str "lightshares.errors" 187) 78
noncomputable def M45:Obj:=oT [.str "part" 277]
noncomputable def M46:Obj:=oS 82
noncomputable def M47:Obj:=oB "object.__init_subclass__" (.ref 82)
noncomputable def mo48 (P:Params):Obj:=⟨(.type "dict"),none,.dict #[kE P "__name__" 165 (.str "lightshares.shades" 386),kE P "__doc__" 166 .none,kE P "__package__" 167 .none,kE P "__loader__" 168 (.builtin "__main__.__loader__#opaque"),kE P "__spec__" 169 .none,kE P "__annotations__" 170 (.ref 6),kE P "__builtins__" 171 (.ref 4),kE P "__file__" 173 (.str "/claim/cut.py" 172),kE P "__cached__" 174 .none,kE P "ShadeError" 206 (.ref 24),kE P "NoNumber" 231 (.ref 44),kE P "NoShade" 256 (.ref 63),kE P "NoPart" 281 (.ref 82),kE P "ZERO" 286 (.ref 85),kE P "ONE" 289 (.ref 86),kE P "PIECE_FIGURES" 291 (.int 64 290),kE P "PIECE" 295 (.int 10000000000000000000000000000000000000000000000000000000000000000 294),kE P "is_whole" 302 (.ref 93),kE P "common" 310 (.ref 100),kE P "is_fraction" 319 (.ref 107),kE P "lowest" 328 (.ref 114),kE P "need_fractions" 337 (.ref 121),kE P "plus" 345 (.ref 128),kE P "minus" 353 (.ref 135),kE P "times" 361 (.ref 142),kE P "over" 369 (.ref 149),kE P "figures" 378 (.ref 156),kE P "written" 385 (.ref 163),kE P "is_share" 394 (.ref 170),kE P "Shade" 457 (.ref 211),kE P "is_shade" 464 (.ref 222),kE P "need_shade" 471 (.ref 229),kE P "shares_of" 478 (.ref 236)] 33, #[]⟩
noncomputable def M49:Obj:=oL [iV 2,iV 0,.ref 20,iV 4,iV 0,.ref 33,iV 9,iV 0,.ref 52,iV 14,iV 0,.ref 71,iV 24,iV 0,.ref 92,iV 26,iV 0,.ref 99,iV 30,iV 0,.ref 106,iV 35,iV 0,.ref 113,iV 40,iV 0,.ref 120,iV 44,iV 0,.ref 127,iV 47,iV 0,.ref 134,iV 50,iV 0,.ref 141,iV 53,iV 0,.ref 148,iV 58,iV 0,.ref 155,iV 65,iV 0,.ref 162,iV 70,iV 0,.ref 169,iV 72,iV 0,.ref 176,iV 93,iV 0,.ref 221,iV 95,iV 0,.ref 228,iV 98,iV 0,.ref 235]
noncomputable def M50:Obj:=oT [.str "thing" 299]
noncomputable def M51:Obj:=oN "is_whole" "is_whole" s_is_whole
noncomputable def M52:Obj:=oT [.str "one" 306,.str "other" 307]
noncomputable def M53:Obj:=oN "common" "common" s_common
noncomputable def M54:Obj:=oT [.str "thing" 314,.str "top" 315,.str "bottom" 316]
noncomputable def M55:Obj:=oN "is_fraction" "is_fraction" s_is_fraction
noncomputable def M56:Obj:=oT [.str "top" 323,.str "bottom" 324,.str "shared" 325]
noncomputable def M57:Obj:=oN "lowest" "lowest" s_lowest
noncomputable def M58:Obj:=oT [.str "things" 332,.str "place" 333,.str "thing" 334]
noncomputable def M59:Obj:=oN "need_fractions" "need_fractions" s_need_fractions
noncomputable def M60:Obj:=oT [.str "one" 341,.str "other" 342]
noncomputable def M61:Obj:=oN "plus" "plus" s_plus
noncomputable def M62:Obj:=oT [.str "one" 349,.str "other" 350]
noncomputable def M63:Obj:=oN "minus" "minus" s_minus
noncomputable def M64:Obj:=oT [.str "one" 357,.str "other" 358]
noncomputable def M65:Obj:=oN "times" "times" s_times
noncomputable def M66:Obj:=oT [.str "one" 365,.str "other" 366]
noncomputable def M67:Obj:=oN "over" "over" s_over
noncomputable def M68:Obj:=oT [.str "number" 373,.str "pieces" 374,.str "piece" 375]
noncomputable def M69:Obj:=oN "figures" "figures" s_figures
noncomputable def M70:Obj:=oT [.str "one" 382]
noncomputable def M71:Obj:=oN "written" "written" s_written
noncomputable def M72:Obj:=oT [.str "thing" 391]
noncomputable def M73:Obj:=oN "is_share" "is_share" s_is_share
noncomputable def mo74 (P:Params):Obj:=⟨(.type "dict"),none,.dict #[kE P "__module__" 402 (.str "lightshares.shades" 386),kE P "__qualname__" 404 (.str "Shade" 403),kE P "__firstlineno__" 406 (.int 72 405),kE P "__init__" 418 (.ref 184),kE P "__eq__" 426 (.ref 191),kE P "__len__" 432 (.ref 196),kE P "__str__" 438 (.ref 201),kE P "__repr__" 445 (.ref 208),kE P "__static_attributes__" 449 (.ref 209)] 9, #[]⟩
noncomputable def M75:Obj:=oL [iV 74,iV 4,.ref 183,iV 82,iV 4,.ref 190,iV 85,iV 4,.ref 195,iV 88,iV 4,.ref 200,iV 91,iV 4,.ref 207]
noncomputable def M76:Obj:=oC [.str "Shade" 397,.str "Shade" 398,fC 399,iV 72,iV 0,iV 0,iV 0,iV 0,.ref 174,.bool false,iV 181,.ref 175,.none,.none,.none,.none,iV 400,iV 72,fC 401]
noncomputable def M77:Obj:=oR 176 173 (.str "lightshares.shades" 386)
noncomputable def M78:Obj:=oT [.str "self" 410,.str "ember" 411,.str "leaf" 412,.str "sky" 413,.str "light" 414,.str "share" 415]
noncomputable def M79:Obj:=oN "__init__" "Shade.__init__" s_Shade___init__
noncomputable def M80:Obj:=oT [.str "self" 422,.str "other" 423]
noncomputable def M81:Obj:=oN "__eq__" "Shade.__eq__" s_Shade___eq__
noncomputable def M82:Obj:=oN "__len__" "Shade.__len__" s_Shade___len__
noncomputable def M83:Obj:=oN "__str__" "Shade.__str__" s_Shade___str__
noncomputable def M84:Obj:=oT [.str "self" 442]
noncomputable def M85:Obj:=oN "__repr__" "Shade.__repr__" s_Shade___repr__
noncomputable def M86:Obj:=oT [.str "ember" 446,.str "leaf" 447,.str "sky" 448]
noncomputable def M87:Obj:=⟨(.type "getset_descriptor"),none,.fields #[(.str "__dict__" 450),(.ref 211),(.builtin "function.__dict__"),(.builtin "function.__dict__#set")], #[]⟩
noncomputable def M88:Obj:=⟨(.type "getset_descriptor"),none,.fields #[(.str "__weakref__" 452),(.ref 211),(.builtin "ExceptionGroup.__weakref__"),.none], #[]⟩
noncomputable def M89:Obj:=oS 211
noncomputable def M90:Obj:=oB "object.__init_subclass__" (.ref 211)
noncomputable def M91:Obj:=oT [.str "thing" 461]
noncomputable def M92:Obj:=oN "is_shade" "is_shade" s_is_shade
noncomputable def M93:Obj:=oT [.str "thing" 468]
noncomputable def M94:Obj:=oN "need_shade" "need_shade" s_need_shade
noncomputable def M95:Obj:=oT [.str "shade" 475]
noncomputable def M96:Obj:=oN "shares_of" "shares_of" s_shares_of
noncomputable def M97:Obj:=oL [iV 2,iV 0,.ref 20,iV 4,iV 0,.ref 33,iV 9,iV 0,.ref 52,iV 14,iV 0,.ref 71,iV 24,iV 0,.ref 92,iV 26,iV 0,.ref 99,iV 30,iV 0,.ref 106,iV 35,iV 0,.ref 113,iV 40,iV 0,.ref 120,iV 44,iV 0,.ref 127,iV 47,iV 0,.ref 134,iV 50,iV 0,.ref 141,iV 53,iV 0,.ref 148,iV 58,iV 0,.ref 155,iV 65,iV 0,.ref 162,iV 70,iV 0,.ref 169,iV 72,iV 0,.ref 176,iV 93,iV 0,.ref 221,iV 95,iV 0,.ref 228,iV 98,iV 0,.ref 235,iV 101,iV 0,.ref 242,iV 106,iV 0,.ref 250,iV 112,iV 0,.ref 255,iV 114,iV 0,.ref 263,iV 117,iV 0,.ref 271,iV 120,iV 0,.ref 279,iV 125,iV 0,.ref 285,iV 133,iV 0,.ref 290,iV 136,iV 0,.ref 297,iV 143,iV 0,.ref 304,iV 145,iV 0,.ref 311,iV 154,iV 0,.ref 318,iV 156,iV 0,.ref 325,iV 163,iV 0,.ref 332,iV 165,iV 0,.ref 339,iV 167,iV 0,.ref 346,iV 169,iV 0,.ref 353,iV 173,iV 0,.ref 360,iV 175,iV 0,.ref 367,iV 179,iV 0,.ref 372,iV 187,iV 0,.ref 379,iV 191,iV 0,.ref 384,iV 208,iV 0,.ref 391,iV 214,iV 0,.ref 396,iV 224,iV 0,.ref 403,iV 234,iV 0,.ref 408,iV 238,iV 0,.ref 415,iV 244,iV 0,.ref 422]
noncomputable def M98:Obj:=oT [.str "shares" 482,.str "ember" 483,.str "leaf" 484,.str "sky" 485]
noncomputable def M99:Obj:=oN "shade_of" "shade_of" s_shade_of
noncomputable def M100:Obj:=oT [.str "by" 497]
noncomputable def M101:Obj:=oN "part_of" "part_of" s_part_of
noncomputable def M102:Obj:=oN "toward" "toward" s_toward
noncomputable def M103:Obj:=oT [.str "shade" 510,.str "by" 511]
noncomputable def M104:Obj:=oN "lighter" "lighter" s_lighter
noncomputable def M105:Obj:=oT [.str "shade" 518,.str "by" 519]
noncomputable def M106:Obj:=oN "darker" "darker" s_darker
noncomputable def M107:Obj:=oT [.str "shade" 526,.str "by" 527,.str "part" 528,.str "together" 529]
noncomputable def M108:Obj:=oN "duller" "duller" s_duller
noncomputable def M109:Obj:=oN "turned" "turned" s_turned
noncomputable def M110:Obj:=oN "opposite" "opposite" s_opposite
noncomputable def M111:Obj:=oT [.str "_law_script" 550,.str "_law_k" 551,.str "_law_state" 552,.str "_law_cell_here" 553]
noncomputable def M112:Obj:=oN "_law_cell" "_law_cell" s_l_cell
noncomputable def M113:Obj:=oT [.str "_law_cell_here" 560]
noncomputable def M114:Obj:=oN "_law_purse" "_law_purse" s_l_purse
noncomputable def M115:Obj:=oT [.str "_law_purse_here" 567,.str "_law_many" 568,.str "_law_state" 569,.str "_law_taken" 570]
noncomputable def M116:Obj:=oN "_law_pick" "_law_pick" s_l_pick
noncomputable def M117:Obj:=oT [.str "_law_thing" 577]
noncomputable def M118:Obj:=oN "_law_whole" "_law_whole" s_l_whole
noncomputable def M119:Obj:=oT [.str "_law_top" 584,.str "_law_bottom" 585,.str "_law_one" 586,.str "_law_other" 587]
noncomputable def M120:Obj:=oN "_law_low" "_law_low" s_l_low
noncomputable def M121:Obj:=oT [.str "_law_a" 594,.str "_law_b" 595]
noncomputable def M122:Obj:=oN "_law_plus" "_law_plus" s_l_plus
noncomputable def M123:Obj:=oT [.str "_law_a" 602,.str "_law_b" 603]
noncomputable def M124:Obj:=oN "_law_minus" "_law_minus" s_l_minus
noncomputable def M125:Obj:=oT [.str "_law_a" 610,.str "_law_b" 611]
noncomputable def M126:Obj:=oN "_law_times" "_law_times" s_l_times
noncomputable def M127:Obj:=oT [.str "_law_thing" 618]
noncomputable def M128:Obj:=oN "_law_is_fraction" "_law_is_fraction" s_l_is_fraction
noncomputable def M129:Obj:=oT [.str "_law_a" 625]
noncomputable def M130:Obj:=oN "_law_text" "_law_text" s_l_text
noncomputable def M131:Obj:=oT [.str "_law_purse_here" 632,.str "_law_way" 633,.str "_law_bottom" 634]
noncomputable def M132:Obj:=oN "_law_share" "_law_share" s_l_share
noncomputable def M133:Obj:=oN "_law_shares" "_law_shares" s_l_shares
noncomputable def M134:Obj:=oT [.str "_law_purse_here" 647,.str "_law_row" 648]
noncomputable def M135:Obj:=oN "_law_made" "_law_made" s_l_made
noncomputable def M136:Obj:=oN "_law_deed" "_law_deed" s_l_deed
noncomputable def M137:Obj:=oT [.str "_law_purse_here" 661,.str "_law_word" 662,.str "_law_way" 663,.str "_law_some" 664]
noncomputable def M138:Obj:=oN "_law_by" "_law_by" s_l_by
noncomputable def M139:Obj:=oN "_law_is" "_law_is" s_l_is
noncomputable def M140:Obj:=oT [.str "_law_word" 677,.str "_law_one" 678,.str "_law_amount" 679,.str "_law_way" 680]
noncomputable def M141:Obj:=oN "_law_asked" "_law_asked" s_l_asked
noncomputable def M142:Obj:=oN "_law_left_out" "_law_left_out" s_l_left_out
noncomputable def M143:Obj:=oT [.str "_law_one" 693,.str "_law_row" 694,.str "_law_amount" 695]
noncomputable def M144:Obj:=oN "_law_home" "_law_home" s_l_home
noncomputable def M145:Obj:=oT [.str "_law_script" 702,.str "_law_words" 703,.str "_law_k" 704,.str "_law_purse_here" 705,.str "_law_row" 706,.str "_law_one" 707,.str "_law_word" 708,.str "_law_amount" 709,.str "_law_way" 710,.str "_law_told" 711,.str "_law_black" 712]
noncomputable def M146:Obj:=oN "law" "law" s_law
noncomputable abbrev pW:Program:=PySem.Challenge.pw_lightshares_k07_deeds_of_one_shade
noncomputable abbrev bdy:List Stmt:=PySem.W.behindTheImports pW
noncomputable abbrev env0:Env:={ scope:=pW.main.scope,locals:=mainNs,globals:=mainNs,cells:=[],code:=(.ref 13),frame:=some 14 }
noncomputable abbrev cE0:Code:=.body bdy env0
noncomputable abbrev B0:List Frame:=[PySem.W.topFrame ⟨0,0,0,0⟩]
noncomputable abbrev S0 (w:World) (os:OsState):Shared:=⟨PySem.W.boot_heap w.params,Array.mk [],PySem.W.boot_drawn,PySem.W.boot_toks,os⟩
theorem h_op:∀ w:World,(PySem.W.fencedOpening treeTable pW w 5452).map (fun s=>(s.heap,s.gens,s.drawn,s.toks))=some (PySem.W.boot_heap w.params,Array.mk [],PySem.W.boot_drawn,PySem.W.boot_toks):=PySem.W.boot_open (by rfl) (by decide) (fun _=>by rfl)
theorem h_sz:∀ w:World,((PySem.W.boot_heap w.params).isNs mainGlobals && (Array.mk []:Array GenState).size == 0,(PySem.W.boot_heap w.params).objs.size,(PySem.W.boot_heap w.params).nsMap mainGlobals "__annotations__")=(true,11,(some (.ref 6))):=by
  intro w
  kernel_rfl
noncomputable def Sa (w:World) (os:OsState):Shared:=oneOf (PySem.W.topGo treeTable pW w 11 (some (.ref 6)) 12 (S0 w os) (PySem.W.topStub pW)) (S0 w os)
theorem h_pre:∀ (w:World) (os:OsState),PySem.W.topGo treeTable pW w 11 (some (.ref 6)) 12 (S0 w os) (PySem.W.topStub pW)=some (Sa w os,⟨denote treeTable cE0,cE0,⟨0,0,0,0⟩,B0⟩):=by
  intro w os
  kernel_rfl
noncomputable def Sb (w:World) (os:OsState):Shared:=twoOf (PySem.W.segRun treeTable pW w 11 (some (.ref 6)) 1 1 (Sa w os) (PySem.W.blockOf bdy env0 cE0 ⟨0,0,0,0⟩ B0)) (S0 w os)
theorem h_blk:∀ (w:World) (os:OsState),PySem.W.segRun treeTable pW w 11 (some (.ref 6)) 1 1 (Sa w os) (PySem.W.blockOf bdy env0 cE0 ⟨0,0,0,0⟩ B0)=some (.next,Sb w os,cE0,⟨0,0,0,0⟩):=by
  intro w os
  kernel_rfl
noncomputable def hm0 (P:Params):Heap:=⟨#[PySem.W.boot_o_0 P,PySem.W.boot_o_1 P,PySem.W.boot_o_2 P,mo0 P,PySem.W.boot_o_4 P,PySem.W.boot_o_5 P,PySem.W.boot_o_6 P,PySem.W.boot_o_7 P,PySem.W.boot_o_8 P,PySem.W.boot_o_9 P,PySem.W.boot_o_10 P,M1,M2,M3,M4,M5,M6,mo7 P,M1,M8,M9,M10,M1,ko23 P,ko24 P,M11,M12,M13,M14,M6,mo15 P,M1,M16,M17,M18,M1,M8,M19,M1,M20,M21,M22,M23,ko43 P,ko44 P,M24,M25,M14,M6,mo26 P,M1,M27,M28,M29,M1,M8,M30,M1,M31,M32,M33,M34,ko62 P,ko63 P,M35,M36,M14,M6,mo37 P,M1,M38,M39,M40,M1,M8,M41,M1,M42,M43,M44,M45,ko81 P,ko82 P,M46,M47],(PySem.W.boot_heap P).life⟩
noncomputable abbrev Sm0 (w:World) (os:OsState):Shared:=⟨hm0 w.params,Array.mk [],PySem.W.boot_drawn,282,os⟩
noncomputable abbrev l0:List Stmt:=bdy.take 5
noncomputable abbrev r0:List Stmt:=bdy.drop 5
theorem h_a0:∀ (w:World) (os:OsState),PySem.W.segRun treeTable pW w 11 (some (.ref 6)) 1 931 (Sb w os) (PySem.W.piecesOf l0 env0 cE0 ⟨0,0,0,0⟩ B0)=some (.next,Sm0 w os,cE0,⟨14,0,18,24⟩):=by
  intro w os
  kernel_rfl
noncomputable def hm1 (P:Params):Heap:=⟨#[PySem.W.boot_o_0 P,PySem.W.boot_o_1 P,PySem.W.boot_o_2 P,mo48 P,PySem.W.boot_o_4 P,PySem.W.boot_o_5 P,PySem.W.boot_o_6 P,PySem.W.boot_o_7 P,PySem.W.boot_o_8 P,PySem.W.boot_o_9 P,PySem.W.boot_o_10 P,M1,M49,M3,M4,M5,M6,mo7 P,M1,M8,M9,M10,M1,ko23 P,ko24 P,M11,M12,M13,M14,M6,mo15 P,M1,M16,M17,M18,M1,M8,M19,M1,M20,M21,M22,M23,ko43 P,ko44 P,M24,M25,M14,M6,mo26 P,M1,M27,M28,M29,M1,M8,M30,M1,M31,M32,M33,M34,ko62 P,ko63 P,M35,M36,M14,M6,mo37 P,M1,M38,M39,M40,M1,M8,M41,M1,M42,M43,M44,M45,ko81 P,ko82 P,M46,M47,ko85 P,ko86 P,M1,M8,M50,M1,M51,ko92 P,ko93 P,M1,M8,M52,M1,M53,ko99 P,ko100 P,M1,M8,M54,M1,M55,ko106 P,ko107 P,M1,M8,M56,M1,M57,ko113 P,ko114 P,M1,M8,M58,M1,M59,ko120 P,ko121 P,M1,M8,M60,M1,M61,ko127 P,ko128 P,M1,M8,M62,M1,M63,ko134 P,ko135 P,M1,M8,M64,M1,M65,ko141 P,ko142 P,M1,M8,M66,M1,M67,ko148 P,ko149 P,M1,M8,M68,M1,M69,ko155 P,ko156 P,M1,M8,M70,M1,M71,ko162 P,ko163 P,M1,M8,M72,M1,M73,ko169 P,ko170 P,M1,M6,mo74 P,M1,M75,M76,M77,M1,M8,M78,M1,M79,ko183 P,ko184 P,M1,M8,M80,M1,M81,ko190 P,ko191 P,M1,M8,M82,ko195 P,ko196 P,M1,M8,M83,ko200 P,ko201 P,M1,M8,M84,M1,M85,ko207 P,ko208 P,M86,ko210 P,ko211 P,M87,M88,M89,M90,M1,M8,M91,M1,M92,ko221 P,ko222 P,M1,M8,M93,M1,M94,ko228 P,ko229 P,M1,M8,M95,M1,M96,ko235 P,ko236 P],(PySem.W.boot_heap P).life⟩
noncomputable abbrev Sm1 (w:World) (os:OsState):Shared:=⟨hm1 w.params,Array.mk [],PySem.W.boot_drawn,479,os⟩
noncomputable abbrev l1:List Stmt:=r0.take 22
noncomputable abbrev r1:List Stmt:=r0.drop 22
theorem h_a1:∀ (w:World) (os:OsState),PySem.W.segRun treeTable pW w 11 (some (.ref 6)) 1 868 (Sm0 w os) (PySem.W.piecesOf l1 env0 cE0 ⟨14,0,18,24⟩ B0)=some (.next,Sm1 w os,cE0,⟨98,0,100,47⟩):=by
  intro w os
  kernel_rfl
noncomputable def hm2 (P:Params):Heap:=⟨#[PySem.W.boot_o_0 P,PySem.W.boot_o_1 P,PySem.W.boot_o_2 P,ko3 P,PySem.W.boot_o_4 P,PySem.W.boot_o_5 P,PySem.W.boot_o_6 P,PySem.W.boot_o_7 P,PySem.W.boot_o_8 P,PySem.W.boot_o_9 P,PySem.W.boot_o_10 P,M1,M97,M3,M4,M5,M6,mo7 P,M1,M8,M9,M10,M1,ko23 P,ko24 P,M11,M12,M13,M14,M6,mo15 P,M1,M16,M17,M18,M1,M8,M19,M1,M20,M21,M22,M23,ko43 P,ko44 P,M24,M25,M14,M6,mo26 P,M1,M27,M28,M29,M1,M8,M30,M1,M31,M32,M33,M34,ko62 P,ko63 P,M35,M36,M14,M6,mo37 P,M1,M38,M39,M40,M1,M8,M41,M1,M42,M43,M44,M45,ko81 P,ko82 P,M46,M47,ko85 P,ko86 P,M1,M8,M50,M1,M51,ko92 P,ko93 P,M1,M8,M52,M1,M53,ko99 P,ko100 P,M1,M8,M54,M1,M55,ko106 P,ko107 P,M1,M8,M56,M1,M57,ko113 P,ko114 P,M1,M8,M58,M1,M59,ko120 P,ko121 P,M1,M8,M60,M1,M61,ko127 P,ko128 P,M1,M8,M62,M1,M63,ko134 P,ko135 P,M1,M8,M64,M1,M65,ko141 P,ko142 P,M1,M8,M66,M1,M67,ko148 P,ko149 P,M1,M8,M68,M1,M69,ko155 P,ko156 P,M1,M8,M70,M1,M71,ko162 P,ko163 P,M1,M8,M72,M1,M73,ko169 P,ko170 P,M1,M6,mo74 P,M1,M75,M76,M77,M1,M8,M78,M1,M79,ko183 P,ko184 P,M1,M8,M80,M1,M81,ko190 P,ko191 P,M1,M8,M82,ko195 P,ko196 P,M1,M8,M83,ko200 P,ko201 P,M1,M8,M84,M1,M85,ko207 P,ko208 P,M86,ko210 P,ko211 P,M87,M88,M89,M90,M1,M8,M91,M1,M92,ko221 P,ko222 P,M1,M8,M93,M1,M94,ko228 P,ko229 P,M1,M8,M95,M1,M96,ko235 P,ko236 P,M1,M8,M98,M1,M99,ko242 P,ko243 P,ko244 P,M1,M8,M100,M1,M101,ko250 P,ko251 P,M1,M8,M102,ko255 P,ko256 P,ko281 P,M1,M8,M103,M1,M104,ko263 P,ko264 P,ko281 P,M1,M8,M105,M1,M106,ko271 P,ko272 P,ko281 P,M1,M8,M107,M1,M108,ko279 P,ko280 P,ko281 P,M1,M8,M109,ko285 P,ko286 P,M1,M8,M110,ko290 P,ko291 P,M1,M8,M111,M1,M112,ko297 P,ko298 P,M1,M8,M113,M1,M114,ko304 P,ko305 P,M1,M8,M115,M1,M116,ko311 P,ko312 P,M1,M8,M117,M1,M118,ko318 P,ko319 P,M1,M8,M119,M1,M120,ko325 P,ko326 P,M1,M8,M121,M1,M122,ko332 P,ko333 P,M1,M8,M123,M1,M124,ko339 P,ko340 P,M1,M8,M125,M1,M126,ko346 P,ko347 P,M1,M8,M127,M1,M128,ko353 P,ko354 P,M1,M8,M129,M1,M130,ko360 P,ko361 P,M1,M8,M131,M1,M132,ko367 P,ko368 P,M1,M8,M133,ko372 P,ko373 P,M1,M8,M134,M1,M135,ko379 P,ko380 P,M1,M8,M136,ko384 P,ko385 P,M1,M8,M137,M1,M138,ko391 P,ko392 P,M1,M8,M139,ko396 P,ko397 P,M1,M8,M140,M1,M141,ko403 P,ko404 P,M1,M8,M142,ko408 P,ko409 P,M1,M8,M143,M1,M144,ko415 P,ko416 P,M1,M8,M145,M1,M146,ko422 P,ko423 P],(PySem.W.boot_heap P).life⟩
noncomputable abbrev Sm2 (w:World) (os:OsState):Shared:=⟨hm2 w.params,Array.mk [],PySem.W.boot_drawn,716,os⟩
noncomputable abbrev l2:List Stmt:=r1.take 31
noncomputable abbrev r2:List Stmt:=r1.drop 31
theorem h_a2:∀ (w:World) (os:OsState),PySem.W.segRun treeTable pW w 11 (some (.ref 6)) 1 867 (Sm1 w os) (PySem.W.piecesOf l2 env0 cE0 ⟨98,0,100,47⟩ B0)=some (.next,Sm2 w os,cE0,⟨244,0,265,85⟩):=by
  intro w os
  kernel_rfl
theorem h_end:∀ (w:World) (os:OsState),(PySem.W.topRun treeTable pW w 11 (some (.ref 6)) 21 (Sm2 w os) (PySem.W.restOf r2 env0 cE0 ⟨244,0,265,85⟩ B0)).map (fun s₁=>(PySem.W.staticsOk (importedModules pW.main.body) (PySem.W.boot_heap w.params) s₁.heap && PySem.W.namesBound pW s₁.heap && PySem.W.gensDone s₁ && PySem.W.laidKept (PySem.W.boot_heap w.params) s₁.heap,PySem.W.openSeen qv lo (importedModules pW.main.body) (fun s=>PySem.W.recOk [] s) true s₁,hk0.obs s₁))=some (true,PySem.W.openGood qv lo,hk0.val w):=by
  intro w os
  kernel_rfl
theorem hlt:PySem.W.LeftO PySem.Challenge.pw_lightshares_k07_deeds_of_one_shade qv lo (fun s=>PySem.W.recOk [] s) hk0.obs hk0.val 5452:=by
  refine L3.left2 (M:=12 + (1 + (931 + (868 + (867 + 21))))) h_op h_sz (by decide) fun w os=>?_
  obtain ⟨s₁,e,h⟩:=Option.map_eq_some_iff.mp (h_end w os)
  refine ⟨s₁,PySem.W.go_top (h_pre w os) (PySem.W.piece_block (h_blk w os) ?_),h⟩
  rw [show bdy=l0 ++ r0 from (List.take_append_drop _ _).symm]
  refine PySem.W.piece_app (h_a0 w os) ?_
  rw [show r0=l1 ++ r1 from (List.take_append_drop _ _).symm]
  refine PySem.W.piece_app (h_a1 w os) ?_
  rw [show r1=l2 ++ r2 from (List.take_append_drop _ _).symm]
  refine PySem.W.piece_app (h_a2 w os) ?_
  exact e
end My
open PySem PySem.W PyProof.Rows
set_option maxRecDepth 100000 in
set_option maxHeartbeats 0 in
theorem PySem.Challenge.cw_lightshares_k07_deeds_of_one_shade_holds : PySem.Challenge.rw_lightshares_k07_deeds_of_one_shade.Holds := by
  w_on
  refine PySem.W.holds_law My.wsd fun said=>?_
  refine PySem.W.holds_open (q:=My.qv) (loose:=My.lo) (N:=5452) (XP:=fun _ _=>True)
    (Xt:=fun s=>PySem.W.recOk [] s)
    (Yf:=My.hk0.obs) (Ya:=My.hk0.val) (YP:=My.hk0.says)
    My.hlt My.hk0.of My.hk0.keeps
    (fun _ _=>trivial) (fun _ _ _ _ _=>trivial) (by rfl) (by rfl) (by rfl)
    (fun s e=>PySem.W.recFacts_of e) (by rfl) (by assumption) (by decide +kernel)
    ⟨rfl,rfl,rfl,rfl,rfl,by decide +kernel⟩ ?hw ?hc
  case hw=>w_witness2
  refine L2.walk_ofK (K:=My.K0) (l:=PySem.Challenge.rw_lightshares_k07_deeds_of_one_shade) (n:=63) (k:=20) (x:="_law_script") (CX:=L2.CX0) (sp:=L3.spTop)
    rfl (by decide) rfl ⟨rfl,by decide,by decide,fun _=>rfl⟩ (fun w h Y=>PySem.W.kIn_of Y) ?F (fun K H a ns hl hO hS=>L3.law_start hl hO hS) (fun _ _ _ _ z=>z)
  case F =>
    intro w mg fa h KX G hmg
    refine' My.all_mk (C_Shade:=211)
      (f0:=100) (pm0:=(.str "lightshares.fractions" 282)) (cd0:=(.ref 99))
      (f1:=93) (pm1:=(.str "lightshares.fractions" 282)) (cd1:=(.ref 92))
      (f2:=107) (pm2:=(.str "lightshares.fractions" 282)) (cd2:=(.ref 106))
      (f3:=170) (pm3:=(.str "lightshares.shades" 386)) (cd3:=(.ref 169))
      (f4:=184) (pm4:=(.str "lightshares.shades" 386)) (cd4:=(.ref 183))
      (f5:=222) (pm5:=(.str "lightshares.shades" 386)) (cd5:=(.ref 221))
      (f6:=229) (pm6:=(.str "lightshares.shades" 386)) (cd6:=(.ref 228))
      (f7:=251) (pm7:=(.str "lightshares.deeds" 489)) (cd7:=(.ref 250))
      (f8:=114) (pm8:=(.str "lightshares.fractions" 282)) (cd8:=(.ref 113))
      (f9:=121) (pm9:=(.str "lightshares.fractions" 282)) (cd9:=(.ref 120))
      (f10:=135) (pm10:=(.str "lightshares.fractions" 282)) (cd10:=(.ref 134))
      (f11:=128) (pm11:=(.str "lightshares.fractions" 282)) (cd11:=(.ref 127))
      (f12:=243) (pm12:=(.str "lightshares.shades" 386)) (cd12:=(.ref 242))
      (f13:=236) (pm13:=(.str "lightshares.shades" 386)) (cd13:=(.ref 235))
      (f14:=142) (pm14:=(.str "lightshares.fractions" 282)) (cd14:=(.ref 141))
      (f15:=256) (pm15:=(.str "lightshares.deeds" 489)) (cd15:=(.ref 255))
      (f16:=272) (pm16:=(.str "lightshares.deeds" 489)) (cd16:=(.ref 271))
      (bd16:=265) (ocd16:=(.type "tuple")) (odd16:=none) (nd16:=0) (sld16:= #[])
      (f17:=149) (pm17:=(.str "lightshares.fractions" 282)) (cd17:=(.ref 148))
      (f18:=280) (pm18:=(.str "lightshares.deeds" 489)) (cd18:=(.ref 279))
      (bd18:=273) (ocd18:=(.type "tuple")) (odd18:=none) (nd18:=0) (sld18:= #[])
      (f19:=264) (pm19:=(.str "lightshares.deeds" 489)) (cd19:=(.ref 263))
      (bd19:=257) (ocd19:=(.type "tuple")) (odd19:=none) (nd19:=0) (sld19:= #[])
      (f20:=291) (pm20:=(.str "lightshares.deeds" 489)) (cd20:=(.ref 290))
      (f21:=286) (pm21:=(.str "lightshares.deeds" 489)) (cd21:=(.ref 285))
      (bd21:=281) (ocd21:=(.type "tuple")) (odd21:=none) (nd21:=0) (sld21:= #[])
      (f22:=404) (pm22:=(.str "law_lightshares_k07_deeds_of_one_shade" 545)) (cd22:=(.ref 403))
      (f23:=312) (pm23:=(.str "law_lightshares_k07_deeds_of_one_shade" 545)) (cd23:=(.ref 311))
      (f24:=326) (pm24:=(.str "law_lightshares_k07_deeds_of_one_shade" 545)) (cd24:=(.ref 325))
      (f25:=368) (pm25:=(.str "law_lightshares_k07_deeds_of_one_shade" 545)) (cd25:=(.ref 367))
      (f26:=392) (pm26:=(.str "law_lightshares_k07_deeds_of_one_shade" 545)) (cd26:=(.ref 391))
      (f27:=298) (pm27:=(.str "law_lightshares_k07_deeds_of_one_shade" 545)) (cd27:=(.ref 297))
      (f28:=340) (pm28:=(.str "law_lightshares_k07_deeds_of_one_shade" 545)) (cd28:=(.ref 339))
      (f29:=333) (pm29:=(.str "law_lightshares_k07_deeds_of_one_shade" 545)) (cd29:=(.ref 332))
      (f30:=347) (pm30:=(.str "law_lightshares_k07_deeds_of_one_shade" 545)) (cd30:=(.ref 346))
      (f31:=385) (pm31:=(.str "law_lightshares_k07_deeds_of_one_shade" 545)) (cd31:=(.ref 384))
      (f32:=319) (pm32:=(.str "law_lightshares_k07_deeds_of_one_shade" 545)) (cd32:=(.ref 318))
      (f33:=354) (pm33:=(.str "law_lightshares_k07_deeds_of_one_shade" 545)) (cd33:=(.ref 353))
      (f34:=361) (pm34:=(.str "law_lightshares_k07_deeds_of_one_shade" 545)) (cd34:=(.ref 360))
      (f35:=191) (pm35:=(.str "lightshares.shades" 386)) (cd35:=(.ref 190))
      (f36:=156) (pm36:=(.str "lightshares.fractions" 282)) (cd36:=(.ref 155))
      (f37:=163) (pm37:=(.str "lightshares.fractions" 282)) (cd37:=(.ref 162))
      (f38:=201) (pm38:=(.str "lightshares.shades" 386)) (cd38:=(.ref 200))
      (f39:=208) (pm39:=(.str "lightshares.shades" 386)) (cd39:=(.ref 207))
      (f40:=196) (pm40:=(.str "lightshares.shades" 386)) (cd40:=(.ref 195))
      (f41:=397) (pm41:=(.str "law_lightshares_k07_deeds_of_one_shade" 545)) (cd41:=(.ref 396))
      (f42:=416) (pm42:=(.str "law_lightshares_k07_deeds_of_one_shade" 545)) (cd42:=(.ref 415))
      (f43:=409) (pm43:=(.str "law_lightshares_k07_deeds_of_one_shade" 545)) (cd43:=(.ref 408))
      (f44:=380) (pm44:=(.str "law_lightshares_k07_deeds_of_one_shade" 545)) (cd44:=(.ref 379))
      (f45:=305) (pm45:=(.str "law_lightshares_k07_deeds_of_one_shade" 545)) (cd45:=(.ref 304))
      (f46:=373) (pm46:=(.str "law_lightshares_k07_deeds_of_one_shade" 545)) (cd46:=(.ref 372))
      (f47:=423) (pm47:=(.str "law_lightshares_k07_deeds_of_one_shade" 545)) (cd47:=(.ref 422))
      (ac_HALF:=244) (t1_HALF:=491) (t2_HALF:=492) (odc_HALF:=none) (nc_HALF:=0) (slc_HALF:= #[])
      (ac_ONE:=86) (t1_ONE:=287) (t2_ONE:=288) (odc_ONE:=none) (nc_ONE:=0) (slc_ONE:= #[])
      (tk_PIECE:=294)
      (tk_PIECE_FIGURES:=290)
      (ac_ZERO:=85) (t1_ZERO:=284) (t2_ZERO:=285) (odc_ZERO:=none) (nc_ZERO:=0) (slc_ZERO:= #[]) KX G hmg ?nn_Shade ?no_Shade ?nb_Shade ?aC_Shade ?pg_Shade ?hd_Shade ?po_Shade ?sa_Shade ?mk_Shade ?kc_Shade ?ha_Shade ?hn_Shade ?ht_Shade ?hm_Shade ?kp_Shade_NoneType ?kp_Shade_bool ?kp_Shade_int ?kp_Shade_str ?kp_Shade_list ?kp_Shade_tuple ?kp_Shade_dict ?ko_Shade_int ?ko_Shade_bool ?ko_Shade_tuple ?ko_Shade_str ?ko_Shade_list ?ko_Shade_dict ?na_Shade_ember ?na_Shade_leaf ?na_Shade_sky ?cc_HALF ?cl_HALF ?cc_ONE ?cl_ONE ?cc_PIECE ?cc_PIECE_FIGURES ?cc_ZERO ?cl_ZERO ?a0 ?l0 ?c0 ?k0 ?a1 ?l1 ?c1 ?k1 ?a2 ?l2 ?c2 ?k2 ?a3 ?l3 ?c3 ?k3 ?a4 ?i4 ?l4 ?c4 ?k4 ?a5 ?l5 ?c5 ?k5 ?a6 ?l6 ?c6 ?k6 ?a7 ?l7 ?c7 ?k7 ?a8 ?l8 ?c8 ?k8 ?a9 ?l9 ?c9 ?k9 ?a10 ?l10 ?c10 ?k10 ?a11 ?l11 ?c11 ?k11 ?a12 ?l12 ?c12 ?k12 ?a13 ?l13 ?c13 ?k13 ?a14 ?l14 ?c14 ?k14 ?a15 ?l15 ?c15 ?k15 ?a16 ?l16 ?c16 ?k16 ?ld16 ?a17 ?l17 ?c17 ?k17 ?a18 ?l18 ?c18 ?k18 ?ld18 ?a19 ?l19 ?c19 ?k19 ?ld19 ?a20 ?l20 ?c20 ?k20 ?a21 ?l21 ?c21 ?k21 ?ld21 ?a22 ?l22 ?c22 ?k22 ?a23 ?l23 ?c23 ?k23 ?a24 ?l24 ?c24 ?k24 ?a25 ?l25 ?c25 ?k25 ?a26 ?l26 ?c26 ?k26 ?a27 ?l27 ?c27 ?k27 ?a28 ?l28 ?c28 ?k28 ?a29 ?l29 ?c29 ?k29 ?a30 ?l30 ?c30 ?k30 ?a31 ?l31 ?c31 ?k31 ?a32 ?l32 ?c32 ?k32 ?a33 ?l33 ?c33 ?k33 ?a34 ?l34 ?c34 ?k34 ?a35 ?i35 ?l35 ?c35 ?k35 ?a36 ?l36 ?c36 ?k36 ?a37 ?l37 ?c37 ?k37 ?a38 ?i38 ?l38 ?c38 ?k38 ?a39 ?i39 ?l39 ?c39 ?k39 ?a40 ?i40 ?l40 ?c40 ?k40 ?a41 ?l41 ?c41 ?k41 ?a42 ?l42 ?c42 ?k42 ?a43 ?l43 ?c43 ?k43 ?a44 ?l44 ?c44 ?k44 ?a45 ?l45 ?c45 ?k45 ?a46 ?l46 ?c46 ?k46 ?a47 ?l47 ?c47 ?k47 ?z_abs ?z_all ?z_bool ?z_divmod ?z_enumerate ?z_int ?z_isinstance ?z_len ?z_max ?z_min ?z_range ?z_repr ?z_str ?z_tuple
    all_goals kernel_rfl
