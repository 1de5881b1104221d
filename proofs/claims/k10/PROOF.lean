import PyProof.Rows.All
import Wide.All
import OpenK.AllK
import Wide.FinOn
import Lean
import PyProof.EqAt
import PyProof.EqKinds
import PyProof.TupleCall
import PySem.Challenge.RW_lightshares_k10_whole_deeds_go_along
set_option Elab.async false
set_option linter.all false
set_option maxRecDepth 100000
namespace L2
open PySem PySem.Spec PyProof.Rows
noncomputable abbrev Key:=Sum Int Str
noncomputable def yK:Key→Value→Bool
  | .inl k,v=>Value.isInt k v
  | .inr x,v=>Value.isStrOf x v
noncomputable def aNz (w:World):Key→Int
  | .inl k=>hashInt k
  | .inr x=>hashStr w x
theorem bO:∀ {k:Key} {v:Value},yK k v=true→(∃ i t,k=Sum.inl i∧v=Value.int i t)∨(∃ x t,k=Sum.inr x∧v=Value.str x t)
  | .inl i,v,h=>by
    obtain ⟨t,e⟩:=Value.isInt_shape (k:=i) (v:=v) h
    exact .inl ⟨i,t,rfl,e⟩
  | .inr x,v,h=>by
    obtain ⟨t,e⟩:=Value.isStrOf_shape (x:=x) (v:=v) h
    exact .inr ⟨x,t,rfl,e⟩
theorem PQ (i:Int) (t:Tok):yK (.inl i) (.int i t)=true:=by simp [yK,Value.isInt]
theorem QP (x:Str) (t:Tok):yK (.inr x) (.str x t)=true:=by simp [yK,Value.isStrOf]
theorem aHQ (a b:Int):decide ((Sum.inl a:Key)=Sum.inl b)=(a == b):=by
  by_cases e:a=b
  · subst e; simp
  · have h:¬(Sum.inl a:Key)=Sum.inl b:=fun q=>e (Sum.inl.inj q)
    rw [decide_eq_false h]
    exact (beq_eq_false_iff_ne.mpr e).symm
theorem aGc (a b:Str):decide ((Sum.inr a:Key)=Sum.inr b)=decide (a=b):=by
  by_cases e:a=b
  · subst e; simp
  · have h:¬(Sum.inr a:Key)=Sum.inr b:=fun q=>e (Sum.inr.inj q)
    rw [decide_eq_false h,decide_eq_false e]
theorem aFW (a:Int) (b:Str):decide ((Sum.inl a:Key)=Sum.inr b)=false:=decide_eq_false (fun q=>nomatch q)
theorem aH3 (a:Str) (b:Int):decide ((Sum.inr a:Key)=Sum.inl b)=false:=decide_eq_false (fun q=>nomatch q)
noncomputable def dS (prog:Program) (w:World):PySem.KeyKind prog w Key where
  is:=yK
  hash:=aNz w
  inj :=fun v a b ha hb=>by
    rcases bO ha with ⟨i,t,rfl,rfl⟩ | ⟨x,t,rfl,rfl⟩
    · rcases bO hb with ⟨j,u,rfl,e⟩ | ⟨y,u,rfl,e⟩
      · injection e with e1 _; rw [e1]
      · exact nomatch e
    · rcases bO hb with ⟨j,u,rfl,e⟩ | ⟨y,u,rfl,e⟩
      · exact nomatch e
      · injection e with e1 _; rw [e1]
  byValue:=fun k v h=>by
    rcases bO h with ⟨i,t,rfl,rfl⟩ | ⟨x,t,rfl,rfl⟩ <;> rfl
  pyHash:=fun hv h=>by
    rcases bO hv with ⟨i,t,rfl,rfl⟩ | ⟨x,t,rfl,rfl⟩
    · exact wpAny_pyHash_int h
    · exact wpAny_pyHash_str h
  eqBool:=fun hu hv h=>by
    rcases bO hu with ⟨i,t,rfl,rfl⟩ | ⟨x,t,rfl,rfl⟩
    · rcases bO hv with ⟨j,u,rfl,rfl⟩ | ⟨y,u,rfl,rfl⟩
      · rw [aHQ] at h; exact wpAny_eqBool_int h
      · rw [aFW] at h; exact SeqAt.EqAt.int_str i t y u _ _ _ _ h
    · rcases bO hv with ⟨j,u,rfl,rfl⟩ | ⟨y,u,rfl,rfl⟩
      · rw [aH3] at h; exact SeqAt.EqAt.str_int x t j u _ _ _ _ h
      · rw [aGc] at h; exact wpAny_eqBool_str h
  «strs» :=fun k x t v h=>by
    rcases bO h with ⟨i,u,rfl,e⟩ | ⟨y,u,rfl,e⟩
    · exact nomatch e
    · injection e with e1 _
      subst e1
      cases v <;> rfl
theorem aGX (prog:Program) (w:World) (k:Key) (v:Value):(dS prog w).is k v=yK k v:=rfl
theorem ID (prog:Program) (w:World) (i:Int) (t:Tok):(dS prog w).is (.inl i) (.int i t)=true:=PQ i t
theorem GL (prog:Program) (w:World) (x:Str) (t:Tok):(dS prog w).is (.inr x) (.str x t)=true:=QP x t
inductive V where
  | non | bl (b:Bool) | int (i:Int) | str (x:Str) | byt (b:Array UInt8) | flt (b:UInt64) | ref (a:Addr) | ty (n:String)
  deriving DecidableEq
noncomputable def aL:V→Value→Prop
  | .non,u=>u=Value.none
  | .bl b,u=>u=Value.bool b
  | .int i,u=>∃ t,u=Value.int i t
  | .str x,u=>∃ t,u=Value.str x t
  | .byt b,u=>∃ t,u=Value.bytes b t
  | .flt b,u=>∃ t,u=Value.float b t
  | .ref a,u=>u=Value.ref a
  | .ty n,u=>u=Value.type n
noncomputable abbrev aG:List V→List Value→Prop:=Paired aL
theorem aG.length {xs:List V} {us:List Value} (r:aG xs us):xs.length=us.length:=Paired.length r
theorem aG.get:∀ {xs:List V} {us:List Value} {i:Nat} {x:V},aG xs us→xs[i]? =some x→∃ u,us[i]? =some u∧aL x u
  | _,_,_,_,.nil,e=>by simp at e
  | _,_,0,_,.cons r _,e=>by simp at e; subst e; exact ⟨_,rfl,r⟩
  | _,_,i + 1,x,.cons _ t,e=>by
    obtain ⟨u,h1,h2⟩:=aG.get (i:=i) (x:=x) t (by simpa using e)
    exact ⟨u,by simpa using h1,h2⟩
theorem aG.set {x:V} {u:Value} (r:aL x u):∀ {xs:List V} {us:List Value} (i:Nat),aG xs us→aG (xs.set i x) (us.set i u)
  | _,_,_,.nil=>.nil
  | _,_,0,.cons _ t=>.cons r t
  | _,_,i + 1,.cons q t=>.cons q (aG.set r i t)
theorem aG.append:∀ {xs ys:List V} {us ws:List Value},aG xs us→aG ys ws→aG (xs ++ ys) (us ++ ws)
  | _,_,_,_,.nil,s=>s
  | _,_,_,_,.cons r t,s=>.cons r (aG.append t s)
theorem aG.take:∀ {xs:List V} {us:List Value} (n:Nat),aG xs us→aG (xs.take n) (us.take n)
  | _,_,0,_=>.nil
  | _,_,_ + 1,.nil=>.nil
  | _,_,n + 1,.cons r t=>.cons r (aG.take n t)
theorem aG.drop:∀ {xs:List V} {us:List Value} (n:Nat),aG xs us→aG (xs.drop n) (us.drop n)
  | _,_,0,r=>r
  | _,_,_ + 1,.nil=>.nil
  | _,_,n + 1,.cons _ t=>aG.drop n t
noncomputable def tI:Option V→Option Value→Prop
  | some v,some u=>aL v u
  | none,none=>True
  | _,_=>False
noncomputable def KV {κ:Type}:List (κ×V)→List (κ×Value)→Prop:=Paired fun (p:κ×V) (q:κ×Value)=>p.1=q.1∧aL p.2 q.2
noncomputable def kV:Key→V
  | .inl i=>.int i
  | .inr x=>.str x
inductive HO where
  | lst (xs:List V)
  | tup (xs:List V)
  | dK (kvs:List (Key×V)) | dT (kvs:List (List Key×V))
  | set (S:Int→Bool) (n:Nat)
  | ins (C dx:Addr) (fs:List (Str×V))
  | own (x:Addr)
  | xd (fs:List (Str×V))
  | met (f x:Addr)
  | rng (lo hi:Int)
  | frz (o:Obj) (u:HO)
  | tbl (ps:Array Value)
  | ext (φ:Heap→Prop)
noncomputable abbrev Hp:=Addr→Option HO
noncomputable def upd (H:Hp) (a:Addr) (o:HO):Hp:=fun b=>if b=a then some o else H b
theorem aW {H:Hp} {a:Addr} {o:HO}:upd H a o a=some o:=by unfold upd; rw [if_pos rfl]
theorem aF {H:Hp} {a b:Addr} {o:HO} (h:b≠a):upd H a o b=H b:=by unfold upd; rw [if_neg h]
theorem aN {H:Hp} {a b:Addr} {o:HO} (h:H a=some o) (h':H b=none):a≠b:=by
  intro e; subst e; rw [h] at h'; cases h'
noncomputable def gC (h:Heap) (a:Addr) (items:Array Value):Prop:=IsTup h a items∧∀ o,h.get? a=some o→o.dict=none
theorem gC.new (h:Heap) (items:Array Value):gC (h.push { cls:=.type "tuple",data:=.seq items }) h.objs.size items:=⟨IsTup.new h items,fun o e=>by rw [Heap.get?_push_size _ rfl] at e; cases e; rfl⟩
section
variable (P:Program) (w:World)
noncomputable def cU (H:Hp) (h:Heap) (a:Addr):HO→Prop
  | .lst xs=>xs.length≤sizeLine∧∃ (its:List Value) (n:Nat),aG xs its∧h.get? a=some { cls:=.type "list",data:=.seq its.toArray n }
  | .tup xs=>xs.length≤sizeLine∧∃ its:List Value,aG xs its∧gC h a its.toArray
  | .dK kvs=>kvs.length≤sizeLine∧(a == sysModules)=false∧∃ vs,KV kvs vs∧h.DictOf (dS P w) a vs
  | .dT kvs=>kvs.length≤sizeLine∧(a == sysModules)=false∧∃ xs:List (List Key×Addr×Value),
      Paired (fun (p:List Key×V) (q:List Key×Addr×Value)=>p.1=q.1∧H q.2.1=some (.tup (p.1.map kV))∧aL p.2 q.2.2) kvs xs∧
      ∃ o es ep,h.get? a=some o∧o.ExactDict∧o.data= .dict es ep∧es.toList=xs.map (entryOfKey (tupleKind (dS P w)))∧(xs.map (·.1)).Nodup
  | .set S n=>h.SetOf (intKind P w) a S n
  | .ins C dx fs=>H dx=some (.own a)∧fs.length≤1000∧dx≠a∧h.get? a=some (W.instObj C dx)∧
      ∃ mA,h.Ns1 dx mA∧(∀ f,tI (fs.lookup f) (mA f))∧PySem.Within mA (fs.map (·.1))
  | .own _=>∃ o,h.get? a=some o
  | .xd fs=>∃ mA,h.Ns1 a mA∧∀ f,tI (fs.lookup f) (mA f)
  | .rng lo hi=>∃ t u v,h.get? a=some { cls:=.type "range",data:=.fields #[.int lo t,.int hi u,.int 1 v] }
  | .frz o u=>h.get? a=some o∧cU H h a u
  | .tbl ps=>h.get? a=some { cls:=.none,data:=.fields ps }
  | .met f x=>h.get? a=some (W.methodObj (.ref f) (.ref x))
  | .ext φ=>φ h∧(∃ o,h.get? a=some o)∧∀ h1 h2:Heap,φ h1→(∀ o,h1.get? a=some o→h2.get? a=some o)→φ h2
noncomputable def HOk (H:Hp) (h:Heap):Prop:= ∀ a o,H a=some o→cU P w H h a o
end
section
variable {P:Program} {w:World} {H H':Hp} {h h':Heap} {a:Addr} {o:HO}
theorem cU.lt (x:cU P w H h a o):a < h.objs.size:=by
  cases o with
  | lst xs=>obtain ⟨_,_,_,_,e⟩:=x; exact Heap.lt_size e
  | tup xs=>obtain ⟨_,_,_,p⟩:=x; exact p.1.lt
  | dK kvs=>obtain ⟨_,_,_,_,o,_,_,e,_⟩:=x; exact Heap.lt_size e
  | dT kvs=>obtain ⟨_,_,_,_,o,_,_,e,_⟩:=x; exact Heap.lt_size e
  | set S n=>obtain ⟨o,_,_,_,e,_⟩:=x; exact Heap.lt_size e
  | ins C dx fs=>obtain ⟨_,_,_,e,_⟩:=x; exact Heap.lt_size e
  | own y=>obtain ⟨_,e⟩:=x; exact Heap.lt_size e
  | xd fs=>obtain ⟨_,⟨_,_,_,e,_⟩,_⟩:=x; exact Heap.lt_size e
  | rng lo hi=>obtain ⟨_,_,_,e⟩:=x; exact Heap.lt_size e
  | frz ob u=>obtain ⟨e,_⟩:=x; exact Heap.lt_size e
  | tbl ps=>exact Heap.lt_size (show h.get? a=some _ from x)
  | met f y=>exact Heap.lt_size (show h.get? a=some _ from x)
  | ext φ=>obtain ⟨_,⟨_,e⟩,_⟩:=x; exact Heap.lt_size e
theorem Paired.mapP {α β:Type} {F G:α→β→Prop}:∀ {l₁:List α} {l₂:List β},Paired F l₁ l₂→(∀ a b,F a b→G a b)→Paired G l₁ l₂
  | _,_,.nil,_=>.nil
  | _,_,.cons r t,f=>.cons (f _ _ r) (Paired.mapP t f)
theorem cU.stay (x:cU P w H h a o) (k:∀ b u,(b=a∨H b=some (.own a))→h.get? b=some u→h'.get? b=some u)
    (ho:∀ b,H b=some (.own a)→H' b=some (.own a)) (ht:∀ b xs,H b=some (.tup xs)→H' b=some (.tup xs)):cU P w H' h' a o:=by
  induction o with
  | lst xs=>obtain ⟨z,its,n,r,e⟩:=x; exact ⟨z,its,n,r,k _ _ (.inl rfl) e⟩
  | tup xs=>obtain ⟨z,its,r,⟨ob,e,c⟩,dn⟩:=x; exact ⟨z,its,r,⟨ob,k _ _ (.inl rfl) e,c⟩,fun o q=>by rw [k _ _ (.inl rfl) e] at q; cases q; exact dn _ e⟩
  | dK kvs=>obtain ⟨z,y,vs,r,ob,es,ep,e,c⟩:=x; exact ⟨z,y,vs,r,ob,es,ep,k _ _ (.inl rfl) e,c⟩
  | dT kvs =>
    obtain ⟨z,y,xs,r,ob,es,ep,e,c⟩:=x
    exact ⟨z,y,xs,Paired.mapP r fun p q z=>⟨z.1,ht _ _ z.2.1,z.2.2⟩,ob,es,ep,k _ _ (.inl rfl) e,c⟩
  | set S n=>obtain ⟨ob,es,ep,t,e,c⟩:=x; exact ⟨ob,es,ep,t,k _ _ (.inl rfl) e,c⟩
  | ins C dx fs =>
    obtain ⟨d,z,ne,e,mA,⟨od,es,ep,e2,c⟩,r⟩:=x
    exact ⟨ho _ d,z,ne,k _ _ (.inl rfl) e,mA,⟨od,es,ep,k _ _ (.inr d) e2,c⟩,r⟩
  | own y=>obtain ⟨ob,e⟩:=x; exact ⟨ob,k _ _ (.inl rfl) e⟩
  | xd fs=>obtain ⟨mA,⟨od,es,ep,e,c⟩,r⟩:=x; exact ⟨mA,⟨od,es,ep,k _ _ (.inl rfl) e,c⟩,r⟩
  | rng lo hi=>obtain ⟨t,u,v,e⟩:=x; exact ⟨t,u,v,k _ _ (.inl rfl) e⟩
  | frz ob u ih=>obtain ⟨e,q⟩:=x; exact ⟨k _ _ (.inl rfl) e,ih q⟩
  | tbl ps =>
    have e:h.get? a=some { cls:=.none,data:=.fields ps }:=x
    show h'.get? a=some { cls:=.none,data:=.fields ps }
    exact k a _ (.inl rfl) e
  | met f y =>
    have e:h.get? a=some (W.methodObj (.ref f) (.ref y)):=x
    show h'.get? a=some (W.methodObj (.ref f) (.ref y))
    exact k a _ (.inl rfl) e
  | ext φ=>obtain ⟨p,⟨o,e⟩,st⟩:=x; exact ⟨st _ _ p fun o q=>k _ _ (.inl rfl) q,⟨o,k _ _ (.inl rfl) e⟩,st⟩
theorem HOk.lt (x:HOk P w H h) (e:H a=some o):a < h.objs.size:=(x a o e).lt
theorem HOk.fresh (x:HOk P w H h) (e:h.objs.size≤a):H a=none:=by
  cases q:H a with
  | none=>rfl
  | some u=>exact absurd (Nat.lt_of_lt_of_le (x.lt q) e) (Nat.lt_irrefl _)
theorem HOk.kept (x:HOk P w H h) (k:∀ b u,h.get? b=some u→h'.get? b=some u):HOk P w H h':=fun a o e =>
  (x a o e).stay (fun b u _ q=>k b u q) (fun _ q=>q) fun _ _ q=>q
theorem HOk.laid (x:HOk P w H h) (k:∀ b u,h.get? b=some u→h'.get? b=some u) (hp:h.objs.size≤a) (new:cU P w (upd H a o) h' a o):HOk P w (upd H a o) h':=fun b u e=>by
  have hn:=x.fresh hp
  by_cases hb:b=a
  · subst hb; rw [aW] at e; cases e; exact new
  · rw [aF hb] at e
    exact (x b u e).stay (fun c v _ q=>k c v q) (fun c q=>by rw [aF (aN q hn)]; exact q) fun c xs q=>by rw [aF (aN q hn)]; exact q
end
noncomputable def Rd (H:Hp) (a:Addr) (u:HO):Prop:=H a=some u∨∃ o,H a=some (.frz o u)
theorem Rd.of {H:Hp} {a:Addr} {u:HO} (h:H a=some u):Rd H a u:=.inl h
theorem Rd.ok {P:Program} {w:World} {H:Hp} {h:Heap} {a:Addr} {u:HO} (r:Rd H a u) (x:HOk P w H h):cU P w H h a u:=by
  rcases r with r | ⟨o,r⟩
  · exact x a u r
  · obtain ⟨_,q⟩:=x a _ r
    exact q
noncomputable def Mut:Option HO→Prop
  | some (.lst _)=>True
  | some (.dK _)=>True
  | some (.dT _)=>True
  | some (.set _ _)=>True
  | some (.ins _ _ _)=>True
  | some (.ext _)=>True
  | _=>False
section
variable {P:Program} {w:World} {H:Hp} {h h':Heap} {x e:Addr} {o':HO}
theorem HOk.write (ok:HOk P w H h) (mu:Mut (H x)) (he:e=x∨H e=some (.own x)) (k:∀ b u,b≠e→h.get? b=some u→h'.get? b=some u) (heo:∃ u,h'.get? e=some u)
    (new:cU P w (upd H x o') h' x o'):HOk P w (upd H x o') h':=fun b u q=>by
  have nown:∀ c y,H c=some (.own y)→c≠x:=fun c y r z=>by subst z; rw [r] at mu; exact mu
  have ntup:∀ c xs,H c=some (.tup xs)→c≠x:=fun c xs r z=>by subst z; rw [r] at mu; exact mu
  by_cases hb:b=x
  · subst hb; rw [aW] at q; cases q; exact new
  · rw [aF hb] at q
    by_cases hbe:b=e
    · have q':H b=some (.own x):=by
        rcases he with z | z
        · exact absurd (hbe.trans z) hb
        · rw [hbe]; exact z
      rw [q] at q'; cases q'
      obtain ⟨v,hv⟩:=heo
      exact ⟨v,by rw [hbe]; exact hv⟩
    · refine (ok b u q).stay (fun c v hc r=>k c v ?_ r) (fun c r=>by rw [aF (nown c b r)]; exact r) fun c xs r=>by rw [aF (ntup c xs r)]; exact r
      rcases hc with rfl | hc
      · exact hbe
      · rintro rfl
        rcases he with z | z
        · exact nown c b hc z
        · rw [hc] at z; cases z; exact hb rfl
end
structure Un (fs ex:List Addr) (H H':Hp) (h h':Heap):Prop where
  keep:∀ b o,h.get? b=some o→H b=none→b∉ fs→b∉ ex→h'.get? b=some o
  slot:∀ b o,h.get? b=some o→H b=none→b∈fs→b∉ ex→∃ sl,h'.get? b=some { o with slots:=sl }
  free:∀ b o,h.get? b=some o→H b=none→b∉ ex→H' b=none
  there:∀ b o,h.get? b=some o→b∉ ex→∃ o',h'.get? b=some o'
  tups:∀ b xs,H b=some (.tup xs)→H' b=some (.tup xs)
  frzs:∀ b o u,H b=some (.frz o u)→H' b=some (.frz o u)
  tbls:∀ b ps,H b=some (.tbl ps)→∃ more,H' b=some (.tbl (ps ++ more))
section
variable {fs fs' ex ex':List Addr} {H H1 H2:Hp} {h h1 h2 h':Heap} {a x e:Addr} {o:HO}
theorem Un.any (u:Un fs ex H H1 h h1) {b:Addr} {ob:Obj} (q:h.get? b=some ob) (n:H b=none) (hx:b∉ ex):∃ sl,h1.get? b=some { ob with slots:=sl }:=by
  by_cases hb:b∈fs
  · exact u.slot b ob q n hb hx
  · exact ⟨ob.slots,u.keep b ob q n hb hx⟩
theorem Un.trans (a:Un fs ex H H1 h h1) (b:Un fs ex H1 H2 h1 h2):Un fs ex H H2 h h2 where
  keep:=fun c ob q n hc hx=>b.keep c ob (a.keep c ob q n hc hx) (a.free c ob q n hx) hc hx
  slot:=fun c ob q n hc hx=>by
    obtain ⟨sl,e1⟩:=a.slot c ob q n hc hx
    obtain ⟨sl',e2⟩:=b.slot c _ e1 (a.free c ob q n hx) hc hx
    exact ⟨sl',e2⟩
  free:=fun c ob q n hx=>by
    obtain ⟨o',e1⟩:=a.there c ob q hx
    exact b.free c o' e1 (a.free c ob q n hx) hx
  there:=fun c ob q hx=>by
    obtain ⟨o',e1⟩:=a.there c ob q hx
    exact b.there c o' e1 hx
  tups:=fun c xs q=>b.tups c xs (a.tups c xs q)
  frzs:=fun c ob xs q=>b.frzs c ob xs (a.frzs c ob xs q)
  tbls:=fun c ps q=>by
    obtain ⟨m1,e1⟩:=a.tbls c ps q
    obtain ⟨m2,e2⟩:=b.tbls c _ e1
    exact ⟨m1 ++ m2,by rw [e2,Array.append_assoc]⟩
theorem Un.kept (k:∀ b u,h.get? b=some u→h'.get? b=some u):Un fs ex H H h h' :=
  ⟨fun b ob q _ _ _=>k b ob q,fun b ob q _ _ _=>⟨ob.slots,k b ob q⟩,fun _ _ _ n _=>n,fun b ob q _=>⟨ob,k b ob q⟩,fun _ _ q=>q,fun _ _ _ q=>q,fun _ ps q=>⟨#[],by rw [q]; simp⟩⟩
theorem Un.refl:Un fs ex H H h h:=Un.kept fun _ _ q=>q
theorem Un.laid (k:∀ b u,h.get? b=some u→h'.get? b=some u) (hp:h.objs.size≤a) (hn:H a=none):Un fs ex H (upd H a o) h h' where
  keep:=fun b u q _ _ _=>k b u q
  slot:=fun b u q _ _ _=>⟨u.slots,k b u q⟩
  free:=fun b u q n _=>by rw [aF (Nat.ne_of_lt (Nat.lt_of_lt_of_le (Heap.lt_size q) hp))]; exact n
  there:=fun b u q _=>⟨u,k b u q⟩
  tups:=fun b xs q=>by rw [aF (aN q hn)]; exact q
  frzs:=fun b u xs q=>by rw [aF (aN q hn)]; exact q
  tbls:=fun b ps q=>⟨#[],by rw [aF (aN q hn),q]; simp⟩
theorem Un.write (mu:Mut (H x)) (he:e=x∨H e=some (.own x)) (k:∀ b u,b≠e→h.get? b=some u→h'.get? b=some u) (heo:∃ u,h'.get? e=some u):Un fs ex H (upd H x o) h h':=by
  have hx:∀ b,H b=none→b≠x:=fun b n z=>by subst z; rw [n] at mu; exact mu
  have hb:∀ b,H b=none→b≠e:=fun b n z=>by
    subst z
    rcases he with r | r
    · exact hx b n r
    · rw [n] at r; cases r
  have hm:∀ b u,H b=some u→¬Mut (some u)→b≠x:=fun b u q nm z=>by subst z; rw [q] at mu; exact nm mu
  refine ⟨fun b u q n _ _=>k b u (hb b n) q,fun b u q n _ _=>⟨u.slots,k b u (hb b n) q⟩,fun b u q n _=>by rw [aF (hx b n)]; exact n,fun b u q _=>?_,
    fun b xs q=>by rw [aF (hm b _ q fun z=>z)]; exact q,fun b u xs q=>by rw [aF (hm b _ q fun z=>z)]; exact q,fun b ps q=>⟨#[],by rw [aF (hm b _ q fun z=>z),q]; simp⟩⟩
  by_cases hbe:b=e
  · subst hbe; exact heo
  · exact ⟨u,k b u hbe q⟩
theorem Un.mono (u:Un fs ex H H1 h h1) (hs:∀ b∈fs,b∈fs') (hx:∀ b∈ex,b∈ex'):Un fs' ex' H H1 h h1 :=
  ⟨fun b ob q n hb he=>u.keep b ob q n (fun z=>hb (hs b z)) fun z=>he (hx b z),fun _ _ q n _ he=>u.any q n fun z=>he (hx _ z),fun b ob q n he=>u.free b ob q n fun z=>he (hx b z),fun b ob q he=>u.there b ob q fun z=>he (hx b z),u.tups,u.frzs,u.tbls⟩
end
noncomputable def trk (h:Heap) (H:Hp):List Addr:=(List.range h.objs.size).filter fun a=>(H a).isSome
noncomputable def FG (h:Heap) (H:Hp):Heap:=W.hideAll h (trk h H)
theorem TU (h:Heap) (H:Hp):(FG h H).objs.size=h.objs.size:=W.hideAll_size _ _
theorem YY {h:Heap} {H:Hp} {b:Addr} {o:Obj} (e:h.get? b=some o) (n:H b=none):(FG h H).get? b=some o :=
  W.hideAll_get _ e fun hm=>by
    have q:(H b).isSome=true:=(List.mem_filter.mp hm).2
    rw [n] at q; simp at q
theorem aDy {h:Heap} {H:Hp} {b:Addr} {o:Obj} (e:(FG h H).get? b=some o):h.get? b=some o∧H b=none:=by
  have e':h.get? b=some o:=W.of_hideAll (trk h H) e
  refine ⟨e', ?_⟩
  cases q:H b with
  | none=>rfl
  | some x =>
    have hm:b∈trk h H:=List.mem_filter.mpr ⟨List.mem_range.mpr (Heap.lt_size e'),by simp [q]⟩
    have z:(FG h H).get? b=none:=W.hideAll_none (trk h H) hm
    rw [z] at e; cases e
noncomputable def aCd (g h:Heap) (L:Addr):List (Addr×Obj):=(List.range h.objs.size).filterMap fun a=>if a=L∨(g.get? a).isSome=true then none else (h.get? a).map fun o=>(a,o)
noncomputable def dM (g h:Heap) (L d:Addr):List (Addr×Obj):=(aCd g h L).filter fun p=>decide (p.1≠d)
structure Mod (K:W.Frag) (mg:Str→Option Value) (base:Heap):Prop where
  kin:K.In base
  glob:base.Ns mainGlobals mg
  blt:∃ mb,base.Ns builtinsNs mb∧∀ x:Str,x≠"__name__"→mb x=bootBuiltins x
  nolimit:base.NoLimit
structure Cx where
  prog:Program
  w:World
  K:W.Frag
  mg:Str→Option Value
  base:Heap
  A:Around
  N:List Str
  s₀:Shared
  H₀:Hp
  env:Env
  outer:List Env
  stack:List Env
  ex:List Addr
  fn:Str→Bool
  calm:Bool
  pn:List (Addr×Obj)
  xe:Value→Shared→Prop
noncomputable def frs (l:List Env):List Addr:=l.filterMap (·.frame)
noncomputable abbrev Cx.fs (X:Cx):List Addr:=frs X.outer
noncomputable def Vis (sc:Scope) (x:Str):Prop:=sc.names.lookup x=some .local∨sc.names.lookup x=some .cell∨sc.names.lookup x=some .free
noncomputable def Loc (sc:Scope) (x:Str):Prop:=sc.names.lookup x=some .local∨sc.names.lookup x=some .cell
noncomputable def aL1 (env:Env) (h:Heap) (m:Str→Option Value) (x:Str) (u:Value):Prop :=
  (env.kindOf x=some .local∧m x=some u)∨((env.kindOf x=some .cell∨env.kindOf x=some .free)∧∃ c,env.cells.lookup x=some c∧h.IsCell c (some u))
structure Cx.Ok (X:Cx):Prop where
  mod:Mod X.K X.mg X.base
  kind:X.env.scope.kind= .function
  glob:X.env.globals=mainGlobals
  blt:X.env.builtins=builtinsNs
  above:X.s₀.heap.objs.size≤X.env.locals
  inj:∀ x y c,X.env.cells.lookup x=some c→X.env.cells.lookup y=some c→x=y
  has:∀ x,(X.env.kindOf x=some .cell∨X.env.kindOf x=some .free)→∃ c,X.env.cells.lookup x=some c
  cab:∀ x c,X.fn x=true→X.env.cells.lookup x=some c→X.s₀.heap.objs.size≤c
  hd:X.calm=true→X.A.handled=none
  frames:X.A.frames=some X.stack
  stk:X.stack=X.outer∨(X.stack=X.env :: X.outer∧X.env.frame=some X.env.locals)
  exf:∀ b∈X.ex,b≠X.env.locals∧∀ x c,X.env.cells.lookup x=some c→c≠b
  bs:∀ b o,X.base.get? b=some o→X.s₀.heap.get? b=some o∧X.H₀ b=none
  bsz:X.base.objs.size≤X.s₀.heap.objs.size
  noex:∀ b o,X.base.get? b=some o→b∉ X.ex
  exfs:∀ b∈X.ex,b∉ X.fs
  funs:X.s₀.heap.FunFrames X.base X.outer
  frf:∀ b∈X.fs,X.H₀ b=none
structure Inv (X:Cx) (pins:List (Addr×Obj)) (σ:List (Option V)) (H:Hp) (s:Shared):Prop where
  ok:X.Ok
  os:s.os=X.s₀.os
  bare:AllBare s.gens
  base:Un X.fs X.ex X.H₀ H X.s₀.heap s.heap
  loc:∃ m,s.heap.Ns X.env.locals m∧∀ (i:Nat) (x:Str) (v:V),X.N[i]? =some x→σ[i]? =some (some v)→Vis X.env.scope x→∃ u,aL v u∧aL1 X.env s.heap m x u
  cell:∀ x c,X.env.cells.lookup x=some c→∃ v,s.heap.IsCell c v
  free:H X.env.locals=none
  freeC:∀ x c,X.env.cells.lookup x=some c→H c=none
  pin:∀ p∈X.pn ++ pins,s.heap.get? p.1=some p.2∧H p.1=none∧p.1≠X.env.locals∧p.1∉ X.fs∧∀ v,p.2.data≠.cell v
  hok:HOk X.prog X.w H s.heap
  len:σ.length=X.N.length
section
variable {X:Cx} {pins:List (Addr×Obj)} {σ:List (Option V)} {H H':Hp} {s:Shared} {h':Heap}
theorem Cx.Ok.nofr (ok:X.Ok) {b:Addr} {o:Obj} (e:X.base.get? b=some o):b∉ X.fs:=fun hb=>by
  have:=(ok.funs.mem hb).1
  rw [e] at this; cases this
theorem Inv.bs (I:Inv X pins σ H s):∀ b o,X.base.get? b=some o→s.heap.get? b=some o∧H b=none:=fun b o e =>
  ⟨I.base.keep b o (I.ok.bs b o e).1 (I.ok.bs b o e).2 (I.ok.nofr e) (I.ok.noex b o e),I.base.free b o (I.ok.bs b o e).1 (I.ok.bs b o e).2 (I.ok.noex b o e)⟩
theorem Inv.bk (I:Inv X pins σ H s):∀ b o,X.base.get? b=some o→s.heap.get? b=some o:=fun b o e=>(I.bs b o e).1
theorem Inv.mod (I:Inv X pins σ H s):Mod X.K X.mg X.base:=I.ok.mod
theorem Inv.kIn (I:Inv X pins σ H s):X.K.In s.heap:=I.ok.mod.kin.keeps I.bk
theorem Inv.nolimit (I:Inv X pins σ H s):s.heap.NoLimit:=I.ok.mod.nolimit.keeps I.bk
theorem Inv.fr (I:Inv X pins σ H s):∃ m,Fr X.base X.env.locals s.heap m :=
  let ⟨m,hn,_⟩:=I.loc
  ⟨m,hn,I.bk,Nat.le_trans I.ok.bsz I.ok.above⟩
theorem Inv.lt (I:Inv X pins σ H s):X.env.locals < s.heap.objs.size:=let ⟨_,hn,_⟩:=I.loc; hn.lt
theorem Inv.sz (I:Inv X pins σ H s):X.s₀.heap.objs.size≤s.heap.objs.size:=Nat.le_trans I.ok.above (Nat.le_of_lt I.lt)
theorem Inv.nofs (I:Inv X pins σ H s) {a:Addr} (h:s.heap.objs.size≤a):a∉ X.fs:=fun hb=>by
  obtain ⟨_,o,ho,_⟩:=I.ok.funs.mem hb
  exact absurd (Nat.lt_of_lt_of_le (Heap.lt_size ho) (Nat.le_trans I.sz h)) (Nat.lt_irrefl _)
theorem Inv.cne (I:Inv X pins σ H s):∀ x c,X.env.cells.lookup x=some c→c≠X.env.locals:=fun x c e z=>by
  obtain ⟨v,o,ho,hd⟩:=I.cell x c e
  obtain ⟨m,⟨o',es,ep,ho',hd',_⟩,_⟩:=I.loc
  rw [z,ho'] at ho; cases ho; rw [hd'] at hd; cases hd
theorem Inv.funs (I:Inv X pins σ H s):s.heap.FunFrames X.base X.outer:=by
  have all:∀ (l:List Env),(∀ b∈frs l,b∈X.fs)→X.s₀.heap.FunFrames X.base l→s.heap.FunFrames X.base l:=by
    intro l
    induction l with
    | nil=>intro _ _; trivial
    | cons env r ih =>
      intro hs hl
      obtain ⟨hk,⟨L,o,hf,hn,ho,hd⟩,hr⟩:=hl
      have hL:L∈X.fs:=hs L (by unfold frs; rw [List.filterMap_cons,hf]; exact List.mem_cons_self)
      obtain ⟨sl,e⟩:=I.base.slot L o ho (I.ok.frf L hL) hL fun z=>I.ok.exfs L z hL
      exact ⟨hk,⟨L,_,hf,hn,e,hd⟩,ih (fun b hb=>hs b (by unfold frs; rw [List.filterMap_cons,hf]; exact List.mem_cons_of_mem _ hb)) hr⟩
  exact all X.outer (fun _ hb=>hb) I.ok.funs
theorem Inv.stack (I:Inv X pins σ H s):s.heap.FunFrames X.base X.stack:=by
  rcases I.ok.stk with e | ⟨e,hf⟩
  · rw [e]; exact I.funs
  · rw [e]
    obtain ⟨m,hn,_⟩:=I.loc
    refine .cons (by rw [I.ok.kind]; decide) hf hn ?_ I.funs
    exact Heap.get?_none_of_le (Nat.le_trans I.ok.bsz I.ok.above)
theorem Inv.stkSub (I:Inv X pins σ H s):∀ b∈frs X.stack,b∈X.env.locals :: X.fs:=fun b hb=>by
  rcases I.ok.stk with e | ⟨e,hf⟩
  · rw [e] at hb; exact List.mem_cons_of_mem _ hb
  · rw [e] at hb
    unfold frs at hb
    rw [List.filterMap_cons,hf] at hb
    exact hb
theorem Inv.stkFree (I:Inv X pins σ H s):∀ b∈frs X.stack,H b=none:=fun b hb=>by
  rcases List.mem_cons.mp (I.stkSub b hb) with e | hb
  · rw [e]; exact I.free
  · obtain ⟨_,o,ho,_⟩:=I.ok.funs.mem hb
    exact I.base.free b o ho (I.ok.frf b hb) fun z=>I.ok.exfs b z hb
theorem Inv.step {g':Array GenState} {t':Nat} {d':Drawn} {ch:List Addr} (I:Inv X pins σ H s)
    (hch:∀ b∈ch,(b∈X.ex∨X.s₀.heap.objs.size≤b)∧b≠X.env.locals∧(∀ x c,X.env.cells.lookup x=some c→c≠b)∧∀ p∈X.pn ++ pins,p.1≠b)
    (keep:∀ b o,b≠X.env.locals→b∉ X.fs→b∉ ch→s.heap.get? b=some o→H b=none→h'.get? b=some o)
    (slot:∀ b o,b≠X.env.locals→b∈X.fs→b∉ ch→s.heap.get? b=some o→H b=none→∃ sl,h'.get? b=some { o with slots:=sl }) (free:∀ b o,b∉ ch→s.heap.get? b=some o→H b=none→H' b=none)
    (there:∀ b o,b∉ ch→s.heap.get? b=some o→∃ o',h'.get? b=some o')
    (tups:∀ b xs,H b=some (.tup xs)→H' b=some (.tup xs)) (frzs:∀ b o u,H b=some (.frz o u)→H' b=some (.frz o u)) (tbls:∀ b ps,H b=some (.tbl ps)→∃ more,H' b=some (.tbl (ps ++ more)))
    (ns:∀ m,s.heap.Ns X.env.locals m→h'.Ns X.env.locals m) (hok:HOk X.prog X.w H' h') (hg:AllBare g') :
    Inv X pins σ H' { s with heap:=h',gens:=g',drawn:=d',toks:=t' }:=by
  have neL:∀ b o,X.s₀.heap.get? b=some o→b≠X.env.locals:=fun b o e=>Nat.ne_of_lt (Nat.lt_of_lt_of_le (Heap.lt_size e) I.ok.above)
  have neC:∀ b o,X.s₀.heap.get? b=some o→b∉ X.ex→b∉ ch:=fun b o e hx hb=>by
    rcases (hch b hb).1 with z | z
    · exact hx z
    · exact absurd (Nat.lt_of_lt_of_le (Heap.lt_size e) z) (Nat.lt_irrefl _)
  have cellK:∀ x c,X.env.cells.lookup x=some c→∀ v,s.heap.IsCell c v→h'.IsCell c v:=fun x c e v ⟨o,ho,hd⟩=>by
    have nch:c∉ ch:=fun z=>(hch c z).2.2.1 x c e rfl
    by_cases hc:c∈X.fs
    · obtain ⟨sl,q⟩:=slot c o (I.cne x c e) hc nch ho (I.freeC x c e)
      exact ⟨_,q,hd⟩
    · exact ⟨o,keep c o (I.cne x c e) hc nch ho (I.freeC x c e),hd⟩
  refine ⟨I.ok,I.os,hg,⟨fun b o e n hb hx=>?_,fun b o e n hb hx=>?_,fun b o e n hx=>?_,fun b o e hx=>?_,fun b xs e=>tups b xs (I.base.tups b xs e),fun b o xs e=>frzs b o xs (I.base.frzs b o xs e),fun b ps e=>?_⟩, ?_,fun x c e=>?_, ?_,fun x c e=>?_,fun p hp=>?_,hok,I.len⟩
  · exact keep b o (neL b o e) hb (neC b o e hx) (I.base.keep b o e n hb hx) (I.base.free b o e n hx)
  · obtain ⟨sl,e1⟩:=I.base.slot b o e n hb hx
    obtain ⟨sl',e2⟩:=slot b _ (neL b o e) hb (neC b o e hx) e1 (I.base.free b o e n hx)
    exact ⟨sl',e2⟩
  · obtain ⟨o',e1⟩:=I.base.there b o e hx
    exact free b o' (neC b o e hx) e1 (I.base.free b o e n hx)
  · obtain ⟨o',e1⟩:=I.base.there b o e hx
    exact there b o' (neC b o e hx) e1
  · obtain ⟨m1,e1⟩:=I.base.tbls b ps e
    obtain ⟨m2,e2⟩:=tbls b _ e1
    exact ⟨m1 ++ m2,by rw [e2,Array.append_assoc]⟩
  · obtain ⟨m,hn,hl⟩:=I.loc
    refine ⟨m,ns m hn,fun i x v e1 e2 e3=>?_⟩
    obtain ⟨u,r,l⟩:=hl i x v e1 e2 e3
    refine ⟨u,r, ?_⟩
    rcases l with l | ⟨k,c,e,z⟩
    · exact .inl l
    · exact .inr ⟨k,c,e,cellK x c e _ z⟩
  · obtain ⟨v,z⟩:=I.cell x c e
    exact ⟨v,cellK x c e v z⟩
  · obtain ⟨m,⟨o,_,_,ho,_⟩,_⟩:=I.loc
    exact free _ o (fun z=>(hch _ z).2.1 rfl) ho I.free
  · obtain ⟨v,o,ho,hd⟩:=I.cell x c e
    exact free c o (fun z=>(hch c z).2.2.1 x c e rfl) ho (I.freeC x c e)
  · obtain ⟨e,n,ne,nf,d⟩:=I.pin p hp
    have nch:p.1∉ ch:=fun z=>(hch p.1 z).2.2.2 p hp rfl
    exact ⟨keep p.1 p.2 ne nf nch e n,free p.1 p.2 nch e n,ne,nf,d⟩
theorem Inv.un {t':Nat} (I:Inv X pins σ H s) (u:Un X.fs [] H H' s.heap h') (hok:HOk X.prog X.w H' h'):Inv X pins σ H' { s with heap:=h',toks:=t' }:=by
  obtain ⟨m,⟨o,es,ep,ho,r⟩,_⟩:=id I.loc
  obtain ⟨sl,hL⟩:=u.any ho I.free (by simp)
  exact I.step (g':=s.gens) (d':=s.drawn) (ch:=[]) (fun _ z=>nomatch z) (fun b o _ hb _ e n=>u.keep b o e n hb (by simp)) (fun b o _ hb _ e n=>u.slot b o e n hb (by simp)) (fun b o _ e n=>u.free b o e n (by simp)) (fun b o _ e=>u.there b o e (by simp)) u.tups u.frzs u.tbls (fun m' hm=>by
    obtain ⟨o',es',ep',ho',r'⟩:=hm
    rw [ho] at ho'; cases ho'
    exact ⟨_,es',ep',hL,r'⟩) hok I.bare
theorem Inv.call {g':Array GenState} {t':Nat} {d':Drawn} {ch:List Addr} (I:Inv X pins σ H s) (u:Un (frs X.stack) ch H H' s.heap h') (hok:HOk X.prog X.w H' h') (hg:AllBare g')
    (hch:∀ b∈ch,(b∈X.ex∨X.s₀.heap.objs.size≤b)∧b≠X.env.locals∧(∀ x c,X.env.cells.lookup x=some c→c≠b)∧∀ p∈X.pn ++ pins,p.1≠b) :
    Inv X pins σ H' { s with heap:=h',gens:=g',drawn:=d',toks:=t' }:=by
  obtain ⟨m,⟨o,es,ep,ho,r⟩,_⟩:=id I.loc
  obtain ⟨sl,hL⟩:=u.any ho I.free fun z=>(hch _ z).2.1 rfl
  exact I.step (ch:=ch) hch (fun b o hL hb hc e n=>u.keep b o e n (fun z=>(List.mem_cons.mp (I.stkSub b z)).elim hL hb) hc) (fun b o _ _ hc e n=>u.any e n hc) (fun b o hc e n=>u.free b o e n hc) (fun b o hc e=>u.there b o e hc) u.tups u.frzs u.tbls (fun m' hm=>by
    obtain ⟨o',es',ep',ho',r'⟩:=hm
    rw [ho] at ho'; cases ho'
    exact ⟨_,es',ep',hL,r'⟩) hok hg
theorem Inv.turned {t':Nat} {it:Addr} (I:Inv X pins σ H s) (k:∀ b o,b≠it→s.heap.get? b=some o→h'.get? b=some o) (hn:H it=none) (hL:it≠X.env.locals)
    (h1:it∈X.ex∨X.s₀.heap.objs.size≤it) (h2:∀ x c,X.env.cells.lookup x=some c→c≠it) (h3:∀ p∈X.pn ++ pins,p.1≠it):Inv X pins σ H { s with heap:=h',toks:=t' }:=by
  have nit:∀ b u,H b=some u→b≠it:=fun b u e z=>by rw [z,hn] at e; cases e
  refine I.step (g':=s.gens) (d':=s.drawn) (ch:=[it]) (fun b hb=>?_) (fun b o _ _ hc e _=>k b o (fun z=>hc (by simp [z])) e) (fun b o _ _ hc e _=>⟨o.slots,k b o (fun z=>hc (by simp [z])) e⟩) (fun _ _ _ _ n=>n)
    (fun b o hc e=>⟨o,k b o (fun z=>hc (by simp [z])) e⟩) (fun _ _ e=>e) (fun _ _ _ e=>e) (fun b ps e=>⟨#[],by rw [e]; simp⟩) (fun m hm=>?_) (fun b u e=>?_) I.bare
  · have e:b=it:=by simpa using hb
    subst e
    exact ⟨h1,hL,h2,h3⟩
  · obtain ⟨o,es,ep,ho,r⟩:=hm
    exact ⟨o,es,ep,k _ o (Ne.symm hL) ho,r⟩
  · refine (I.hok b u e).stay (fun c v hc q=>k c v ?_ q) (fun _ q=>q) fun _ _ q=>q
    rcases hc with z | z
    · rw [z]; exact nit b u e
    · exact nit c _ z
theorem Inv.tok (I:Inv X pins σ H s) (t:Nat):Inv X pins σ H { s with toks:=t }:=I.un (h':=s.heap) (t':=t) Un.refl I.hok
theorem Inv.kept {t':Nat} (I:Inv X pins σ H s) (k:∀ b u,s.heap.get? b=some u→h'.get? b=some u):Inv X pins σ H { s with heap:=h',toks:=t' }:=I.un (Un.kept k) (I.hok.kept k)
theorem Inv.laid {a:Addr} {o:HO} {t':Nat} (I:Inv X pins σ H s) (k:∀ b u,s.heap.get? b=some u→h'.get? b=some u) (hp:s.heap.objs.size≤a) (new:cU X.prog X.w (upd H a o) h' a o) :
    Inv X pins σ (upd H a o) { s with heap:=h',toks:=t' }:=I.un (Un.laid k hp (I.hok.fresh hp)) (I.hok.laid k hp new)
theorem Inv.write {x e:Addr} {o:HO} {t':Nat} (I:Inv X pins σ H s) (mu:Mut (H x)) (he:e=x∨H e=some (.own x)) (k:∀ b u,b≠e→s.heap.get? b=some u→h'.get? b=some u) (heo:∃ u,h'.get? e=some u)
    (new:cU X.prog X.w (upd H x o) h' x o):Inv X pins σ (upd H x o) { s with heap:=h',toks:=t' }:=I.un (Un.write mu he k heo) (I.hok.write mu he k heo new)
theorem Inv.weak {σ':List (Option V)} (I:Inv X pins σ H s) (hl:σ'.length=σ.length) (w:∀ (i:Nat) v,σ'[i]? =some (some v)→σ[i]? =some (some v)):Inv X pins σ' H s :=
  ⟨I.ok,I.os,I.bare,I.base,let ⟨m,hn,hl'⟩:=I.loc; ⟨m,hn,fun i x v e1 e2 e3=>hl' i x v e1 (w i v e2) e3⟩,I.cell,I.free,I.freeC,I.pin,I.hok,hl.trans I.len⟩
theorem Inv.pins_of {pins':List (Addr×Obj)} (I:Inv X pins σ H s) (h:∀ p∈pins',s.heap.get? p.1=some p.2∧H p.1=none∧p.1≠X.env.locals∧p.1∉ X.fs∧∀ v,p.2.data≠.cell v):Inv X pins' σ H s :=
  ⟨I.ok,I.os,I.bare,I.base,I.loc,I.cell,I.free,I.freeC,fun p hp=>(List.mem_append.mp hp).elim (fun z=>I.pin p (List.mem_append_left _ z)) (h p),I.hok,I.len⟩
theorem IL {N:List Str} (hN:N.Nodup) {i j:Nat} {x:Str} (a:N[i]? =some x) (b:N[j]? =some x):i=j:=by
  obtain ⟨h1,e1⟩:=List.getElem?_eq_some_iff.mp a
  obtain ⟨h2,e2⟩:=List.getElem?_eq_some_iff.mp b
  exact (List.getElem_inj hN).mp (e1.trans e2.symm)
theorem RU {M:Model} {A:Around} {E:Value→Shared→Prop} {i:Nat} {x:Str} {v:V} {u:Value} {Q:Unit→Shared→Prop} (I:Inv X pins σ H s) (hN:X.N.Nodup) (hi:X.N[i]? =some x) (hx:Loc X.env.scope x) (r:aL v u)
    (h:∀ s',Inv X pins (σ.set i (some v)) H s'→(∃ a,Heap.SameBut a s.heap s'.heap∧(a=X.env.locals∨X.env.cells.lookup x=some a))→Q () s') (hf:X.fn x=true∨X.env.scope.names.lookup x=some .local:=by first | exact .inl rfl | exact .inr rfl | assumption):wpAny M A (storeName X.env x u) Q E s:=by
  obtain ⟨m,hn,hl⟩:=id I.loc
  have hcls:(X.env.scope.kind == .class || (X.env.scope.kind == .module && X.env.locals != X.env.globals))=false:=by rw [I.ok.kind]; rfl
  have hiσ:i < σ.length:=by rw [I.len]; exact (List.getElem?_eq_some_iff.mp hi).1
  have cne:=I.cne
  have tracked:∀ {a:Addr} {h':Heap},(∃ o,s.heap.get? a=some o∧H a=none)→Heap.SameBut a s.heap h'→HOk X.prog X.w H h':=fun {a h'} ha hs b ob e=>by
    obtain ⟨_,_,hfree⟩:=ha
    refine (I.hok b ob e).stay (fun c w' hc q=>(hs.2 c ?_).trans q) (fun _ q=>q) fun _ _ q=>q
    rintro rfl
    rcases hc with rfl | hc
    · rw [hfree] at e; cases e
    · rw [hfree] at hc; cases hc
  rcases hx with hk | hk
  · refine wpAny_storeName_local hk hn (fun h' hn' hs=>?_) hcls
    obtain ⟨oL,_,_,hoL,_⟩:=id hn
    refine h _ ⟨I.ok,I.os,I.bare,⟨fun b o e n hb hx=>?_,fun b o e n hb hx=>?_,I.base.free,fun b o e hx=>?_,I.base.tups,I.base.frzs,I.base.tbls⟩,⟨_,hn',fun j y v' e1 e2 e3=>?_⟩,fun y c e=>?_,I.free,I.freeC,fun p hp=>?_,tracked ⟨oL,hoL,I.free⟩ hs,by simpa using I.len⟩ ⟨_,hs,.inl rfl⟩
    · exact (hs.2 b (Nat.ne_of_lt (Nat.lt_of_lt_of_le (Heap.lt_size e) I.ok.above))).trans (I.base.keep b o e n hb hx)
    · obtain ⟨sl,e1⟩:=I.base.slot b o e n hb hx
      exact ⟨sl,(hs.2 b (Nat.ne_of_lt (Nat.lt_of_lt_of_le (Heap.lt_size e) I.ok.above))).trans e1⟩
    · obtain ⟨o',e1⟩:=I.base.there b o e hx
      exact ⟨o',(hs.2 b (Nat.ne_of_lt (Nat.lt_of_lt_of_le (Heap.lt_size e) I.ok.above))).trans e1⟩
    · by_cases hj:j=i
      · subst hj
        rw [hi] at e1; cases e1
        rw [List.getElem?_set_self hiσ] at e2
        cases e2
        exact ⟨u,r,.inl ⟨hk,by simp⟩⟩
      · rw [List.getElem?_set_ne (Ne.symm hj)] at e2
        obtain ⟨u',r',q⟩:=hl j y v' e1 e2 e3
        refine ⟨u',r', ?_⟩
        rcases q with ⟨k,e⟩ | ⟨k,c,e,z⟩
        · refine .inl ⟨k, ?_⟩
          have:y≠x:=fun e=>hj (IL hN e1 (e▸hi))
          simp [this,e]
        · exact .inr ⟨k,c,e,z.sameBut hs (cne y c e)⟩
    · obtain ⟨w',z⟩:=I.cell y c e
      exact ⟨w',z.sameBut hs (cne y c e)⟩
    · obtain ⟨e,n,ne,nf,d⟩:=I.pin p hp
      exact ⟨(hs.2 p.1 ne).trans e,n,ne,nf,d⟩
  · have hfn:X.fn x=true:=by
      rcases hf with z | z
      · exact z
      · rw [z] at hk; cases hk
    obtain ⟨c,hc⟩:=I.ok.has x (.inl hk)
    obtain ⟨w',z⟩:=I.cell x c hc
    refine wpAny_storeName_cell I.ok.kind hk hc z (fun h' hc' hs=>?_)
    obtain ⟨oc,hoc,hocd⟩:=id z
    refine h { s with heap:=h' } ⟨I.ok,I.os,I.bare,⟨fun b o e n hb hx=>?_,fun b o e n hb hx=>?_,I.base.free,fun b o e hx=>?_,I.base.tups,I.base.frzs,I.base.tbls⟩,⟨m,hn.sameBut hs (Ne.symm (cne x c hc)),fun j y v' e1 e2 e3=>?_⟩,fun y c' e=>?_,I.free,I.freeC,fun p hp=>?_,tracked ⟨oc,hoc,I.freeC x c hc⟩ hs,by simpa using I.len⟩ ⟨c,hs,.inr hc⟩
    · exact (hs.2 b (Nat.ne_of_lt (Nat.lt_of_lt_of_le (Heap.lt_size e) (I.ok.cab x c hfn hc)))).trans (I.base.keep b o e n hb hx)
    · obtain ⟨sl,e1⟩:=I.base.slot b o e n hb hx
      exact ⟨sl,(hs.2 b (Nat.ne_of_lt (Nat.lt_of_lt_of_le (Heap.lt_size e) (I.ok.cab x c hfn hc)))).trans e1⟩
    · obtain ⟨o',e1⟩:=I.base.there b o e hx
      exact ⟨o',(hs.2 b (Nat.ne_of_lt (Nat.lt_of_lt_of_le (Heap.lt_size e) (I.ok.cab x c hfn hc)))).trans e1⟩
    · by_cases hj:j=i
      · subst hj
        rw [hi] at e1; cases e1
        rw [List.getElem?_set_self hiσ] at e2
        cases e2
        exact ⟨u,r,.inr ⟨.inl hk,c,hc,hc'⟩⟩
      · rw [List.getElem?_set_ne (Ne.symm hj)] at e2
        obtain ⟨u',r',q⟩:=hl j y v' e1 e2 e3
        refine ⟨u',r', ?_⟩
        rcases q with q | ⟨k,c',e,z'⟩
        · exact .inl q
        · refine .inr ⟨k,c',e,z'.sameBut hs ?_⟩
          rintro rfl
          exact hj (IL hN e1 (I.ok.inj _ _ _ e hc▸hi))
    · by_cases hcc:c'=c
      · subst hcc; exact ⟨_,hc'⟩
      · obtain ⟨w2,z2⟩:=I.cell y c' e
        exact ⟨w2,z2.sameBut hs hcc⟩
    · obtain ⟨e,n,ne,nf,d⟩:=I.pin p hp
      refine ⟨(hs.2 p.1 ?_).trans e,n,ne,nf,d⟩
      intro q
      rw [q,hoc] at e
      have q':oc=p.2:=Option.some.inj e
      exact d w' (by rw [←q']; exact hocd)
theorem jJ {M:Model} {A:Around} {E:Value→Shared→Prop} {i:Nat} {x:Str} {v:V} {u:Value} {Q:Unit→Shared→Prop} (I:Inv X pins σ H s) (hN:X.N.Nodup) (hi:X.N[i]? =some x) (hx:Loc X.env.scope x) (r:aL v u)
    (h:∀ s',Inv X pins (σ.set i (some v)) H s'→Q () s') (hf:X.fn x=true∨X.env.scope.names.lookup x=some .local:=by first | exact .inl rfl | exact .inr rfl | assumption):wpAny M A (storeName X.env x u) Q E s :=
  RU I hN hi hx r (fun s' I' _=>h s' I') hf
theorem Inv.call' {s':Shared} {ch:List Addr} (I:Inv X pins σ H s) (ho:s'.os=s.os) (u:Un (frs X.stack) ch H H' s.heap s'.heap) (hok:HOk X.prog X.w H' s'.heap) (hg:AllBare s'.gens)
    (hch:∀ b∈ch,(b∈X.ex∨X.s₀.heap.objs.size≤b)∧b≠X.env.locals∧(∀ x c,X.env.cells.lookup x=some c→c≠b)∧∀ p∈X.pn ++ pins,p.1≠b):Inv X pins σ H' s':=by
  obtain ⟨h',g',d',t',o'⟩:=s'
  have e:o'=s.os:=ho
  subst e
  exact I.call (g':=g') (t':=t') (d':=d') u hok hg hch
end
noncomputable abbrev XK:=Value→Option Addr→Hp→Prop
noncomputable abbrev St:=List (Option V)
noncomputable abbrev VK:=V→Hp→Prop
noncomputable abbrev TE:=St→Hp→VK→Prop
noncomputable abbrev TT:=St→Hp→(Bool→Hp→Prop)→Prop
noncomputable abbrev TA:=St→Hp→(List V→Hp→Prop)→Prop
structure FY where
  nx:St→Hp→Prop
  rt:VK
  bk:St→Hp→Prop:=fun _ _=>False
  ct:St→Hp→Prop:=fun _ _=>False
noncomputable abbrev TS:=FY→St→Hp→Prop
noncomputable def EP (X:Cx) (pins:List (Addr×Obj)) (σ:St) (Q:VK) (u:Value) (s':Shared):Prop:= ∃ v H',Inv X pins σ H' s'∧aL v u∧Q v H'
noncomputable def TP (X:Cx) (pins:List (Addr×Obj)) (σ:St) (Q:Bool→Hp→Prop) (b:Bool) (s':Shared):Prop:= ∃ H',Inv X pins σ H' s'∧Q b H'
noncomputable def AP (X:Cx) (pins:List (Addr×Obj)) (σ:St) (Q:List V→Hp→Prop) (us:List Value) (s':Shared):Prop:= ∃ vs H',Inv X pins σ H' s'∧aG vs us∧Q vs H'
noncomputable def SP (X:Cx) (pins:List (Addr×Obj)) (D:FY) (f:Flow) (s':Shared):Prop :=
  match f with
  | .next=>∃ σ' H',Inv X pins σ' H' s'∧D.nx σ' H'
  | .brk=>∃ σ' H',Inv X pins σ' H' s'∧D.bk σ' H'
  | .cont=>∃ σ' H',Inv X pins σ' H' s'∧D.ct σ' H'
  | .ret u=>∃ v σ' H',Inv X pins σ' H' s'∧aL v u∧D.rt v H'
noncomputable def PE (X:Cx) (e:Expr) (t:TE):Prop :=
  ∀ (pins:List (Addr×Obj)) (s:Shared) (σ:St) (H:Hp) (Q:VK),Inv X pins σ H s→t σ H Q→wpAny (model X.prog X.w) X.A (eval e X.env) (EP X pins σ Q) X.xe s
noncomputable def PT (X:Cx) (e:Expr) (t:TT):Prop :=
  ∀ (pins:List (Addr×Obj)) (s:Shared) (σ:St) (H:Hp) (Q:Bool→Hp→Prop),Inv X pins σ H s→t σ H Q→wpAny (model X.prog X.w) X.A (isTrue e X.env (eval e X.env)) (TP X pins σ Q) X.xe s
noncomputable def PW (X:Cx) (e:Expr) (t:TT):Prop :=
  ∀ (whole:Sem Value) (pins:List (Addr×Obj)) (s:Shared) (σ:St) (H:Hp) (Q:Bool→Hp→Prop),Inv X pins σ H s→t σ H Q→wpAny (model X.prog X.w) X.A (isTrue e X.env whole) (TP X pins σ Q) X.xe s
theorem PW.pt {X:Cx} {e:Expr} {t:TT} (h:PW X e t):PT X e t:=h _
noncomputable def PA (X:Cx) (es:List Expr) (t:TA):Prop :=
  ∀ (pos:Pos) (pins:List (Addr×Obj)) (s:Shared) (σ:St) (H:Hp) (Q:List V→Hp→Prop),Inv X pins σ H s→t σ H Q→wpAny (model X.prog X.w) X.A (spliced (backTo pos (starEach es X.env))) (AP X pins σ Q) X.xe s
noncomputable def PS (X:Cx) (st:Stmt) (t:TS):Prop :=
  ∀ (pins:List (Addr×Obj)) (s:Shared) (σ:St) (H:Hp) (D:FY),Inv X pins σ H s→t D σ H→wpAny (model X.prog X.w) X.A (exec st X.env) (SP X pins D) X.xe s
noncomputable def PSs (X:Cx) (st:List Stmt) (t:TS):Prop :=
  ∀ (pins:List (Addr×Obj)) (s:Shared) (σ:St) (H:Hp) (D:FY),Inv X pins σ H s→t D σ H→wpAny (model X.prog X.w) X.A (execs st X.env) (SP X pins D) X.xe s
theorem thn {α:Type} {t:Sem α} {Q Q':α→Shared→Prop} {M:Model} {A:Around} {E:Value→Shared→Prop} {s:Shared} (h:wpAny M A t Q E s) (hQ:∀ a s,Q a s→Q' a s):wpAny M A t Q' E s:=wpAny_mono h hQ fun _ _ x=>x
section
variable {X:Cx}
theorem bin {a b:Expr} {ta tb:TE} (ha:PE X a ta) (hb:PE X b tb) {pins:List (Addr×Obj)} {s:Shared} {σ:St} {H:Hp} {R:V→V→Hp→Prop} (I:Inv X pins σ H s) (h:ta σ H fun x H1=>tb σ H1 fun y H2=>R x y H2)
    {α:Type} {Q:α→Shared→Prop} {f:Value→Value→Sem α}
    (hf:∀ v u s2 x y H2,Inv X pins σ H2 s2→aL x v→aL y u→R x y H2→wpAny (model X.prog X.w) X.A (f v u) Q X.xe s2) :
    wpAny (model X.prog X.w) X.A (eval a X.env) (fun v s₁=>wpAny (model X.prog X.w) X.A (eval b X.env) (fun u s₂=>wpAny (model X.prog X.w) X.A (f v u) Q X.xe s₂) X.xe s₁) X.xe s:=by
  refine thn (ha pins s σ H _ I h) fun v s1 ⟨x,H1,I1,r1,q1⟩=>?_
  refine thn (hb pins s1 σ H1 _ I1 q1) fun u s2 ⟨y,H2,I2,r2,q2⟩=>?_
  exact hf v u s2 x y H2 I2 r1 r2 q2
noncomputable def aJ6 (i:Nat):TE:=fun σ H Q=>∃ v,σ[i]? =some (some v)∧Q v H
noncomputable def tC (v:V):TE:=fun _ H Q=>Q v H
theorem MI {i:Nat} {x:Str} {pos:Pos} (hN:X.N[i]? =some x) (hv:Vis X.env.scope x) (hd:(x == ("__debug__":Str))=false:=by decide) (hcd:(x == ("__classdict__":Str))=false:=by decide):PE X (.Name x pos) (aJ6 i):=by
  intro pins s σ H Q I h
  obtain ⟨v,e,h⟩:=h
  obtain ⟨m,hn,hl⟩:=I.loc
  obtain ⟨u,r,l⟩:=hl i x v hN e hv
  have fin:EP X pins σ Q u s:=⟨v,H,I,r,h⟩
  rcases l with ⟨hk,hm⟩ | ⟨hk,c,hc,hcell⟩
  · exact wpAny_Name (wpAny_loadName_local I.ok.kind hk hn hm fin) hd
  · rcases hk with hk | hk
    · exact wpAny_Name (wpAny_loadName_cell I.ok.kind hk hc hcell fin) hd
    · exact wpAny_Name (wpAny_loadName_free I.ok.kind hk hc hcell fin hcd) hd
theorem aIf {i j pos}:PE X (.Constant (.int i) j pos) (tC (.int i)):=fun _ _ _ H _ I h=>wpAny_Constant_int ⟨.int i,H,I.tok _,⟨_,rfl⟩,h⟩
theorem aKK {b j pos}:PE X (.Constant (.bool b) j pos) (tC (.bl b)):=fun _ _ _ H _ I h=>Constant_bool ⟨.bl b,H,I,rfl,h⟩
theorem aIm {j pos}:PE X (.Constant .none j pos) (tC .non):=fun _ _ _ H _ I h=>Constant_none ⟨.non,H,I,rfl,h⟩
theorem aF3 {x j pos}:PE X (.Constant (.str x) j pos) (tC (.str x)):=fun _ _ _ H _ I h=>Calls.Constant_str ⟨.str x,H,I.tok _,⟨_,rfl⟩,h⟩
noncomputable def Gl (X:Cx) (x:Str):Prop:=X.env.kindOf x=some .globalImplicit
theorem mH {E:Value→Shared→Prop} {pins:List (Addr×Obj)} {s:Shared} {σ:St} {H:Hp} {x:Str} {u:Value} {pos:Pos} {Q:Value→Shared→Prop} (I:Inv X pins σ H s) (hg:Gl X x) (hm:X.mg x=some u) (h:Q u s)
    (hd:(x == ("__debug__":Str))=false:=by decide):wpAny (model X.prog X.w) X.A (eval (.Name x pos) X.env) Q E s :=
  Calls.Name_function_global I.ok.kind hg (Calls.loadGlobal_global (by rw [I.ok.glob]; exact I.mod.glob.keeps I.bk) hm h) hd
theorem nK {E:Value→Shared→Prop} {pins:List (Addr×Obj)} {s:Shared} {σ:St} {H:Hp} {x:Str} {u:Value} {pos:Pos} {Q:Value→Shared→Prop} (I:Inv X pins σ H s) (hg:Gl X x) (hm:X.mg x=none) (hv:bootBuiltins x=some u) (h:Q u s)
    (hn:x≠"__name__":=by decide) (hd:(x == ("__debug__":Str))=false:=by decide):wpAny (model X.prog X.w) X.A (eval (.Name x pos) X.env) Q E s:=by
  obtain ⟨mb,h1,h2⟩:=I.mod.blt
  exact Calls.Name_function_global I.ok.kind hg (Calls.loadGlobal_builtin (by rw [I.ok.glob]; exact I.mod.glob.keeps I.bk) hm (by rw [I.ok.blt]; exact h1.keeps I.bk) ((h2 x hn).trans hv) h) hd
theorem FB {x:Str} {v:V} {u:Value} {pos:Pos} (hg:Gl X x) (hm:X.mg x=some u) (r:aL v u) (hd:(x == ("__debug__":Str))=false:=by decide):PE X (.Name x pos) (tC v) :=
  fun _ _ _ H _ I h=>mH I hg hm ⟨v,H,I,r,h⟩ hd
theorem aC9 {x:Str} {v:V} {u:Value} {pos:Pos} (hg:Gl X x) (hm:X.mg x=none) (hv:bootBuiltins x=some u) (r:aL v u) (hn:x≠"__name__":=by decide) (hd:(x == ("__debug__":Str))=false:=by decide):PE X (.Name x pos) (tC v) :=
  fun _ _ _ H _ I h=>nK I hg hm hv ⟨v,H,I,r,h⟩ hn hd
variable {a b:Expr} {ta tb:TE} {pos:Pos}
variable {tA tB':TT} {dM:List Expr}
noncomputable def aLN (t u:TT):TT:=fun σ H Q=>t σ H fun c H1=>if c=true then u σ H1 Q else Q false H1
noncomputable def tOr (t u:TT):TT:=fun σ H Q=>t σ H fun c H1=>if c=true then Q true H1 else u σ H1 Q
noncomputable def aNE (t:TT):TT:=fun σ H Q=>t σ H fun c H1=>Q (!c) H1
theorem aCp (ha:PT X a tA):PW X (.BoolOp .And [a] pos) tA:=by
  intro wh pins s σ H Q I h
  refine isTrue_and (thn (ha pins s σ H Q I h) fun c s1 e=>?_)
  cases c with
  | true=>exact isTrue_and_nil e
  | false=>exact e
theorem aGT (ha:PT X a tA):PW X (.BoolOp .Or [a] pos) tA:=by
  intro wh pins s σ H Q I h
  refine isTrue_or (thn (ha pins s σ H Q I h) fun c s1 e=>?_)
  cases c with
  | false=>exact isTrue_or_nil e
  | true=>exact e
theorem aIC (ha:PT X a tA) (hb:PW X (.BoolOp .And (b :: dM) pos) tB'):PW X (.BoolOp .And (a :: b :: dM) pos) (aLN tA tB'):=by
  intro wh pins s σ H Q I h
  refine isTrue_and (thn (ha pins s σ H _ I h) fun c s1 ⟨H1,I1,q1⟩=>?_)
  cases c with
  | true=>exact hb wh pins s1 σ H1 Q I1 q1
  | false=>exact ⟨H1,I1,q1⟩
theorem aJT (ha:PT X a tA) (hb:PW X (.BoolOp .Or (b :: dM) pos) tB'):PW X (.BoolOp .Or (a :: b :: dM) pos) (tOr tA tB'):=by
  intro wh pins s σ H Q I h
  refine isTrue_or (thn (ha pins s σ H _ I h) fun c s1 ⟨H1,I1,q1⟩=>?_)
  cases c with
  | true=>exact ⟨H1,I1,q1⟩
  | false=>exact hb wh pins s1 σ H1 Q I1 q1
theorem aHC (ha:PT X a tA):PT X (.UnaryOp .Not a pos) (aNE tA):=by
  intro pins s σ H Q I h
  exact isTrue_not (ha pins s σ H (fun c H1=>Q (!c) H1) I h)
theorem aGV {op} {t:TE} (h:PE X a t):PE X (.BoolOp op [a] pos) t:=fun pins s σ H Q I hw=>BoolOp_one (h pins s σ H Q I hw)
end
noncomputable def SqL (K:W.Frag) (H:Hp) (a:Addr) (xs:List V):Prop :=
  Rd H a (.lst xs)∨
    ∃ (o:Obj) (its:Array Value) (n:Nat),K.lookup a=some o∧o.cls= .type "list"∧o.dict=none∧o.data= .seq its n∧its.size≤sizeLine∧aG xs its.toList
noncomputable def SqT (K:W.Frag) (H:Hp) (a:Addr) (xs:List V):Prop :=
  Rd H a (.tup xs)∨
    ∃ (o:Obj) (its:Array Value) (n:Nat),K.lookup a=some o∧o.cls= .type "tuple"∧o.data= .seq its n∧its.size≤sizeLine∧aG xs its.toList∧o.dict=none
noncomputable def aL5:Value→Option V
  | .none=>some .non
  | .bool b=>some (.bl b)
  | .int i _=>some (.int i)
  | .str x _=>some (.str x)
  | .bytes b _=>some (.byt b)
  | .float b _=>some (.flt b)
  | .ref a=>some (.ref a)
  | .type n=>some (.ty n)
  | _=>none
theorem aL.abs {x:V} {u:Value} (r:aL x u):aL5 u=some x:=by
  cases x with
  | non=>cases r; rfl
  | bl _=>cases r; rfl
  | int _=>obtain ⟨t,rfl⟩:=r; rfl
  | str _=>obtain ⟨t,rfl⟩:=r; rfl
  | byt _=>obtain ⟨t,rfl⟩:=r; rfl
  | flt _=>obtain ⟨t,rfl⟩:=r; rfl
  | ref _=>cases r; rfl
  | ty _=>cases r; rfl
theorem aL.inj {x y:V} {u:Value} (r:aL x u) (q:aL y u):x=y:=Option.some.inj (r.abs.symm.trans q.abs)
theorem aG.inj:∀ {xs ys:List V} {us:List Value},aG xs us→aG ys us→xs=ys
  | _,_,_,.nil,.nil=>rfl
  | _,_,_,.cons r t,.cons r' t'=>by rw [r.inj r',aG.inj t t']
section
variable {X:Cx} {pins:List (Addr×Obj)} {σ:St} {H:Hp} {s:Shared} {a:Addr} {xs ys:List V}
theorem SqL.of {K:W.Frag} (h:H a=some (.lst xs)):SqL K H a xs:=.inl (.inl h)
theorem SqT.of {K:W.Frag} (h:H a=some (.tup xs)):SqT K H a xs:=.inl (.inl h)
theorem Inv.list (I:Inv X pins σ H s) (h:SqL X.K H a xs):∃ its:List Value,aG xs its∧PlainL s.heap a its.toArray∧xs.length≤sizeLine:=by
  rcases h with h | ⟨o,its,n,hk,hc,hd,hs,hz,r⟩
  · obtain ⟨z,its,n,r,e⟩:=h.ok I.hok
    exact ⟨its,r,⟨_,n,e,rfl,rfl,rfl⟩,z⟩
  · refine ⟨its.toList,r,⟨o,n,I.kIn a o hk,hc,hd,by simpa using hs⟩, ?_⟩
    have e:=r.length
    simp only [Array.length_toList] at e
    omega
theorem Inv.tuple (I:Inv X pins σ H s) (h:SqT X.K H a xs):∃ its:List Value,aG xs its∧IsTup s.heap a its.toArray∧xs.length≤sizeLine:=by
  rcases h with h | ⟨o,its,n,hk,hc,hs,hz,r,_⟩
  · obtain ⟨z,its,r,p⟩:=h.ok I.hok
    exact ⟨its,r,p.1,z⟩
  · refine ⟨its.toList,r,⟨o,I.kIn a o hk,hc,n,by simpa using hs⟩, ?_⟩
    have e:=r.length
    simp only [Array.length_toList] at e
    omega
theorem Inv.list_inj (I:Inv X pins σ H s) (h:SqL X.K H a xs) (h':SqL X.K H a ys):xs=ys:=by
  obtain ⟨its,r,⟨o,n,e,_,_,d⟩,_⟩:=I.list h
  obtain ⟨its',r',⟨o',n',e',_,_,d'⟩,_⟩:=I.list h'
  rw [e] at e'; cases e'
  rw [d] at d'
  injection d' with d1 _
  have:its=its':=by simpa using congrArg Array.toList d1
  subst this
  exact r.inj r'
theorem Inv.tuple_inj (I:Inv X pins σ H s) (h:SqT X.K H a xs) (h':SqT X.K H a ys):xs=ys:=by
  obtain ⟨its,r,⟨o,e,_,n,d⟩,_⟩:=I.tuple h
  obtain ⟨its',r',⟨o',e',_,n',d'⟩,_⟩:=I.tuple h'
  rw [e] at e'; cases e'
  rw [d] at d'
  injection d' with d1 _
  have:its=its':=by simpa using congrArg Array.toList d1
  subst this
  exact r.inj r'
end
noncomputable abbrev Cx.wish (X:Cx) (E:Value→Shared→Prop):Cx:={ X with xe:=E }
noncomputable abbrev Cx.nox (X:Cx):Cx:=X.wish fun _ _=>False
theorem Cx.Ok.wish {X:Cx} (ok:X.Ok) (E:Value→Shared→Prop):(X.wish E).Ok :=
  ⟨ok.mod,ok.kind,ok.glob,ok.blt,ok.above,ok.inj,ok.has,ok.cab,ok.hd,ok.frames,ok.stk,ok.exf,ok.bs,ok.bsz,ok.noex,ok.exfs,ok.funs,ok.frf⟩
theorem Cx.Ok.unwish {X:Cx} {E:Value→Shared→Prop} (ok:(X.wish E).Ok):X.Ok :=
  ⟨ok.mod,ok.kind,ok.glob,ok.blt,ok.above,ok.inj,ok.has,ok.cab,ok.hd,ok.frames,ok.stk,ok.exf,ok.bs,ok.bsz,ok.noex,ok.exfs,ok.funs,ok.frf⟩
section
variable {X:Cx} {pins:List (Addr×Obj)} {σ:St} {H:Hp} {s:Shared} {E:Value→Shared→Prop}
theorem Inv.wish (I:Inv X pins σ H s) (E:Value→Shared→Prop):Inv (X.wish E) pins σ H s:=⟨I.ok.wish E,I.os,I.bare,I.base,I.loc,I.cell,I.free,I.freeC,I.pin,I.hok,I.len⟩
theorem Inv.unwish (I:Inv (X.wish E) pins σ H s):Inv X pins σ H s:=⟨I.ok.unwish,I.os,I.bare,I.base,I.loc,I.cell,I.free,I.freeC,I.pin,I.hok,I.len⟩
theorem SP.unwish {D:FY} {f:Flow} {s':Shared} (h:SP (X.wish E) pins D f s'):SP X pins D f s':=by
  cases f with
  | next=>obtain ⟨σ',H',I,q⟩:=h; exact ⟨σ',H',I.unwish,q⟩
  | brk=>obtain ⟨σ',H',I,q⟩:=h; exact ⟨σ',H',I.unwish,q⟩
  | cont=>obtain ⟨σ',H',I,q⟩:=h; exact ⟨σ',H',I.unwish,q⟩
  | ret u=>obtain ⟨v,σ',H',I,r,q⟩:=h; exact ⟨v,σ',H',I.unwish,r,q⟩
theorem PE.nox {e:Expr} {t:TE} (h:PE X.nox e t):PE X e t:=fun pins s σ H Q I hw =>
  wpAny_mono (h pins s σ H Q (I.wish _) hw) (fun _ _ ⟨v,H',I',r,q⟩=>⟨v,H',I'.unwish,r,q⟩) fun _ _ z=>False.elim z
theorem PT.nox {e:Expr} {t:TT} (h:PT X.nox e t):PT X e t:=fun pins s σ H Q I hw =>
  wpAny_mono (h pins s σ H Q (I.wish _) hw) (fun _ _ ⟨H',I',q⟩=>⟨H',I'.unwish,q⟩) fun _ _ z=>False.elim z
theorem PSs.nox {st:List Stmt} {t:TS} (h:PSs X.nox st t):PSs X st t:=fun pins s σ H D I hw =>
  wpAny_mono (h pins s σ H D (I.wish _) hw) (fun _ _ q=>q.unwish) fun _ _ z=>False.elim z
end
section
variable {X:Cx} {st:Stmt} {dM:List Stmt} {t u:TS} {e:Expr} {te:TE} {pos:Pos}
noncomputable def VB:TS:=fun D σ H=>D.nx σ H
noncomputable def aM2 (t u:TS):TS:=fun D σ H=>t { D with nx:=u D } σ H
theorem aDg:PSs X [] VB:=fun _ _ σ H _ I h=>wpAny_execs_nil ⟨σ,H,I,h⟩
theorem aAI (h1:PS X st t) (h2:PSs X dM u):PSs X (st :: dM) (aM2 t u):=by
  intro pins s σ H D I h
  refine wpAny_execs_cons (thn (h1 pins s σ H { D with nx:=u D } I h) fun f s1 q=>?_)
  cases f with
  | next =>
    obtain ⟨σ',H',I',q⟩:=q
    exact h2 pins s1 σ' H' D I' q
  | ret v=>exact q
  | brk=>exact q
  | cont=>exact q
theorem aB0 (h1:PS X st t):PSs X [st] t:=by
  intro pins s σ H D I h
  refine wpAny_execs_cons (thn (h1 pins s σ H D I h) fun f s1 q=>?_)
  cases f with
  | next=>exact wpAny_execs_nil q
  | ret v=>exact q
  | brk=>exact q
  | cont=>exact q
theorem aBG:PS X (.Pass pos) VB:=fun _ _ σ H _ I h=>wpAny_Pass ⟨σ,H,I,h⟩
theorem Inv.quiet {pins:List (Addr×Obj)} {σ:St} {H:Hp} {s:Shared} (I:Inv X pins σ H s):interactive X.env=false:=by simp [interactive,I.ok.kind]
theorem aHw {x j pos pos'}:PS X (.Expr (.Constant (.str x) j pos) pos') VB:=fun _ s σ H _ I h=>wpAny_Expr (Calls.Constant_str (show SP X _ _ .next { s with toks:=s.toks + 1 } from ⟨σ,H,I.tok _,h⟩)) I.quiet
noncomputable def aLP (te:TE):TS:=fun D σ H=>te σ H fun _ H1=>D.nx σ H1
theorem aCK (he:PE X e te) (hs:swapsWith e none pos.line X.env=pure false:=by rfl):PS X (.Expr e pos) (aLP te):=by
  intro pins s σ H D I h
  exact wpAny_Expr_any (thn (he pins s σ H _ I h) fun v s1 ⟨x,H1,I1,r1,q1⟩=>⟨σ,H1,I1,q1⟩) I.quiet hs
noncomputable def aNo (te:TE):TS:=fun D σ H=>te σ H D.rt
theorem aHZ (he:PE X e te):PS X (.Return (some e) pos) (aNo te):=by
  intro pins s σ H D I h
  exact wpAny_Return_some (thn (he pins s σ H _ I h) fun v s1 ⟨x,H1,I1,r1,q1⟩=>⟨x,σ,H1,I1,r1,q1⟩)
noncomputable def aIY:TS:=fun D _ H=>D.rt .non H
theorem aCX:PS X (.Return none pos) aIY:=fun _ _ σ H _ I h=>wpAny_Return_none ⟨.non,σ,H,I,rfl,h⟩
noncomputable def aMe (c:TT) (t u:TS):TS:=fun D σ H=>c σ H fun b H1=>if b=true then t D σ H1 else u D σ H1
theorem aJP {c:Expr} {a b:List Stmt} {tc:TT} (hc:PT X c tc) (ha:PSs X a t) (hb:PSs X b u):PS X (.If c a b pos) (aMe tc t u):=by
  intro pins s σ H D I h
  refine wpAny_If (thn (hc pins s σ H _ I h) fun d s1 ⟨H1,I1,q1⟩=>?_)
  cases d with
  | true=>exact ha pins s1 σ H1 D I1 q1
  | false=>exact hb pins s1 σ H1 D I1 q1
noncomputable def aBr:TS:=fun _ _ _=>False
theorem aBm:PS X st aBr:=fun _ _ _ _ _ _ h=>h.elim
theorem SX {sts:List Stmt}:PSs X sts aBr:=fun _ _ _ _ _ _ h=>h.elim
end
noncomputable abbrev TG:=V→St→Hp→(St→Hp→Prop)→Prop
noncomputable abbrev TGs:=List V→St→Hp→(St→Hp→Prop)→Prop
noncomputable def PG (X:Cx) (target:Expr) (t:TG):Prop :=
  ∀ (pins:List (Addr×Obj)) (s:Shared) (σ:St) (H:Hp) (v:V) (u:Value) (Q:St→Hp→Prop),Inv X pins σ H s→aL v u→t v σ H Q→
    wpAny (model X.prog X.w) X.A (assign target X.env u) (fun _ s'=>∃ σ' H',Inv X pins σ' H' s'∧Q σ' H') X.xe s
noncomputable def PGs (X:Cx) (ts:List Expr) (t:TGs):Prop :=
  ∀ (pins:List (Addr×Obj)) (s:Shared) (σ:St) (H:Hp) (vs:List V) (us:List Value) (Q:St→Hp→Prop),Inv X pins σ H s→aG vs us→t vs σ H Q→
    wpAny (model X.prog X.w) X.A (assignInOrder ((assignEach ts X.env).map (·.2)) us) (fun _ s'=>∃ σ' H',Inv X pins σ' H' s'∧Q σ' H') X.xe s
noncomputable abbrev aCU:=V→V→V→Hp→(Hp→Prop)→Prop
noncomputable def aHy (X:Cx) (t:aCU):Prop :=
  ∀ (pins:List (Addr×Obj)) (s:Shared) (σ:St) (H:Hp) (o i v:V) (ov iv u:Value) (Q:Hp→Prop),Inv X pins σ H s→aL o ov→aL i iv→aL v u→t o i v H Q→
    wpAny (model X.prog X.w) X.A (setItem ov iv u) (fun _ s'=>∃ H',Inv X pins σ H' s'∧Q H') X.xe s
section
variable {X:Cx} {pos:Pos}
noncomputable def UP (i:Nat):TG:=fun v σ H Q=>Q (σ.set i (some v)) H
theorem OI {i:Nat} {x:Str} (hN:X.N.Nodup) (hi:X.N[i]? =some x) (hx:Loc X.env.scope x) (hf:X.fn x=true∨X.env.scope.names.lookup x=some .local:=by first | exact .inl rfl | exact .inr rfl | assumption):PG X (.Name x pos) (UP i):=by
  intro pins s σ H v u Q I r h
  exact wpAny_assign_Name (jJ I hN hi hx r (fun s' I'=>⟨_,H,I',h⟩) hf)
noncomputable def aMU:TGs:=fun vs σ H Q=>vs=[]∧Q σ H
noncomputable def aJo (t:TG) (u:TGs):TGs:=fun vs σ H Q=>∃ v r,vs=v :: r∧t v σ H fun σ' H'=>u r σ' H' Q
theorem aCb:PGs X [] aMU:=by
  intro pins s σ H vs us Q I r h
  obtain ⟨e,h⟩:=h
  subst e
  cases r
  exact assignInOrder_nil ⟨σ,H,I,h⟩
theorem aBe {e:Expr} {es:List Expr} {t:TG} {u:TGs} (h1:PG X e t) (h2:PGs X es u)
    (hs:(assignEach (e :: es) X.env).map (·.2)=assign e X.env :: (assignEach es X.env).map (·.2):=by rfl):PGs X (e :: es) (aJo t u):=by
  intro pins s σ H vs us Q I r h
  obtain ⟨v,vr,e1,h⟩:=h
  subst e1
  cases r with
  | cons r rr =>
    rw [hs]
    refine assignInOrder_cons (thn (h1 pins s σ H _ _ _ I r h) fun _ s1 ⟨σ1,H1,I1,q1⟩=>?_)
    exact h2 pins s1 σ1 H1 _ _ Q I1 rr q1
noncomputable def aMZ (K:W.Frag) (n:Nat) (t:TGs):TG:=fun v σ H Q=>∃ a xs,v= .ref a∧SqT K H a xs∧xs.length=n∧t xs σ H Q
theorem aFN {es:List Expr} {k:Nat} {t:TGs} {n:Nat} (hc:X.calm=true) (h:PGs X es t)
    (hn:(assignEach es X.env).length=n:=by rfl) (hst:(assignEach es X.env).findIdx? (·.1)=none:=by rfl):PG X (.Tuple es k pos) (aMZ X.K n t):=by
  intro pins s σ H v u Q I r hw
  obtain ⟨a,xs,e1,hq,hl,hw⟩:=hw
  subst e1
  cases r
  obtain ⟨its,rv,ht,hz⟩:=I.tuple hq
  refine assign_Tuple_tuple (I.ok.hd hc) ht (by simp [hn,←hl,rv.length]) hst fun h' hx=>?_
  have I1:Inv X pins σ H { s with heap:=h' }:=I.kept (t':=s.toks) fun b o e=>hx b o (Nat.ne_of_lt (Heap.lt_size e)) e
  exact h pins _ σ H xs _ Q I1 (by simpa using rv) hw
noncomputable def aL4 (to ti:TE) (t:aCU):TG:=fun v σ H Q=>to σ H fun o H1=>ti σ H1 fun i H2=>t o i v H2 fun H3=>Q σ H3
theorem aIw {o i:Expr} {to ti:TE} {t:aCU} (ho:PE X o to) (hi:PE X i ti) (hs:aHy X t)
    (ha:∀ v,assign (.Subscript o i pos) X.env v=(do
      let ov ←holding [v] (eval o X.env)
      let iv ←holding [v,ov] (eval i X.env)
      standAt pos
      holding [v,ov,iv] (setItem ov iv v)
      release [v,ov,iv] []):=by intro _; rfl):PG X (.Subscript o i pos) (aL4 to ti t):=by
  intro pins s σ H v u Q I r h
  rw [ha]
  refine wpAny_bind (wpAny_holding (thn (ho pins s σ H _ I h) fun ov s1 ⟨x,H1,I1,r1,q1⟩=>?_))
  refine wpAny_bind (wpAny_holding (thn (hi pins s1 σ H1 _ I1 q1) fun iv s2 ⟨y,H2,I2,r2,q2⟩=>?_))
  refine wpAny_bind (wpAny_standAt (wpAny_bind (wpAny_holding (thn (hs pins s2 σ H2 x y v ov iv u _ I2 r1 r2 r q2) fun _ s3 ⟨H3,I3,q3⟩=>?_))))
  exact wpAny_release ⟨σ,H3,I3,q3⟩
noncomputable def aHm (te:TE) (g:TG):TS:=fun D σ H=>te σ H fun x H1=>g x σ H1 D.nx
theorem aA8 {tg e:Expr} {te:TE} {g:TG} (he:PE X e te) (hg:PG X tg g) (hs:swapsWithSole [tg] e pos.line X.env=pure false:=by rfl) (hw:swappedStores [tg] e X.env=pure none:=by rfl)
    (h1:(assignEach [tg] X.env).map (·.2)=[assign tg X.env]:=by rfl):PS X (.Assign [tg] e pos) (aHm te g):=by
  intro pins s σ H D I h
  refine wpAny_Assign_stores (thn (he pins s σ H _ I h) fun v s1 ⟨x,H1,I1,r1,q1⟩=>?_) hs hw
  rw [h1]
  exact thn (hg pins s1 σ H1 x v _ I1 r1 q1) fun _ s2 q=>q
noncomputable def aMm (i j:Nat) (ta:TA):TS:=fun D σ H=>ta σ H fun vs H1=>∃ v w,vs=[v,w]∧D.nx ((σ.set i (some v)).set j (some w)) H1
theorem aIB {i j:Nat} {x y:Str} {a b:Expr} {ta:TA} {px py pt:Pos} {kt k2 pt2} (hc:X.calm=true) (hN:X.N.Nodup) (hi:X.N[i]? =some x) (hj:X.N[j]? =some y) (hij:i≠j)
    (hx:X.env.scope.names.lookup x=some .local) (hy:X.env.scope.names.lookup y=some .local) (ha:PA X [a,b] ta)
    (hw:swappedStores [.Tuple [.Name x px,.Name y py] kt pt] (.Tuple [a,b] k2 pt2) X.env=pure (some [x,y]))
    (hs:swapsWithSole [.Tuple [.Name x px,.Name y py] kt pt] (.Tuple [a,b] k2 pt2) pos.line X.env=pure false:=by rfl) :
    PS X (.Assign [.Tuple [.Name x px,.Name y py] kt pt] (.Tuple [a,b] k2 pt2) pos) (aMm i j ta):=by
  intro pins s σ H D I h
  rw [exec_Assign_arm]
  refine wpAny_bind (wpAny_standAt ?_)
  rw [hs]
  refine wpAny_bind (wpAny_pure ?_)
  rw [if_neg (by decide)]
  refine wpAny_bind (Tuple_ (thn (ha _ pins s σ H _ I h) fun us s1 ⟨vs,H1,I1,r1,q1⟩=>?_))
  obtain ⟨v,w,e1,q1⟩:=q1
  subst e1
  obtain ⟨u1,u2,rfl,rv,rw'⟩:∃ u1 u2,us=[u1,u2]∧aL v u1∧aL w u2:=by
    cases r1 with
    | cons p q =>
      cases q with
      | cons p' q' =>
        cases q'
        exact ⟨_,_,rfl,p,p'⟩
  refine wpAny_newObj_type ?_ (by show 2≤sizeLine; decide)
  have I2:Inv X pins σ H1 { s1 with heap:=s1.heap.push { cls:=.type "tuple",data:=.seq [u1,u2].toArray } }:=I1.kept (t':=s1.toks) fun b o e=>Heap.get?_push_of_some _ e
  rw [hw]
  refine wpAny_bind (wpAny_pure ?_)
  show wpAny (model X.prog X.w) X.A (do rule "assign.swapped-stores"; let items ←unpackItems (.ref s1.heap.objs.size) 2 none; assignInOrder [fun v=>bindName X.env y v,fun v=>bindName X.env x v] items.reverse; pure Flow.next) _ _ _
  refine wpAny_bind (wpAny_rule (wpAny_bind (unpackItems_tuple (items:= #[u1,u2]) (I.ok.hd hc) (IsTup.new s1.heap _) fun h' hx'=>?_)))
  have I3:=I2.kept (h':=h') (t':=s1.toks) fun b o e=>hx' b o (Nat.ne_of_lt (Heap.lt_size e)) e
  show wpAny _ _ (assignInOrder [fun v=>bindName X.env y v,fun v=>bindName X.env x v] [u2,u1] >>= fun _=>pure Flow.next) _ _ _
  refine wpAny_bind (assignInOrder_cons (wpAny_bindName (jJ I3 hN hj (.inl hy) rw' (fun s2 I4=>?_) (.inr hy))))
  refine assignInOrder_cons (wpAny_bindName (jJ I4 hN hi (.inl hx) rv (fun s3 I5=>assignInOrder_nil (wpAny_pure ?_)) (.inr hx)))
  rw [List.set_comm _ _ (Ne.symm hij)] at I5
  exact ⟨_,H1,I5,q1⟩
end
section
variable {X:Cx} {pos:Pos}
noncomputable def aGO (c:TT) (tb:TS):TS:=fun D σ H=>∃ W:Nat→St→Hp→Prop,(∃ m,W m σ H)∧∀ m σ H,W m σ H→
  c σ H fun b H1=>if b=true then ∃ N:St→Hp→Prop,(∀ σ' H',N σ' H'→∃ m',m' < m∧W m' σ' H')∧tb { D with nx:=N,ct:=N,bk:=D.nx } σ H1 else D.nx σ H1
theorem VJ {c:Expr} {body:List Stmt} {tc:TT} {tb:TS} (hp:PassesOwn (model X.prog X.w) X.A X.env X.xe) (hc:PT X c tc) (hb:PSs X body tb):PS X (.While c body [] pos) (aGO tc tb):=by
  intro pins s σ H D I h
  obtain ⟨W,⟨m0,w0⟩,turn⟩:=h
  refine wpAny_While (codeAny_whileLoop (fun n s'=>∃ σ' H',Inv X pins σ' H' s'∧W n σ' H') ?_ m0 ⟨σ,H,I,w0⟩)
  rintro n s1 ⟨σ1,H1,I1,w1⟩
  refine wpAny_passesOwn hp (thn (hc pins s1 σ1 H1 _ I1 (turn n σ1 H1 w1)) fun b s2 ⟨H2,I2,q2⟩=>?_)
  cases b with
  | true =>
    obtain ⟨N,hN,q2⟩:=q2
    rw [if_pos rfl]
    refine wpAny_passesOwn hp (thn (hb pins s2 σ1 H2 _ I2 q2) fun f s3 q3=>?_)
    cases f with
    | next =>
      obtain ⟨σ3,H3,I3,n3⟩:=q3
      obtain ⟨m',hm,w3⟩:=hN σ3 H3 n3
      exact ⟨m',hm,σ3,H3,I3,w3⟩
    | cont =>
      obtain ⟨σ3,H3,I3,n3⟩:=q3
      obtain ⟨m',hm,w3⟩:=hN σ3 H3 n3
      exact ⟨m',hm,σ3,H3,I3,w3⟩
    | brk=>exact q3
    | ret v=>exact q3
  | false =>
    rw [if_neg Bool.false_ne_true]
    exact wpAny_execs_nil ⟨σ1,H2,I2,q2⟩
end
structure It where
  go:Nat→Hp→Prop
  yld:Nat→Hp→V→Hp→Prop
  stop:Nat→Hp→Prop
noncomputable def zP (X:Cx) (pins:List (Addr×Obj)) (H:Hp) (b:Addr):Prop :=
  H b=none∧b≠X.env.locals∧b∉ X.fs∧(b∈X.ex∨X.s₀.heap.objs.size≤b)∧(∀ x c,X.env.cells.lookup x=some c→c≠b)∧∀ p∈X.pn ++ pins,p.1≠b
theorem Inv.fpOk {X:Cx} {pins:List (Addr×Obj)} {σ:St} {H H':Hp} {s:Shared} {b:Addr} (I:Inv X pins σ H s) (hb:s.heap.objs.size≤b) (hn:H' b=none):zP X pins H' b:=by
  refine ⟨hn,Nat.ne_of_gt (Nat.lt_of_lt_of_le I.lt hb),I.nofs hb,.inr (Nat.le_trans I.sz hb),fun x c e z=>?_,fun p hp z=>?_⟩
  · obtain ⟨v,q⟩:=I.cell x c e
    exact absurd (Nat.lt_of_lt_of_le q.lt (by rw [z]; exact hb)) (Nat.lt_irrefl _)
  · exact absurd (Nat.lt_of_lt_of_le (Heap.lt_size (I.pin p hp).1) (by rw [z]; exact hb)) (Nat.lt_irrefl _)
structure LI (P:Program) (w:World) (K:W.Frag) (tg:Expr) (J:It) (fp:List Addr) (it:Addr) (tn:Nat→Heap→Prop):Prop where
  mem:it∈fp
  obj:∀ i h,tn i h→∀ b∈fp,∃ o,h.get? b=some o∧∀ v,o.data≠.cell v
  keep:∀ i h h',tn i h→(∀ b∈fp,∀ o,h.get? b=some o→h'.get? b=some o)→tn i h'
  item :∀ (X:Cx),X.prog=P→X.w=w→X.K=K→X.calm=true→∀ (i:Nat) (pins:List (Addr×Obj)) (s:Shared) (σ:St) (H:Hp) (E:Value→Shared→Prop),Inv X pins σ H s→(∀ b∈fp,zP X pins H b)→tn i s.heap→J.go i H→
    wpAny (model P w) X.A (pyNext (.ref it)) (fun r s1=>∃ u,r=some u∧
      wpAny (model P w) X.A (letOwnedTupleGo tg (.ref it) u) (fun _ s2=>∃ x H',Inv X pins σ H' s2∧aL x u∧J.yld i H x H'∧tn (i + 1) s2.heap∧∀ b∈fp,H' b=none) E s1) E s
  done:∀ (X:Cx),X.prog=P→X.w=w→X.K=K→X.calm=true→∀ (i:Nat) (pins:List (Addr×Obj)) (s:Shared) (σ:St) (H:Hp) (E:Value→Shared→Prop),Inv X pins σ H s→(∀ b∈fp,zP X pins H b)→tn i s.heap→J.stop i H→
    wpAny (model P w) X.A (pyNext (.ref it)) (fun r s1=>r=none∧Inv X pins σ H s1) E s
  self:∀ (A:Around) (i:Nat) (s:Shared) (Q:Value→Shared→Prop) (E:Value→Shared→Prop),tn i s.heap→Q (.ref it) s→wpAny (model P w) A (pyIter (.ref it)) Q E s
noncomputable abbrev TI:=St→Hp→(It→Hp→Prop)→Prop
noncomputable def PIE (X:Cx) (pins:List (Addr×Obj)) (σ:St) (tg:Expr) (R:It→Hp→Prop) (itv:Value) (s2:Shared):Prop :=
  ∃ (it:Addr) (fp:List Addr) (tn:Nat→Heap→Prop) (J:It) (H':Hp),itv= .ref it∧Inv X pins σ H' s2∧LI X.prog X.w X.K tg J fp it tn∧tn 0 s2.heap∧(∀ b∈fp,zP X pins H' b)∧R J H'
noncomputable def PI (X:Cx) (tg iter:Expr) (wi:TI):Prop :=
  ∀ (pins:List (Addr×Obj)) (s:Shared) (σ:St) (H:Hp) (R:It→Hp→Prop),Inv X pins σ H s→wi σ H R→
    wpAny (model X.prog X.w) X.A (eval iter X.env) (fun v s1=>wpAny (model X.prog X.w) X.A (pyIter v) (PIE X pins σ tg R) X.xe s1) X.xe s
theorem YI {M:Model} {A:Around} {E:Value→Shared→Prop} {s:Shared} {tg:Expr} {it:Addr} {u:Value} {o:Obj} {n:String} {vs:Array Value} {Q:Unit→Shared→Prop} (ho:s.heap.get? it=some o) (hc:o.cls= .type n) (hd:o.data= .fields vs)
    (hn: ["enumerate","zip","dict_itemiterator","dict_reverseitemiterator","odict_iterator","itertools.zip_longest","itertools.pairwise"].contains n=false) (hQ:Q () s):wpAny M A (letOwnedTupleGo tg (.ref it) u) Q E s:=by
  unfold letOwnedTupleGo
  cases tg <;> first
    | exact wpAny_pure hQ
    | (cases u <;> first
        | exact wpAny_pure hQ
        | (refine wpAny_bind (wpAny_load ho ?_)
           rw [hc,hd]
           show wpAny M A (if (["enumerate","zip","dict_itemiterator","dict_reverseitemiterator","odict_iterator","itertools.zip_longest","itertools.pairwise"].contains n && vs[0]? == some (rawInt _))=true then _ else _) Q E s
           rw [if_neg (by intro h; rw [hn,Bool.false_and] at h; cases h)]
           exact wpAny_pure hQ))
noncomputable def Itl (K:W.Frag) (a:Addr):It :=
  ⟨fun i H=>∃ xs x,SqL K H a xs∧xs[i]? =some x,fun i H x H'=>H'=H∧∀ xs,SqL K H a xs→xs[i]? =some x,fun i H=>∃ xs,SqL K H a xs∧xs.length≤i⟩
noncomputable def Itt (K:W.Frag) (a:Addr):It :=
  ⟨fun i H=>∃ xs x,SqT K H a xs∧xs[i]? =some x,fun i H x H'=>H'=H∧∀ xs,SqT K H a xs→xs[i]? =some x,fun i H=>∃ xs,SqT K H a xs∧xs.length≤i⟩
noncomputable def Itr (lo:Int) (n:Nat):It:=⟨fun i _=>i < n,fun i H x H'=>H'=H∧x= .int (lo + i),fun i _=>n≤i⟩
theorem SQ {P:Program} {w:World} {K:W.Frag} {tg:Expr} (a it:Addr):LI P w K tg (Itl K a) [it] it (fun i h=>h.IsListIter it a i) where
  mem:=by simp
  obj:=fun i h st b hb=>by
    have e:b=it:=by simpa using hb
    subst e
    obtain ⟨o,e,c,d⟩:=st
    exact ⟨o,e,fun v z=>by rw [d] at z; cases z⟩
  keep:=fun i h h' st k=>st.at fun o e=>k it (by simp) o e
  item:=by
    intro X hP hw hK hc i pins s σ H E I hf st hg
    subst hP hw hK
    obtain ⟨xs,x,hq,hx⟩:=hg
    obtain ⟨its,rv,p,hz⟩:=I.list hq
    obtain ⟨u,hu,ru⟩:=rv.get hx
    obtain ⟨f0,f1,f2,f3,f4,f5⟩:=hf it (by simp)
    refine wpAny_pyNext_list_item st p.isList (x:=u) (by simpa using hu) fun h' st' sb=>?_
    have I1:Inv X pins σ H { s with heap:=h' }:=I.turned (t':=s.toks) (fun b o hb e=>(sb.2 b hb).trans e) f0 f1 f3 f4 f5
    obtain ⟨o,e,c,d⟩:=id st'
    exact ⟨u,rfl,YI (s:={ s with heap:=h' }) e c d (by decide) ⟨x,H,I1,ru,⟨rfl,fun ys hy=>by rw [I.list_inj hy hq]; exact hx⟩,st',fun b hb=>(hf b hb).1⟩⟩
  done:=by
    intro X hP hw hK hc i pins s σ H E I hf st hg
    subst hP hw hK
    obtain ⟨xs,hq,hx⟩:=hg
    obtain ⟨its,rv,p,hz⟩:=I.list hq
    obtain ⟨f0,f1,f2,f3,f4,f5⟩:=hf it (by simp)
    have hl:=rv.length
    exact wpAny_pyNext_list_end (I.ok.hd hc) st p.isList (by simp; omega) fun h' eb=>⟨rfl,I.turned (t':=s.toks) (fun b o hb e=>eb b o hb e) f0 f1 f3 f4 f5⟩
  self:=fun _ _ _ _ _ st h=>wpAny_pyIter_listiter st h
theorem LF {P:Program} {w:World} {K:W.Frag} {tg:Expr} (a it:Addr):LI P w K tg (Itt K a) [it] it (fun i h=>h.IsTupleIter it a i) where
  mem:=by simp
  obj:=fun i h st b hb=>by
    have e:b=it:=by simpa using hb
    subst e
    obtain ⟨o,e,c,d⟩:=st
    exact ⟨o,e,fun v z=>by rw [d] at z; cases z⟩
  keep:=fun i h h' st k=>st.at fun o e=>k it (by simp) o e
  item:=by
    intro X hP hw hK hc i pins s σ H E I hf st hg
    subst hP hw hK
    obtain ⟨xs,x,hq,hx⟩:=hg
    obtain ⟨its,rv,p,hz⟩:=I.tuple hq
    obtain ⟨u,hu,ru⟩:=rv.get hx
    obtain ⟨f0,f1,f2,f3,f4,f5⟩:=hf it (by simp)
    refine wpAny_pyNext_tuple_item st (show s.heap.IsTuple a its.toArray from p) (x:=u) (by simpa using hu) fun h' st' sb=>?_
    have I1:Inv X pins σ H { s with heap:=h' }:=I.turned (t':=s.toks) (fun b o hb e=>(sb.2 b hb).trans e) f0 f1 f3 f4 f5
    obtain ⟨o,e,c,d⟩:=id st'
    exact ⟨u,rfl,YI (s:={ s with heap:=h' }) e c d (by decide) ⟨x,H,I1,ru,⟨rfl,fun ys hy=>by rw [I.tuple_inj hy hq]; exact hx⟩,st',fun b hb=>(hf b hb).1⟩⟩
  done:=by
    intro X hP hw hK hc i pins s σ H E I hf st hg
    subst hP hw hK
    obtain ⟨xs,hq,hx⟩:=hg
    obtain ⟨its,rv,p,hz⟩:=I.tuple hq
    obtain ⟨f0,f1,f2,f3,f4,f5⟩:=hf it (by simp)
    have hl:=rv.length
    exact wpAny_pyNext_tuple_end (I.ok.hd hc) st (show s.heap.IsTuple a its.toArray from p) (by simp; omega) fun h' eb=>⟨rfl,I.turned (t':=s.toks) (fun b o hb e=>eb b o hb e) f0 f1 f3 f4 f5⟩
  self:=fun _ _ _ _ _ st h=>wpAny_pyIter_tupleiter st h
theorem JP {P:Program} {w:World} {K:W.Frag} {tg:Expr} (it:Addr) (lo:Int) (n:Nat):LI P w K tg (Itr lo n) [it] it (fun i h=>IsRangeIter h it (lo + (i:Nat) * 1) ((n:Int) - (i:Nat)) 1) where
  mem:=by simp
  obj :=fun i h st b hb=>by
    have e:b=it:=by simpa using hb
    subst e
    exact ⟨_,st,fun v z=>by
      have z':Data.fields _=Data.cell v:=z
      cases z'⟩
  keep:=fun i h h' st k=>k it (by simp) _ st
  item:=by
    intro X hP hw hK hc i pins s σ H E I hf st hg
    subst hP hw hK
    obtain ⟨f0,f1,f2,f3,f4,f5⟩:=hf it (by simp)
    have W:=Walks.range (prog:=X.prog) (w:=X.w) (I.ok.hd hc) it lo 1 n
    refine W.item i s _ _ hg st fun v h' tk hv st' kk=>?_
    obtain ⟨t,rfl⟩:=hv
    have I1:Inv X pins σ H { s with heap:=h',toks:=tk }:=I.turned (fun b o hb e=>kk b o (by simpa using hb) e) f0 f1 f3 f4 f5
    refine ⟨_,rfl,YI (s:={ s with heap:=h',toks:=tk }) (n:="range_iterator") st' rfl rfl (by decide) ⟨.int (lo + i),H,I1,⟨t, ?_⟩,⟨rfl,rfl⟩,st',fun b hb=>(hf b hb).1⟩⟩
    rw [Int.mul_one]
  done:=by
    intro X hP hw hK hc i pins s σ H E I hf st hg
    subst hP hw hK
    obtain ⟨f0,f1,f2,f3,f4,f5⟩:=hf it (by simp)
    exact wpAny_pyNext_range_end (I.ok.hd hc) st (by have:n≤i:=hg; omega) fun h' eb=>⟨rfl,I.turned (t':=s.toks) (fun b o hb e=>eb b o hb e) f0 f1 f3 f4 f5⟩
  self:=fun _ _ _ _ _ st h=>wpAny_pyIter_rangeiter st h
section
variable {X:Cx} {tg:Expr}
theorem FZ {pins:List (Addr×Obj)} {σ:St} {H:Hp} {s:Shared} {R:It→Hp→Prop} {E:Value→Shared→Prop} {lo hi:Int} {t u v:Tok} {tk:Nat} (I:Inv X pins σ H s) (h1: -(2 ^ 62)≤lo) (h2:lo < 2 ^ 62) (h3: -(2 ^ 62)≤hi) (h4:hi < 2 ^ 62)
    (q:R (Itr lo (hi - lo).toNat) H):wpAny (model X.prog X.w) X.A (pyIter (.ref s.heap.objs.size)) (PIE X pins σ tg R) E { s with heap:=s.heap.push { cls:=.type "range",data:=.fields #[.int lo t,.int hi u,.int 1 v] },toks:=tk }:=by
  refine wpAny_pyIter_range (IsRange.new ..) (small_one h1 h2 h3 h4) ?_
  have I1:Inv X pins σ H { s with heap:=s.heap.push { cls:=.type "range",data:=.fields #[.int lo t,.int hi u,.int 1 v] },toks:=tk }:=I.kept fun b o e=>Heap.get?_push_of_some _ e
  refine ⟨(s.heap.push { cls:=.type "range",data:=.fields #[.int lo t,.int hi u,.int 1 v] }).objs.size,[(s.heap.push { cls:=.type "range",data:=.fields #[.int lo t,.int hi u,.int 1 v] }).objs.size],_,_,H,rfl,
    I1.kept (t':=tk) fun b o e=>Heap.get?_push_of_some _ e,JP _ lo (hi - lo).toNat, ?_,fun b hb=>?_,q⟩
  · have e1:lo + ((0:Nat):Int) * 1=lo:=by simp
    have e2:(((hi - lo).toNat:Nat):Int) - ((0:Nat):Int)=Builtin.Range.rangeSize lo hi 1:=by rw [rangeSize_one]; split <;> omega
    show IsRangeIter _ _ (lo + ((0:Nat):Int) * 1) ((((hi - lo).toNat:Nat):Int) - ((0:Nat):Int)) 1
    rw [e1,e2]
    exact Heap.get?_push_size _ rfl
  · have e:b=(s.heap.push { cls:=.type "range",data:=.fields #[.int lo t,.int hi u,.int 1 v] }).objs.size:=by simpa using hb
    subst e
    exact I1.fpOk (Nat.le_refl _) (I1.hok.fresh (Nat.le_refl _))
noncomputable def aIX (ta:TA):TI:=fun σ H R=>ta σ H fun vs H1=>∃ j:Int,vs=[.int j]∧ -(2 ^ 62)≤j∧j < 2 ^ 62∧R (Itr 0 j.toNat) H1
noncomputable def aJv (ta:TA):TI:=fun σ H R=>ta σ H fun vs H1=>∃ i j:Int,vs=[.int i,.int j]∧(-(2 ^ 62)≤i∧i < 2 ^ 62∧ -(2 ^ 62)≤j∧j < 2 ^ 62)∧R (Itr i (j - i).toNat) H1
theorem QM {a:Expr} {ta:TA} {p pos:Pos} (hg:Gl X "range") (hm:X.mg "range"=none) (ha:PA X [a] ta) (hs:starEach [a] X.env=[(false,eval a X.env)]:=by rfl):PI X tg (.Call (.Name "range" p) [a] [] pos) (aIX ta):=by
  intro pins s σ H R I h
  refine Call_ (nK I hg hm boot_range (PyProof.Rows.callWith_type1 (thn (ha pos pins s σ H _ I h) fun us s1 ⟨vs,H1,I1,r1,q1⟩=>?_) hs rfl))
  obtain ⟨j,e,q1,q2,q⟩:=q1
  subst e
  cases r1 with
  | cons r rr =>
    cases rr
    obtain ⟨t,rfl⟩:=r
    exact call_range_1 (FZ I1 (by omega) (by omega) q1 q2 (by simpa using q))
theorem PB {a b:Expr} {ta:TA} {p pos:Pos} (hg:Gl X "range") (hm:X.mg "range"=none) (ha:PA X [a,b] ta) (hs:starEach [a,b] X.env=[(false,eval a X.env),(false,eval b X.env)]:=by rfl) (hs2:starEach [b] X.env=[(false,eval b X.env)]:=by rfl) :
    PI X tg (.Call (.Name "range" p) [a,b] [] pos) (aJv ta):=by
  intro pins s σ H R I h
  refine Call_ (nK I hg hm boot_range (PyProof.Rows.callWith_type1 (thn (ha pos pins s σ H _ I h) fun us s1 ⟨vs,H1,I1,r1,q1⟩=>?_) (by rw [hs,hs2]) (by rw [hs2]; rfl)))
  obtain ⟨i,j,e,⟨q1,q2,q3,q4⟩,q⟩:=q1
  subst e
  cases r1 with
  | cons r rr =>
    cases rr with
    | cons r' rr =>
      cases rr
      obtain ⟨t,rfl⟩:=r
      obtain ⟨t',rfl⟩:=r'
      exact call_range_2 (FZ I1 q1 q2 q3 q4 q)
noncomputable def aNc (wi:TI) (g:TG) (tb:TS):TS:=fun D σ H=>wi σ H fun J H1=>∃ W:Nat→Nat→St→Hp→Prop,(∃ m,W 0 m σ H1)∧∀ i m σ H,W i m σ H→
  (J.stop i H∧D.nx σ H)∨(J.go i H∧∃ N:St→Hp→Prop,(∀ σ' H',N σ' H'→∃ m',m' < m∧W (i + 1) m' σ' H')∧∀ x H',J.yld i H x H'→g x σ H' fun σ2 H2=>tb { D with nx:=N,ct:=N,bk:=D.nx } σ2 H2)
noncomputable def xI (fp:List Addr) (h:Heap):List (Addr×Obj):=fp.filterMap fun b=>(h.get? b).map fun o=>(b,o)
theorem jX {fp:List Addr} {h:Heap} {b:Addr} {o:Obj} (hb:b∈fp) (e:h.get? b=some o):(b,o)∈xI fp h:=List.mem_filterMap.mpr ⟨b,hb,by rw [e]; rfl⟩
theorem QI {fp:List Addr} {h:Heap} {p:Addr×Obj} (hp:p∈xI fp h):p.1∈fp∧h.get? p.1=some p.2:=by
  obtain ⟨b,hb,e⟩:=List.mem_filterMap.mp hp
  cases q:h.get? b with
  | none=>rw [q] at e; cases e
  | some o =>
    rw [q] at e
    have e':(b,o)=p:=Option.some.inj e
    subst e'
    exact ⟨hb,q⟩
theorem Inv.pinned {pins:List (Addr×Obj)} {σ:St} {H:Hp} {s:Shared} {fp:List Addr} (I:Inv X pins σ H s) (hf:∀ b∈fp,zP X pins H b) (ho:∀ b∈fp,∃ o,s.heap.get? b=some o∧∀ v,o.data≠.cell v):Inv X (pins ++ xI fp s.heap) σ H s :=
  I.pins_of fun p hp=>(List.mem_append.mp hp).elim (fun z=>I.pin p (List.mem_append_right _ z)) fun z=>by
    obtain ⟨hb,e⟩:=QI z
    obtain ⟨f0,f1,f2,_⟩:=hf p.1 hb
    obtain ⟨o,e',d⟩:=ho p.1 hb
    rw [e] at e'; cases e'
    exact ⟨e,f0,f1,f2,d⟩
theorem Inv.unpinned {pins pl:List (Addr×Obj)} {σ:St} {H:Hp} {s:Shared} (I:Inv X (pins ++ pl) σ H s):Inv X pins σ H s:=I.pins_of fun p hp=>I.pin p (List.mem_append_right _ (List.mem_append_left _ hp))
theorem aHK {iter:Expr} {body:List Stmt} {wi:TI} {g:TG} {tb:TS} {pos:Pos} (hp:PassesOwn (model X.prog X.w) X.A X.env X.xe) (hc:X.calm=true) (hi:PI X tg iter wi) (hg:PG X tg g) (hb:PSs X body tb)
    (hs:∀ x,foldedSetIterable iter X.env x=pure x:=by intro _; rfl):PS X (.For tg iter body [] pos) (aNc wi g tb):=by
  intro pins s σ H D I h
  refine wpAny_For (thn (hi pins s σ H _ I h) fun v s1 h1=>thn h1 fun itv s2 h2=>?_) hs
  obtain ⟨it,fp,tn,J,H2,e,I2,T,st2,f2,W,⟨m0,w0⟩,turn⟩:=h2
  subst e
  have stat:∀ {H':Hp},(∀ b∈fp,H' b=none)→∀ b∈fp,zP X pins H' b:=fun hn b hb=>⟨hn b hb,(f2 b hb).2⟩
  refine codeAny_forLoop_any (fun n s'=>∃ i σ' H',Inv X pins σ' H' s'∧tn i s'.heap∧(∀ b∈fp,H' b=none)∧W i n σ' H') ?_ m0 ⟨0,σ,H2,I2,st2,fun b hb=>(f2 b hb).1,w0⟩
  rintro n s3 ⟨i,σ3,H3,I3,st3,fr3,w3⟩
  rcases turn i n σ3 H3 w3 with ⟨stop,qn⟩ | ⟨go,N,hN,step⟩
  · refine wpAny_passesOwn hp (thn (T.done X rfl rfl rfl hc i pins s3 σ3 H3 X.xe I3 (stat fr3) st3 stop) fun r s4 ⟨hr,I4⟩=>?_)
    subst hr
    exact wpAny_execs_nil ⟨σ3,H3,I4,qn⟩
  · refine wpAny_passesOwn hp (thn (T.item X rfl rfl rfl hc i pins s3 σ3 H3 X.xe I3 (stat fr3) st3 go) fun r s4 ⟨u,hr,h4⟩=>?_)
    subst hr
    refine wpAny_passesOwn hp (thn h4 fun _ s5 ⟨x,H5,I5,r5,y5,st5,fr5⟩=>?_)
    have I5':=I5.pinned (stat fr5) (T.obj _ _ st5)
    refine wpAny_passesOwn hp (thn (hg _ s5 σ3 H5 x u _ I5' r5 (step x H5 y5)) fun _ s6 ⟨σ6,H6,I6,q6⟩=>?_)
    refine wpAny_passesOwn hp (thn (hb _ s6 σ6 H6 _ I6 q6) fun f s7 q7=>?_)
    have again:∀ {σ7:St} {H7:Hp},Inv X (pins ++ xI fp s5.heap) σ7 H7 s7→N σ7 H7→∃ m,m < n∧∃ i σ' H',Inv X pins σ' H' s7∧tn i s7.heap∧(∀ b∈fp,H' b=none)∧W i m σ' H':=fun {σ7 H7} I7 n7=>by
      obtain ⟨m',hm,w7⟩:=hN σ7 H7 n7
      refine ⟨m',hm,i + 1,σ7,H7,I7.unpinned,T.keep _ _ _ st5 fun b hb o e=>(I7.pin (b,o) (List.mem_append_right _ (List.mem_append_right _ (jX hb e)))).1,fun b hb=>?_,w7⟩
      obtain ⟨o,e,d⟩:=T.obj _ _ st5 b hb
      exact (I7.pin (b,o) (List.mem_append_right _ (List.mem_append_right _ (jX hb e)))).2.1
    cases f with
    | next=>obtain ⟨σ7,H7,I7,n7⟩:=q7; exact again I7 n7
    | cont=>obtain ⟨σ7,H7,I7,n7⟩:=q7; exact again I7 n7
    | brk=>obtain ⟨σ7,H7,I7,q7⟩:=q7; exact ⟨σ7,H7,I7.unpinned,q7⟩
    | ret v=>obtain ⟨x7,σ7,H7,I7,r7,q7⟩:=q7; exact ⟨x7,σ7,H7,I7.unpinned,r7,q7⟩
end
noncomputable abbrev R2:=V→V→Hp→VK→Prop
noncomputable def OpR (X:Cx) (f:Value→Value→Sem Value) (r:R2):Prop :=
  ∀ (pins:List (Addr×Obj)) (s:Shared) (σ:St) (H:Hp) (x y:V) (v u:Value) (Q:VK),Inv X pins σ H s→aL x v→aL y u→r x y H Q→
    wpAny (model X.prog X.w) X.A (f v u) (EP X pins σ Q) X.xe s
noncomputable def UnR (X:Cx) (f:Value→Sem Value) (r:V→Hp→VK→Prop):Prop :=
  ∀ (pins:List (Addr×Obj)) (s:Shared) (σ:St) (H:Hp) (x:V) (v:Value) (Q:VK),Inv X pins σ H s→aL x v→r x H Q→
    wpAny (model X.prog X.w) X.A (f v) (EP X pins σ Q) X.xe s
noncomputable def bL (X:Cx) (f:Value) (r:List V→Hp→VK→Prop):Prop :=
  ∀ (pins:List (Addr×Obj)) (s:Shared) (σ:St) (H:Hp) (xs:List V) (us:List Value) (Q:VK),Inv X pins σ H s→aG xs us→r xs H Q→
    wpAny (model X.prog X.w) X.A (call f us) (EP X pins σ Q) X.xe s
noncomputable def aNy (X:Cx) (r:V→Hp→(Bool→Hp→Prop)→Prop):Prop :=
  ∀ (pins:List (Addr×Obj)) (s:Shared) (σ:St) (H:Hp) (x:V) (v:Value) (Q:Bool→Hp→Prop),Inv X pins σ H s→aL x v→r x H Q→
    wpAny (model X.prog X.w) X.A (truthy v) (TP X pins σ Q) X.xe s
noncomputable def tOp (r:R2) (ta tb:TE):TE:=fun σ H Q=>ta σ H fun x H1=>tb σ H1 fun y H2=>r x y H2 Q
noncomputable def tUn (r:V→Hp→VK→Prop) (ta:TE):TE:=fun σ H Q=>ta σ H fun x H1=>r x H1 Q
noncomputable def rI (C:Int→Int→Prop) (g:Int→Int→V):R2:=fun x y H Q=>∃ i j,x= .int i∧y= .int j∧C i j∧Q (g i j) H
noncomputable def rI0 (g:Int→Int→V):R2:=fun x y H Q=>∃ i j,x= .int i∧y= .int j∧Q (g i j) H
noncomputable def rU (g:Int→V):V→Hp→VK→Prop:=fun x H Q=>∃ i,x= .int i∧Q (g i) H
section
variable {X:Cx} {a b c:Expr} {ta tb tc:TE} {pos:Pos}
theorem aGs (ha:PE X a ta) (hb:PE X b tb) {pins:List (Addr×Obj)} {s:Shared} {σ:St} {H:Hp} {R:V→V→Hp→Prop} (I:Inv X pins σ H s)
    (h:ta σ H fun x H1=>tb σ H1 fun y H2=>R x y H2) {Q:Value→Shared→Prop} {f:Value→Value→Sem Value}
    (hf:∀ v u s2 x y H2,Inv X pins σ H2 s2→aL x v→aL y u→R x y H2→wpAny (model X.prog X.w) X.A (f v u) Q X.xe s2) :
    wpAny (model X.prog X.w) X.A (eval a X.env) (fun v s₁=>wpAny (model X.prog X.w) X.A (eval b X.env) (fun u s₂=>wpAny (model X.prog X.w) X.A (f v u) Q X.xe s₂) X.xe s₁) X.xe s:=by
  refine thn (ha pins s σ H _ I h) fun v s1 ⟨x,H1,I1,r1,q1⟩=>?_
  refine thn (hb pins s1 σ H1 _ I1 q1) fun u s2 ⟨y,H2,I2,r2,q2⟩=>?_
  exact hf v u s2 x y H2 I2 r1 r2 q2
theorem aLo {op:Operator} {r:R2} (ho:OpR X (binaryOp op) r) (ha:PE X a ta) (hb:PE X b tb):PE X (.BinOp a op b pos) (tOp r ta tb):=by
  intro pins s σ H Q I h
  exact wpAny_BinOp (aGs ha hb I h fun v u s2 x y H2 I2 rx ry q=>ho pins s2 σ H2 x y v u Q I2 rx ry q)
theorem aJ0 {op:UnaryOp} {r:V→Hp→VK→Prop} (ho:UnR X (unaryOp op) r) (ha:PE X a ta):PE X (.UnaryOp op a pos) (tUn r ta):=by
  intro pins s σ H Q I h
  exact UnaryOp_ (thn (ha pins s σ H _ I h) fun v s1 ⟨x,H1,I1,r1,q1⟩=>ho pins s1 σ H1 x v Q I1 r1 q1)
theorem opI {f:Value→Value→Sem Value} {C:Int→Int→Prop} {g:Int→Int→Int}
    (rule:∀ (i j:Int) (t u:Tok) (s:Shared) (Q:Value→Shared→Prop) (E:Value→Shared→Prop),C i j→Q (.int (g i j) s.toks) { s with toks:=s.toks + 1 }→wpAny (model X.prog X.w) X.A (f (.int i t) (.int j u)) Q E s) :
    OpR X f (rI C fun i j=>.int (g i j)):=by
  intro pins s σ H x y v u Q I rx ry h
  obtain ⟨i,j,rfl,rfl,hc,q⟩:=h
  obtain ⟨t,rfl⟩:=rx
  obtain ⟨t',rfl⟩:=ry
  exact rule i j t t' s _ _ hc ⟨.int (g i j),H,I.tok _,⟨_,rfl⟩,q⟩
theorem aJc {f:Value→Value→Sem Value} {g:Int→Int→Int}
    (rule:∀ (i j:Int) (t u:Tok) (s:Shared) (Q:Value→Shared→Prop) (E:Value→Shared→Prop),Q (.int (g i j) s.toks) { s with toks:=s.toks + 1 }→wpAny (model X.prog X.w) X.A (f (.int i t) (.int j u)) Q E s) :
    OpR X f (rI0 fun i j=>.int (g i j)):=by
  intro pins s σ H x y v u Q I rx ry h
  obtain ⟨i,j,rfl,rfl,q⟩:=h
  obtain ⟨t,rfl⟩:=rx
  obtain ⟨t',rfl⟩:=ry
  exact rule i j t t' s _ _ ⟨.int (g i j),H,I.tok _,⟨_,rfl⟩,q⟩
theorem aCE {f:Value→Value→Sem Value} {g:Int→Int→Bool}
    (rule:∀ (i j:Int) (t u:Tok) (s:Shared) (Q:Value→Shared→Prop) (E:Value→Shared→Prop),Q (.bool (g i j)) s→wpAny (model X.prog X.w) X.A (f (.int i t) (.int j u)) Q E s) :
    OpR X f (rI0 fun i j=>.bl (g i j)):=by
  intro pins s σ H x y v u Q I rx ry h
  obtain ⟨i,j,rfl,rfl,q⟩:=h
  obtain ⟨t,rfl⟩:=rx
  obtain ⟨t',rfl⟩:=ry
  exact rule i j t t' s _ _ ⟨.bl (g i j),H,I,rfl,q⟩
noncomputable def VO (i j:Int):Prop:=0≤j∧j≤1000000∧i.natAbs < 2 ^ 64
noncomputable def aLD (i j:Int):Prop:=(-(2 ^ 64) < i∧i < 2 ^ 64)∨(-(2 ^ 64) < j∧j < 2 ^ 64)
theorem aLD.ok {i j:Int} (h:aLD i j):IntMulOk i j:=by
  rcases h with ⟨h1,h2⟩ | ⟨h1,h2⟩
  · exact .of_left (intBits_le_64 h1 h2)
  · exact .of_right (intBits_le_64 h1 h2)
theorem aHU:OpR X (binaryOp .Add) (rI0 fun i j=>.int (i + j)):=aJc fun _ _ _ _ _ _ _ q=>add_int q
theorem aGP:OpR X (binaryOp .Sub) (rI0 fun i j=>.int (i - j)):=aJc fun _ _ _ _ _ _ _ q=>sub_int q
theorem aHa:OpR X (binaryOp .Mod) (rI (fun _ j=>0 < j) fun i j=>.int (i % j)):=opI fun i j _ _ _ _ _ hc q=>by
  have h1:(0:Int) < j:=hc
  exact mod_int' (by omega) (by rw [Int.fmod_eq_emod_of_nonneg i (by omega)]; exact q)
theorem aIk:OpR X (binaryOp .Pow) (rI VO fun i j=>.int (i ^ j.toNat)):=opI fun _ _ _ _ _ _ _ hc q=>pow_int_small hc.1 hc.2.1 hc.2.2 q
theorem aG6:OpR X (binaryOp .LShift) (rI VO fun i j=>.int (i * 2 ^ j.toNat)):=opI fun _ _ _ _ _ _ _ hc q=>lshift_int_small hc.1 hc.2.1 hc.2.2 q
theorem unI {f:Value→Sem Value} {g:Int→Int}
    (rule:∀ (i:Int) (t:Tok) (s:Shared) (Q:Value→Shared→Prop) (E:Value→Shared→Prop),Q (.int (g i) s.toks) { s with toks:=s.toks + 1 }→wpAny (model X.prog X.w) X.A (f (.int i t)) Q E s) :
    UnR X f (rU fun i=>.int (g i)):=by
  intro pins s σ H x v Q I rx h
  obtain ⟨i,rfl,q⟩:=h
  obtain ⟨t,rfl⟩:=rx
  exact rule i t s _ _ ⟨.int (g i),H,I.tok _,⟨_,rfl⟩,q⟩
theorem aIj:UnR X (unaryOp .USub) (rU fun i=>.int (-i)):=unI fun _ _ _ _ _ q=>neg_int q
end
section
variable {X:Cx} {a b c:Expr} {ta tb tc:TE} {pos:Pos}
theorem WG {pins:List (Addr×Obj)} {σ:St} {H:Hp} {s:Shared} {Q:VK} {k k':Bool} (I:Inv X pins σ H s) (q:Q (.bl k) H) (e:k=k'):EP X pins σ Q (.bool k') s:=by
  subst e
  exact ⟨.bl k,H,I,rfl,q⟩
theorem aJM:OpR X (compareOp .Lt) (rI0 fun i j=>.bl (decide (i < j))):=aCE fun _ _ _ _ _ _ _ q=>lt_int q
theorem aJa:OpR X (compareOp .LtE) (rI0 fun i j=>.bl (decide (i≤j))):=aCE fun _ _ _ _ _ _ _ q=>le_int q
theorem aKV:OpR X (compareOp .Gt) (rI0 fun i j=>.bl (decide (j < i))):=aCE fun _ _ _ _ _ _ _ q=>gt_int q
theorem aKY:OpR X (compareOp .GtE) (rI0 fun i j=>.bl (decide (j≤i))):=aCE fun _ _ _ _ _ _ _ q=>ge_int q
theorem aHV:OpR X (compareOp .Is) (fun x y H Q=>y= .non∧Q (.bl (decide (x= .non))) H):=by
  intro pins s σ H x y v u Q I rx ry h
  obtain ⟨rfl,q⟩:=h
  cases ry
  refine is_none_gen (WG I q ?_)
  cases x <;> first
    | (cases rx; rfl)
    | (obtain ⟨t,rfl⟩:=rx; rfl)
theorem aCc:OpR X (compareOp .IsNot) (fun x y H Q=>y= .non∧Q (.bl (!decide (x= .non))) H):=by
  intro pins s σ H x y v u Q I rx ry h
  obtain ⟨rfl,q⟩:=h
  cases ry
  refine isnot_none_gen (WG I q ?_)
  cases x <;> first
    | (cases rx; rfl)
    | (obtain ⟨t,rfl⟩:=rx; rfl)
theorem OpR.or {f:Value→Value→Sem Value} {r r':R2} (h:OpR X f r) (h':OpR X f r'):OpR X f (fun x y H Q=>r x y H Q∨r' x y H Q):=by
  intro pins s σ H x y v u Q I rx ry q
  rcases q with q | q
  · exact h pins s σ H x y v u Q I rx ry q
  · exact h' pins s σ H x y v u Q I rx ry q
theorem DA {op:CmpOp} {r:R2} (ho:OpR X (compareOp op) r) (ha:PE X a ta) (hb:PE X b tb) (hm:behindInMarks op b=false):PE X (.Compare a [op] [b] pos) (tOp r ta tb):=by
  intro pins s σ H Q I h
  exact wpAny_Compare1 (aGs ha hb I h fun v u s2 x y H2 I2 rx ry q=>ho pins s2 σ H2 x y v u Q I2 rx ry q) hm
noncomputable def aEx (t:TE):TT:=fun σ H Q=>t σ H fun x H'=>∃ k,x= .bl k∧Q k H'
theorem OS {op:CmpOp} {r:R2} (ho:OpR X (compareOp op) r) (ha:PE X a ta) (hb:PE X b tb) (hm:behindInMarks op b=false):PT X (.Compare a [op] [b] pos) (aEx (tOp r ta tb)):=by
  intro pins s σ H Q I h
  refine wpAny_isTrue_Compare1 (thn (ha pins s σ H _ I h) fun v s1 ⟨x,H1,I1,r1,q1⟩=>thn (hb pins s1 σ H1 _ I1 q1) fun u s2 ⟨y,H2,I2,r2,q2⟩ =>
    thn (ho pins s2 σ H2 x y v u _ I2 r1 r2 q2) fun c s3 ⟨z,H3,I3,r3,k,e,q3⟩=>?_) hm
  subst e
  cases r3
  exact wpAny_truthy_bool ⟨H3,I3,q3⟩
noncomputable def ML (r r':R2) (ta tb tc:TE):TE:=fun σ H Q=>ta σ H fun x H1=>tb σ H1 fun y H2=>r x y H2 fun z H3=>∃ k,z= .bl k∧
  (if k=true then tc σ H3 fun w' H4=>r' y w' H4 Q else Q (.bl false) H3)
theorem XV {op op':CmpOp} {r r':R2} (ho:OpR X (compareOp op) r) (ho':OpR X (compareOp op') r') (ha:PE X a ta) (hb:PE X b tb) (hc:PE X c tc)
    (hm:lastMarks [op,op'] [b,c]=false:=by with_unfolding_all rfl):PE X (.Compare a [op,op'] [b,c] pos) (ML r r' ta tb tc):=by
  intro pins s σ H Q I h
  refine Compare_chain (thn (ha pins s σ H _ I h) fun v s1 ⟨x,H1,I1,r1,q1⟩=>chain_link (thn (hb pins s1 σ H1 _ I1 q1) fun u s2 ⟨y,H2,I2,r2,q2⟩ =>
    thn (ho pins s2 σ H2 x y v u _ I2 r1 r2 q2) fun d s3 ⟨z,H3,I3,r3,k,e,q3⟩=>?_)) hm
  subst e
  cases r3
  refine wpAny_truthy_bool ?_
  cases k with
  | false=>exact ite_ff ⟨.bl false,H3,I3,rfl,q3⟩
  | true=>exact ite_tt (chain_last (thn (hc pins s3 σ H3 _ I3 q3) fun w' s4 ⟨z',H4,I4,r4,q4⟩=>ho' pins s4 σ H4 y z' u w' Q I4 r2 r4 q4))
theorem XY {op op':CmpOp} {r r':R2} (ho:OpR X (compareOp op) r) (ho':OpR X (compareOp op') r') (ha:PE X a ta) (hb:PE X b tb) (hc:PE X c tc)
    (hm:lastMarks [op,op'] [b,c]=false:=by with_unfolding_all rfl):PT X (.Compare a [op,op'] [b,c] pos) (aEx (ML r r' ta tb tc)):=by
  intro pins s σ H Q I h
  refine isTrue_chain (thn (ha pins s σ H _ I h) fun v s1 ⟨x,H1,I1,r1,q1⟩=>test_link (thn (hb pins s1 σ H1 _ I1 q1) fun u s2 ⟨y,H2,I2,r2,q2⟩ =>
    thn (ho pins s2 σ H2 x y v u _ I2 r1 r2 q2) fun d s3 ⟨z,H3,I3,r3,k,e,q3⟩=>?_)) hm
  subst e
  cases r3
  refine wpAny_truthy_bool ?_
  cases k with
  | false =>
    obtain ⟨k',e',q'⟩:=q3
    cases e'
    exact ite_ff ⟨H3,I3,q'⟩
  | true =>
    refine ite_tt (test_last (thn (hc pins s3 σ H3 _ I3 q3) fun w' s4 ⟨z',H4,I4,r4,q4⟩=>thn (ho' pins s4 σ H4 y z' u w' _ I4 r2 r4 q4) fun d' s5 ⟨z2,H5,I5,r5,k2,e2,q5⟩=>?_))
    subst e2
    cases r5
    exact wpAny_truthy_bool ⟨H5,I5,q5⟩
noncomputable def TF (K:W.Frag) (x:V) (H:Hp) (k:Bool):Prop :=
  match x with
  | .non=>k=false
  | .bl b=>k=b
  | .int i=>k=(i != 0)
  | .str y=>y.length≤sizeLine∧k=((y.length:Int) != 0)
  | .byt y=>y.size≤sizeLine∧k=((y.size:Int) != 0)
  | .ref p=>(∃ xs,SqL K H p xs∧k= !xs.isEmpty)∨(∃ xs,SqT K H p xs∧k= !xs.isEmpty)∨∃ kvs,H p=some (.dK kvs)∧k= !kvs.isEmpty
  | _=>False
theorem MK {κ:Type} {kvs:List (κ×V)} {vs:List (κ×Value)} (r:KV kvs vs):(!vs.isEmpty)= !kvs.isEmpty:=by
  cases r <;> rfl
theorem xL {xs:List V} {its:List Value} (r:aG xs its):(!its.toArray.isEmpty)= !xs.isEmpty:=by
  cases r <;> simp
theorem nF:(sizeLine:Nat) < 2 ^ 63:=by rw [sizeLine_eq]; decide
theorem FD:aNy X (fun x H Q=>∃ k,TF X.K x H k∧Q k H):=by
  intro pins s σ H x v Q I rx h
  obtain ⟨k,e,q⟩:=h
  have hl:=nF
  have hs:sizeLine=16777216:=sizeLine_eq
  cases x with
  | non =>
    cases rx
    have e':k=false:=e
    subst e'
    exact truthy_none ⟨H,I,q⟩
  | bl b =>
    cases rx
    have e':k=b:=e
    subst e'
    exact wpAny_truthy_bool ⟨H,I,q⟩
  | int i =>
    obtain ⟨t,rfl⟩:=rx
    have e':k=(i != 0):=e
    subst e'
    exact PySem.P.truthy_int ⟨H,I,q⟩
  | str y =>
    obtain ⟨t,rfl⟩:=rx
    obtain ⟨hy,e'⟩:y.length≤sizeLine∧k=((y.length:Int) != 0):=e
    subst e'
    exact PySem.P.truthy_str (by omega) ⟨H,I.tok _,q⟩
  | byt y =>
    obtain ⟨t,rfl⟩:=rx
    obtain ⟨hy,e'⟩:y.size≤sizeLine∧k=((y.size:Int) != 0):=e
    subst e'
    exact W.truthy_bytes (by omega) ⟨H,I.tok _,q⟩
  | ref p =>
    cases rx
    have e':(∃ xs,SqL X.K H p xs∧k= !xs.isEmpty)∨(∃ xs,SqT X.K H p xs∧k= !xs.isEmpty)∨∃ kvs,H p=some (.dK kvs)∧k= !kvs.isEmpty:=e
    rcases e' with ⟨xs,hx,e'⟩ | ⟨xs,hx,e'⟩ | ⟨kvs,hx,e'⟩
    · subst e'
      obtain ⟨its,r,pl,hz⟩:=I.list hx
      have hlen:=r.length
      exact wpAny_truthy_list pl.isList (by simp only [List.size_toArray]; omega) ⟨H,I.tok _,by rw [xL r]; exact q⟩
    · subst e'
      obtain ⟨its,r,pl,hz⟩:=I.tuple hx
      have hlen:=r.length
      exact truthy_tuple pl (by simp only [List.size_toArray]; omega) ⟨H,I.tok _,by rw [xL r]; exact q⟩
    · subst e'
      obtain ⟨hz,hS,vs,r,m⟩:kvs.length≤sizeLine∧(p == sysModules)=false∧∃ vs,KV kvs vs∧s.heap.DictOf (dS X.prog X.w) p vs:=I.hok p _ hx
      have hlen:kvs.length=vs.length:=Paired.length r
      exact wpAny_truthy_dict hS m (by omega) ⟨H,I.tok _,by rw [MK r]; exact q⟩
  | _=>exact (show False from e).elim
theorem YR (ha:PE X a ta) (he:∀ whole,isTrue a X.env whole=(do let v ←whole; standAt a.pos; holding [v] (truthy v))) :
    PT X a (fun σ H Q=>ta σ H fun x H'=>∃ k,TF X.K x H' k∧Q k H'):=by
  intro pins s σ H Q I h
  exact isTrue_plain (thn (ha pins s σ H _ I h) fun v s1 ⟨x,H1,I1,r1,q1⟩=>FD pins s1 σ H1 x v Q I1 r1 q1) (he _)
theorem LH:OpR X (binaryOp .Add) (fun x y H Q=>∃ i j,x= .str i∧y= .str j∧i.length + j.length≤sizeLine∧Q (.str (i ++ j)) H):=by
  intro pins s σ H x y v u Q I rx ry h
  obtain ⟨i,j,rfl,rfl,hz,q⟩:=h
  obtain ⟨t,rfl⟩:=rx
  obtain ⟨t',rfl⟩:=ry
  exact add_str (fun t' tk=>⟨.str (i ++ j),H,I.tok _,⟨_,rfl⟩,q⟩) hz
theorem lG {x:V} {us:List Value} (r:aG [x] us):∃ u,us=[u]∧aL x u:=by
  cases r with
  | cons r1 r2=>cases r2; exact ⟨_,rfl,r1⟩
theorem NU {x y:V} {us:List Value} (r:aG [x,y] us):∃ u w',us=[u,w']∧aL x u∧aL y w':=by
  cases r with
  | cons r1 r2 =>
    cases r2 with
    | cons r3 r4=>cases r4; exact ⟨_,_,rfl,r1,r3⟩
theorem WO:bL X (.builtin "abs") (fun xs H Q=>∃ i,xs=[.int i]∧Q (.int (if i < 0 then -i else i)) H):=by
  intro pins s σ H xs us Q I r h
  obtain ⟨i,rfl,q⟩:=h
  obtain ⟨u,rfl,t,rfl⟩:=lG r
  exact call_abs_int fun u tk=>⟨.int (if i < 0 then -i else i),H,I.tok _,⟨_,rfl⟩,q⟩
theorem QJ (hc:X.calm=true):bL X (.builtin "max") (fun xs H Q=>∃ i j,xs=[.int i,.int j]∧Q (.int (if j > i then j else i)) H):=by
  intro pins s σ H xs us Q I r h
  obtain ⟨i,j,rfl,q⟩:=h
  obtain ⟨u,w',rfl,⟨t,rfl⟩,⟨t',rfl⟩⟩:=NU r
  refine max_two_ints (I.ok.hd hc) fun h' tk k=>⟨_,H,I.kept k, ?_,q⟩
  by_cases hj:j > i
  · rw [if_pos hj,if_pos hj]; exact ⟨_,rfl⟩
  · rw [if_neg hj,if_neg hj]; exact ⟨_,rfl⟩
theorem QH (hc:X.calm=true):bL X (.builtin "min") (fun xs H Q=>∃ i j,xs=[.int i,.int j]∧Q (.int (if j < i then j else i)) H):=by
  intro pins s σ H xs us Q I r h
  obtain ⟨i,j,rfl,q⟩:=h
  obtain ⟨u,w',rfl,⟨t,rfl⟩,⟨t',rfl⟩⟩:=NU r
  refine min_two_ints (I.ok.hd hc) fun h' tk k=>⟨_,H,I.kept k, ?_,q⟩
  by_cases hj:j < i
  · rw [if_pos hj,if_pos hj]; exact ⟨_,rfl⟩
  · rw [if_neg hj,if_neg hj]; exact ⟨_,rfl⟩
theorem SU:bL X (.type "int") (fun xs H Q=>(∃ i,xs=[.int i]∧Q (.int i) H)∨∃ k,xs=[.bl k]∧Q (.int (if k then 1 else 0)) H):=by
  intro pins s σ H xs us Q I r h
  rcases h with ⟨i,rfl,q⟩ | ⟨k,rfl,q⟩
  · obtain ⟨u,rfl,t,rfl⟩:=lG r
    exact call_int_int ⟨.int i,H,I,⟨_,rfl⟩,q⟩
  · obtain ⟨u,rfl,r1⟩:=lG r
    cases r1
    exact call_int_bool ⟨.int (if k then 1 else 0),H,I.tok _,⟨_,rfl⟩,q⟩
end
structure RG (h:Heap) (x dx C:Addr) (mA:Str→Option Value):Prop where
  obj:h.get? x=some (W.instObj C dx)
  ns:h.Ns1 dx mA
  ne:dx≠x
theorem TH {h:Heap} {dx:Addr} {mA:Str→Option Value} (n:h.Ns1 dx mA):∃ od,h.get? dx=some od∧∀ name,W.lookIn name od=some (mA name):=by
  obtain ⟨o,es,ep,ho,hd,hk,_,hm⟩:=n
  refine ⟨o,ho,fun name=>?_⟩
  have e:=hm name
  unfold nsFind findBy at e
  rw [←Array.find?_toList] at e
  unfold W.lookIn
  rw [hd]
  dsimp only
  split
  · rename_i y q
    rw [q] at e
    exact congrArg some e
  · rename_i q
    rw [q] at e
    have a:es.toList.any (·.refKey)=false:=by
      rw [List.any_eq_false]
      intro y hy
      obtain ⟨z,t,hkey⟩:=hk y (Array.mem_toList_iff.mp hy)
      simp [DictEntry.refKey,hkey]
    have a':¬es.toList.any (·.refKey)=true:=by rw [a]; exact Bool.false_ne_true
    rw [if_neg a']
    exact congrArg some e
theorem RG.look {h:Heap} {x dx C:Addr} {mA:Str→Option Value} (I:RG h x dx C mA):∃ od,W.InstAt h x (W.instObj C dx) C (some od)∧∀ name,W.lookIn name od=some (mA name) :=
  let ⟨od,ho,hl⟩:=TH I.ns
  ⟨od,⟨I.obj,rfl,rfl,ho⟩,hl⟩
section
variable {prog:Program} {w:World} {A:Around} {E:Value→Shared→Prop} {s:Shared} {K:W.Frag} {x dx C f:Addr} {mA:Str→Option Value} {name:Str} {v:Value}
theorem aDu {expr:Bool} {Q:Value→Shared→Prop} (X:K.In s.heap) (I:RG s.heap x dx C mA) (hg:W.plainGet K C name=true) (hh:W.hasDictIn K C=true)
    (ha:W.findIn K (.ref C) name=some none) (hv:mA name=some v) (hv':W.handedIn v=true) (h:Q v { s with toks:=s.toks + 1 }) :
    wpAny (model prog w) A (getAttr (.ref x) name expr) Q E s:=by
  obtain ⟨od,J,hl⟩:=I.look
  exact W.get_value X J (W.plainGet_of hg).1 (W.findObj_own hh ha rfl (by rw [hl,hv])) hv' h
theorem aDb {ns:List Str} {Q:Unit→Shared→Prop} (X:K.In s.heap) (I:RG s.heap x dx C mA)
    (hs:W.findIn K (.ref C) "__setattr__"=some (some (.builtin "object.__setattr__"))) (hp:W.plainOver K C=true) (ht:W.takerIn K C name=some none) (hh:W.hasDictIn K C=true)
    (hw:PySem.Within mA ns) (hsz:ns.length≤sizeLine)
    (h:∀ h',RG h' x dx C (fun y=>if y=name then some v else mA y)→Heap.SameBut dx s.heap h'→Q () { s with heap:=h',toks:=s.toks + 2 }) :
    wpAny (model prog w) A (setAttr (.ref x) name v) Q E s:=by
  obtain ⟨od,J,hl⟩:=I.look
  refine W.set_plain X J hs (W.osa_open (s:={ s with toks:=s.toks + 1 }) (r:=none) X J hp ht fun b=>?_)
  obtain ⟨cd,hc,hd'⟩:=W.any_some hh
  have hx:s.heap.get? x=some ⟨.ref C,some dx,.plain, #[]⟩:=I.obj
  refine wpAny_bind (wpAny_pure (wpAny_bind (wpAny_bind (wpAny_loadPart hx (wpAny_bind (W.Looks.here (s:={ s with toks:=s.toks + 1 }) (W.looks_clsIn X hc) ?_))))))
  rw [hd']
  refine wpAny_pure (a:=some dx) (wpAny_bind (wpAny_pure (wpAny_bind ?_)))
  refine wpAny_nsSet1 (s:={ s with toks:=s.toks + 1 }) I.ns fun h' hn2 hs2=>?_
  obtain ⟨oD,esD,epD,hoD,hdD,hcD⟩:=hn2.count (PySem.Within.cons name v hw)
  refine wpAny_bind (wpAny_lookBehind hoD (by rw [hdD]; exact pastItsLine_dict (Nat.le_trans hcD (by rw [List.length_cons]; omega))) ?_)
  exact wpAny_pure (h _ ⟨(hs2.2 _ (Ne.symm I.ne)).trans I.obj,hn2,I.ne⟩ hs2)
theorem GW {R:Result→Shared→Prop} {vs:List Value} {kw:List (Str×Value)} (X:K.In s.heap) (hm:W.makesIn K C=true)
    (hi:W.findIn K (.ref C) "__init__"=some (some (.ref f))) (hf:W.typeIn K (.ref f)=some (.type "function"))
    (h :codeAny (model prog w) (A.under (.builtin "type.__call__" ⟨.ref C :: vs,kw⟩)) (.call (.ref f) ⟨.ref (s.heap.objs.size + 1) :: vs,kw⟩) (W.InitBack (s.heap.objs.size + 1) R)
      { s with heap:=(s.heap.push W.emptyDict).push (W.instObj C s.heap.objs.size) }) :
    codeAny (model prog w) A (.call (.ref C) ⟨vs,kw⟩) R s:=by
  obtain ⟨hh,g,d,t,os⟩:=s
  exact W.make_core (W.makes_of X hm) (W.looks_findIn X hi) (fun self=>W.bind_fn X self hf) (.inl rfl) h
end
noncomputable def lC (f:Str) (v:V):List (Str×V)→List (Str×V)
  | []=>[(f,v)]
  | (g,x) :: r=>if g=f then (g,v) :: r else (g,x) :: lC f v r
theorem uB (f g:Str) (v:V):∀ fs:List (Str×V),(lC f v fs).lookup g=if g=f then some v else fs.lookup g
  | [] =>by
    show List.lookup g [(f,v)]=_
    by_cases h:g=f
    · have hb:(g == f)=true:=beq_iff_eq.mpr h
      simp only [List.lookup,hb,if_pos h]
    · have hb:(g == f)=false:=beq_eq_false_iff_ne.mpr h
      simp only [List.lookup,hb,if_neg h]
  | (k, x) :: r=>by
    have ih:=uB f g v r
    rw [show lC f v ((k,x) :: r)=(if k=f then (k,v) :: r else (k,x) :: lC f v r) from rfl]
    by_cases hk:k=f
    · rw [if_pos hk]
      by_cases h:g=k
      · have hb:(g == k)=true:=beq_iff_eq.mpr h
        simp only [List.lookup,hb,if_pos (h.trans hk)]
      · have hb:(g == k)=false:=beq_eq_false_iff_ne.mpr h
        simp only [List.lookup,hb,if_neg (fun e:g=f=>h (e.trans hk.symm))]
    · rw [if_neg hk]
      by_cases h:g=k
      · have hb:(g == k)=true:=beq_iff_eq.mpr h
        simp only [List.lookup,hb,if_neg (fun e:g=f=>hk (h.symm.trans e))]
      · have hb:(g == k)=false:=beq_eq_false_iff_ne.mpr h
        simp only [List.lookup,hb]
        exact ih
theorem sA (f:Str) (v:V):∀ fs:List (Str×V),f∈(lC f v fs).map (·.1)∧∀ g,g∈fs.map (·.1)→g∈(lC f v fs).map (·.1)
  | []=>⟨by simp [lC],fun g h=>by simp at h⟩
  | (k, x) :: r=>by
    obtain ⟨i1,i2⟩:=sA f v r
    rw [show lC f v ((k,x) :: r)=(if k=f then (k,v) :: r else (k,x) :: lC f v r) from rfl]
    by_cases hk:k=f
    · rw [if_pos hk]
      subst hk
      exact ⟨by simp,fun g h=>by simpa using h⟩
    · rw [if_neg hk]
      refine ⟨?_,fun g h=>?_⟩
      · rw [List.map_cons]
        exact List.mem_cons_of_mem _ i1
      · rw [List.map_cons] at h ⊢
        rcases List.mem_cons.mp h with e | e
        · exact List.mem_cons.mpr (.inl e)
        · exact List.mem_cons_of_mem _ (i2 g e)
theorem uC (f:Str) (v:V):∀ fs:List (Str×V),(lC f v fs).length≤fs.length + 1
  | []=>by simp [lC]
  | (k,x) :: r=>by
    have ih:=uC f v r
    rw [show lC f v ((k,x) :: r)=(if k=f then (k,v) :: r else (k,x) :: lC f v r) from rfl]
    by_cases hk:k=f
    · rw [if_pos hk,List.length_cons,List.length_cons]; omega
    · rw [if_neg hk,List.length_cons,List.length_cons]; omega
theorem tI.some_of {v:V} {o:Option Value} (r:tI (some v) o):∃ u,o=some u∧aL v u:=by
  cases o with
  | none=>exact (show False from r).elim
  | some u=>exact ⟨u,rfl,r⟩
theorem QO {v:V} {u:Value} (r:aL v u):W.handedIn u=true:=by
  cases v with
  | non=>cases (show u=Value.none from r); rfl
  | bl b=>cases (show u=Value.bool b from r); rfl
  | int i=>obtain ⟨t,e⟩:=(show ∃ t,u=Value.int i t from r); cases e; rfl
  | str x=>obtain ⟨t,e⟩:=(show ∃ t,u=Value.str x t from r); cases e; rfl
  | byt b=>obtain ⟨t,e⟩:=(show ∃ t,u=Value.bytes b t from r); cases e; rfl
  | flt b=>obtain ⟨t,e⟩:=(show ∃ t,u=Value.float b t from r); cases e; rfl
  | ref a=>cases (show u=Value.ref a from r); rfl
  | ty n=>cases (show u=Value.type n from r); rfl
section
variable {P:Program} {w:World} {H H':Hp} {h h':Heap} {a C dx:Addr} {fs fs':List (Str×V)}
theorem vA (hok:HOk P w H h) (e:H a=some (.ins C dx fs)):∃ mA,RG h a dx C mA∧(∀ f,tI (fs.lookup f) (mA f))∧PySem.Within mA (fs.map (·.1))∧fs.length≤1000∧H dx=some (.own a):=by
  obtain ⟨d,z,ne,ob,mA,n,r,q⟩:=(show cU P w H h a (.ins C dx fs) from hok a _ e)
  exact ⟨mA,⟨ob,n,ne⟩,r,q,z,d⟩
end
structure Cls (K:W.Frag) (C:Addr):Prop where
  pg:W.plainGet K C Str.empty=true
  hd:W.hasDictIn K C=true
  po:W.plainOver K C=true
  sa:W.findIn K (.ref C) "__setattr__"=some (some (.builtin "object.__setattr__"))
theorem Cls.get {K:W.Frag} {C:Addr} (c:Cls K C) (f:Str):W.plainGet K C f=true:=c.pg
noncomputable def gF (K:W.Frag) (C:Addr) (f:Str):Prop:=W.findIn K (.ref C) f=some none
theorem gF.taker {K:W.Frag} {C:Addr} {f:Str} (n:gF K C f):W.takerIn K C f=some none:=by
  unfold W.takerIn
  rw [show W.findIn K (.ref C) f=some none from n]
  rfl
structure Con (K:W.Frag) (C:Addr) (f:Str) (v:V) (u:Value):Prop where
  at_:W.findIn K (.ref C) f=some (some u)
  rel:aL v u
  get:W.specialIn K u "__get__"=some none
  cp:W.copiedNames.contains f=false
structure zZ (K:W.Frag) (C:Addr) (m:Str) (f:Addr):Prop where
  at_:W.findIn K (.ref C) m=some (some (.ref f))
  fn:W.isFn K (.ref f)=true
  kp:W.keepIn K (.ref f)=true
section
variable {X:Cx} {pins:List (Addr×Obj)} {σ:St} {H:Hp} {s:Shared} {a C dx:Addr} {fs:List (Str×V)} {f:Str} {v:V} {A:Around} {E:Value→Shared→Prop}
theorem MV {b:Bool} {Q:Value→Shared→Prop} (I:Inv X pins σ H s) (e:H a=some (.ins C dx fs)) (c:Cls X.K C) (n:gF X.K C f) (l:fs.lookup f=some v)
    (h:∀ u s',Inv X pins σ H s'→aL v u→Q u s'):wpAny (model X.prog X.w) A (getAttr (.ref a) f b) Q E s:=by
  obtain ⟨mA,O,r,_,_,_⟩:=vA I.hok e
  obtain ⟨u,hu,ru⟩:=tI.some_of (v:=v) (o:=mA f) (by rw [←l]; exact r f)
  exact aDu I.kIn O (c.get f) c.hd n hu (QO ru) (h u _ (I.tok _) ru)
theorem MW {y:V} {u:Value} {Q:Unit→Shared→Prop} (I:Inv X pins σ H s) (e:H a=some (.ins C dx fs)) (c:Cls X.K C) (n:gF X.K C f) (hl:fs.length < 1000) (ry:aL y u)
    (h:∀ s',Inv X pins σ (upd H a (.ins C dx (lC f y fs))) s'→Q () s'):wpAny (model X.prog X.w) A (setAttr (.ref a) f u) Q E s:=by
  obtain ⟨mA,O,r,wi,_,ho⟩:=vA I.hok e
  have hz:(fs.map (·.1)).length≤sizeLine:=by rw [List.length_map,sizeLine_eq]; omega
  refine aDb I.kIn O c.sa c.po n.taker c.hd wi hz fun h' O' sb=>h _ ?_
  have hd:∃ o,h'.get? dx=some o:=let ⟨o,_,_,e',_⟩:=O'.ns; ⟨o,e'⟩
  refine I.write (x:=a) (e:=dx) (by rw [e]; exact True.intro) (.inr ho) (fun b q hb z=>(sb.2 b hb).trans z) hd ?_
  refine ⟨by rw [aF O.ne]; exact ho, ?_,O.ne,O'.obj,_,O'.ns,fun g=>?_,fun g hg=>?_⟩
  · have:=uC f y fs; omega
  · show tI ((lC f y fs).lookup g) (if g=f then some u else mA g)
    rw [uB]
    by_cases q:g=f
    · rw [if_pos q,if_pos q]; exact ry
    · rw [if_neg q,if_neg q]; exact r g
  · by_cases q:g=f
    · rw [q]; exact (sA f y fs).1
    · refine (sA f y fs).2 g (wi g fun z=>hg ?_)
      show (if g=f then some u else mA g)=none
      rw [if_neg q]; exact z
theorem Inv.made (I:Inv X pins σ H s):Inv X pins σ (upd (upd H s.heap.objs.size (.own (s.heap.objs.size + 1))) (s.heap.objs.size + 1) (.ins C s.heap.objs.size []))
    { s with heap:=(s.heap.push W.emptyDict).push (W.instObj C s.heap.objs.size) }:=by
  have e1:(s.heap.push W.emptyDict).get? s.heap.objs.size=some W.emptyDict:=Heap.get?_push_size s.heap rfl
  have e2:((s.heap.push W.emptyDict).push (W.instObj C s.heap.objs.size)).get? (s.heap.objs.size + 1)=some (W.instObj C s.heap.objs.size):=by
    have:=Heap.get?_push_size (s.heap.push W.emptyDict) (o:=W.instObj C s.heap.objs.size) rfl
    rwa [Heap.size_push] at this
  have e3:(s.heap.push W.emptyDict).Ns s.heap.objs.size (fun _=>none):=⟨W.emptyDict, #[],_,e1,rfl,(fun e he=>absurd he (by simp)),fun _=>rfl⟩
  have I1:=I.laid (a:=s.heap.objs.size) (o:=.own (s.heap.objs.size + 1)) (h':=s.heap.push W.emptyDict) (t':=s.toks) (fun b u q=>Heap.get?_push_of_some _ q) (Nat.le_refl _) ⟨_,e1⟩
  refine I1.laid (a:=s.heap.objs.size + 1) (o:=.ins C s.heap.objs.size []) (t':=s.toks) (fun b u q=>Heap.get?_push_of_some _ q) (Nat.le_of_eq (Heap.size_push _ _)) ?_
  have ne:s.heap.objs.size≠s.heap.objs.size + 1:=Nat.ne_of_lt (Nat.lt_succ_self _)
  refine ⟨by rw [aF ne,aW],Nat.zero_le _,ne,e2,fun _=>none,(Heap.Ns1.of_empty e3).at fun o q=>Heap.get?_push_of_some _ q,fun _=>True.intro,fun y hy=>absurd rfl hy⟩
theorem aCi {prog:Program} {w:World} {env:Env} {e:Expr} {f:Str} {pos:Pos} {s:Shared} {Q:Value→Shared→Prop} (hb:attributeBase e f env (eval e env)=eval e env)
    (h:wpAny (model prog w) A (eval e env) (fun o s₁=>wpAny (model prog w) A (getAttr o f true) Q E s₁) E s):wpAny (model prog w) A (eval (.Attribute e f pos) env) Q E s :=
  Attribute_any_ h (by rw [arm_eval_Attribute,hb])
end
noncomputable def aNu (K:W.Frag) (ta:TE) (f:Str):TE:=fun σ H Q=>ta σ H fun x H1=>∃ a C dx fs v,x= .ref a∧H1 a=some (.ins C dx fs)∧Cls K C∧gF K C f∧fs.lookup f=some v∧Q v H1
noncomputable def aL2 (K:W.Frag) (ta tv:TE) (f:Str):TS:=fun D σ H=>tv σ H fun y H1=>ta σ H1 fun x H2=>∃ a C dx fs,x= .ref a∧H2 a=some (.ins C dx fs)∧Cls K C∧gF K C f∧fs.length < 1000∧
  D.nx σ (upd H2 a (.ins C dx (lC f y fs)))
section
variable {X:Cx} {o e value:Expr} {f:Str} {pos pos' tpos:Pos} {ta tv:TE}
theorem aFR (he:PE X e ta) (hb:attributeBase e f X.env (eval e X.env)=eval e X.env):PE X (.Attribute e f pos) (aNu X.K ta f):=by
  intro pins s σ H Q I h
  refine aCi hb (thn (he pins s σ H _ I h) fun u s1 ⟨x,H1,I1,rx,a,C,dx,fs,v,ex,ea,c,n,l,q⟩=>?_)
  subst ex
  obtain rfl:u=Value.ref a:=rx
  exact MV I1 ea c n l fun u' s2 I2 ru=>⟨v,H1,I2,ru,q⟩
theorem aGZ (ha:PE X o ta) (hv:PE X value tv) (hs:swapsWith value (some (.Attribute o f pos')) pos.line X.env=pure false):PS X (.Assign [.Attribute o f pos'] value pos) (aL2 X.K ta tv f):=by
  intro pins s σ H D I h
  refine plainObj_wpAny_Assign_Attribute (thn (hv pins s σ H _ I h) fun u s1 ⟨y,H1,I1,ry,q⟩=>thn (ha pins s1 σ H1 _ I1 q) fun ov s2 ⟨x,H2,I2,rx,a,C,dx,fs,ex,ea,c,n,l,q2⟩=>?_) hs
  subst ex
  obtain rfl:ov=Value.ref a:=rx
  exact MW I2 ea c n l ry fun s3 I3=>⟨σ,_,I3,q2⟩
end
section
variable {X:Cx} {pins:List (Addr×Obj)} {σ:St} {H:Hp} {s:Shared} {A:Around} {E:Value→Shared→Prop} {Q:Value→Shared→Prop} {c:Value} {b:Bool}
inductive sM (K:W.Frag) (H:Hp):V→Value→Prop where
  | non:sM K H .non (.type "NoneType")
  | bl (x:Bool):sM K H (.bl x) (.type "bool")
  | int (i:Int):sM K H (.int i) (.type "int")
  | str (x:Str):sM K H (.str x) (.type "str")
  | flt (x:UInt64):sM K H (.flt x) (.type "float")
  | lst {a:Addr} {xs:List V} (e:H a=some (.lst xs)):sM K H (.ref a) (.type "list")
  | frz {a:Addr} {o:Obj} {xs:List V} (e:H a=some (.frz o (.lst xs))):sM K H (.ref a) (.type "list")
  | tup {a:Addr} {xs:List V} (e:H a=some (.tup xs)):sM K H (.ref a) (.type "tuple")
  | dK {a:Addr} {kvs:List (Key×V)} (e:H a=some (.dK kvs)):sM K H (.ref a) (.type "dict")
  | dT {a:Addr} {kvs:List (List Key×V)} (e:H a=some (.dT kvs)):sM K H (.ref a) (.type "dict")
  | ins {a C dx:Addr} {fs:List (Str×V)} (e:H a=some (.ins C dx fs)) (cl:Cls K C) (ha:W.findIn K (.ref C) "__class__"=some (some (.builtin "object.__class__")))
      (hn:W.specialIn K (.builtin "object.__class__") "__get__"=some (some (.builtin "getset_descriptor.__get__"))) (htk:W.takesIn K (.builtin "object.__class__")=some true)
      (hm:W.mroIn K C (.type "object")=some true):sM K H (.ref a) (.ref C)
theorem AY {x:V} {u t:Value} (I:Inv X pins σ H s) (rx:aL x u) (ty:sM X.K H x t) (e:W.kitOne X.K t c=some b) (h:∀ tk,Q (.bool b) { s with toks:=tk }) :
    wpAny (model X.prog X.w) A (call (.builtin "isinstance") [u,c]) Q E s:=by
  cases ty with
  | non=>cases (show u=Value.none from rx); exact W.kia_one W.kitx_none I.kIn True.intro e (fun z=>nomatch z) h
  | bl y=>cases (show u=Value.bool y from rx); exact W.kia_one W.kitx_bool I.kIn True.intro e (fun z=>nomatch z) h
  | int i=>obtain ⟨t,q⟩:=(show ∃ t,u=Value.int i t from rx); cases q; exact W.kia_one W.kitx_int I.kIn True.intro e (fun z=>nomatch z) h
  | str y=>obtain ⟨t,q⟩:=(show ∃ t,u=Value.str y t from rx); cases q; exact W.kia_one W.kitx_str I.kIn True.intro e (fun z=>nomatch z) h
  | flt y=>obtain ⟨t,q⟩:=(show ∃ t,u=Value.float y t from rx); cases q; exact W.kia_one W.kitx_float I.kIn True.intro e (fun z=>nomatch z) h
  | @lst a xs ea =>
    cases (show u=Value.ref a from rx)
    obtain ⟨_,_,n,_,h1⟩:=(show cU X.prog X.w H s.heap a (.lst xs) from I.hok a _ ea)
    exact W.kia_one W.kitx_list I.kIn ⟨_,h1,rfl⟩ e (fun z=>nomatch z) h
  | @frz a ob xs ea =>
    cases (show u=Value.ref a from rx)
    obtain ⟨_,_,_,n,_,h1⟩:=(show cU X.prog X.w H s.heap a (.frz ob (.lst xs)) from I.hok a _ ea)
    exact W.kia_one W.kitx_list I.kIn ⟨_,h1,rfl⟩ e (fun z=>nomatch z) h
  | @tup a xs ea =>
    cases (show u=Value.ref a from rx)
    obtain ⟨_,_,_,p⟩:=(show cU X.prog X.w H s.heap a (.tup xs) from I.hok a _ ea)
    obtain ⟨o,h1,h2,_⟩:=p.1
    exact W.kia_one W.kitx_tuple I.kIn ⟨o,h1,h2⟩ e (fun z=>nomatch z) h
  | @dK a kvs ea =>
    cases (show u=Value.ref a from rx)
    obtain ⟨_,_,vs,_,p⟩:=(show cU X.prog X.w H s.heap a (.dK kvs) from I.hok a _ ea)
    obtain ⟨o,es,ep,h1,h2,_⟩:=p
    exact W.kia_one W.kitx_dict I.kIn ⟨o,h1,h2.1⟩ e (fun z=>nomatch z) h
  | @dT a kvs ea =>
    cases (show u=Value.ref a from rx)
    obtain ⟨_,_,xs,_,o,es,ep,h1,h2,_⟩:=(show cU X.prog X.w H s.heap a (.dT kvs) from I.hok a _ ea)
    exact W.kia_one W.kitx_dict I.kIn ⟨o,h1,h2.1⟩ e (fun z=>nomatch z) h
  | @ins a C dx fs ea cl ha hn htk hm =>
    cases (show u=Value.ref a from rx)
    obtain ⟨mA,O,_⟩:=vA I.hok ea
    obtain ⟨od,J,_⟩:=O.look
    exact W.kia_one (W.kitx_own (cl.get _) cl.hd ha hn htk hm) I.kIn J e (fun z=>nomatch z) h
end
structure bS (k:Nat) (A:Around):Prop where
  hd:A.handled=none
  dp:A.depth + 3 * k + 5 < recursionLimit
  un:A.units + 16 * k + 200 < cLine
  gd:80≤k→A.guards=some []
theorem bS.mono {j k:Nat} {A:Around} (r:bS k A) (h:j≤k):bS j A:=⟨r.hd,by have:=r.dp; omega,by have:=r.un; omega,fun z=>r.gd (Nat.le_trans z h)⟩
theorem bS.deeper {k:Nat} {A:Around} (r:bS (k + 1) A) (env:Env):bS k (A.deeper env) :=
  ⟨r.hd,by have:=r.dp; show A.depth + 1 + 3 * k + 5 < _; omega,by have:=r.un; show A.units + 3 + 16 * k + 200 < _; omega,fun z=>r.gd (Nat.le_succ_of_le z)⟩
theorem bS.in1 {k:Nat} {A:Around} (r:bS (k + 1) A):bS k A.in1 :=
  ⟨r.hd,by have:=r.dp; show A.depth + 3 * k + 5 < _; omega,by have:=r.un; show A.units + 1 + 16 * k + 200 < _; omega,fun z=>r.gd (Nat.le_succ_of_le z)⟩
theorem MB {A:Around} {C:Addr} {us:List Value} {kw:List (Str×Value)}:(A.under (.builtin "type.__call__" ⟨.ref C :: us,kw⟩)).depth=A.depth + 1:=by
  first | rfl | simp [Around.under,Code.weight,Code.isCreation,Code.isGuard,Code.isCaller,Code.frames,Code.isFrame,guardIds]
theorem MT {A:Around} {C:Addr} {us:List Value} {kw:List (Str×Value)}:(A.under (.builtin "type.__call__" ⟨.ref C :: us,kw⟩)).units=A.units + 1:=by
  first | rfl | simp [Around.under,Code.cUnits,Code.frames,Code.isFrame]
theorem bS.make {k:Nat} {A:Around} (r:bS (k + 1) A) (C:Addr) (us:List Value) (kw:List (Str×Value)):bS k (A.under (.builtin "type.__call__" ⟨.ref C :: us,kw⟩)) :=
  ⟨r.hd,by have:=r.dp; rw [MB]; omega,by have:=r.un; rw [MT]; omega,fun z=>by
    have e:=r.gd (Nat.le_succ_of_le z)
    first | exact e | (simp only [Around.under,Code.isGuard,guardIds]; simpa using e)⟩
theorem bS.depth {k:Nat} {A:Around} (r:bS k A):A.depth < recursionLimit:=by have:=r.dp; omega
theorem bS.units {k:Nat} {A:Around} (r:bS k A):A.units + 64 < cLine:=by have:=r.un; omega
theorem bS.units0 {k:Nat} {A:Around} (r:bS k A):A.units < cLine:=by have:=r.un; omega
noncomputable def aJe:TA:=fun _ H Q=>Q [] H
noncomputable def aFJ (ta:TE) (tr:TA):TA:=fun σ H Q=>ta σ H fun x H1=>tr σ H1 fun xs H2=>Q (x :: xs) H2
section
variable {X:Cx} {e:Expr} {es:List Expr} {te:TE} {t:TA} {pos:Pos}
theorem sZ:PA X [] aJe:=fun _ _ _ _ H Q I h=>Calls.spliced_nil ⟨[],H,I,.nil,h⟩
theorem fP (ha:PE X e te) (hr:PA X es t) (hs:starEach (e :: es) X.env=(false,eval e X.env) :: starEach es X.env:=by rfl):PA X (e :: es) (aFJ te t):=by
  intro pos pins s σ H Q I h
  rw [hs]
  show wpAny _ _ (spliced ((false,eval e X.env) :: backTo pos (starEach es X.env))) _ _ s
  refine Calls.spliced_cons (thn (ha pins s σ H _ I h) fun u s1 ⟨x,H1,I1,r1,q1⟩=>?_)
  exact thn (hr pos pins s1 σ H1 _ I1 q1) fun us s2 ⟨xs,H2,I2,r2,q2⟩=>⟨x :: xs,H2,I2,.cons r1 r2,q2⟩
noncomputable def aL6 (t:TA):TE:=fun σ H Q=>t σ H fun xs H1=>xs.length≤sizeLine∧∀ p,H1 p=none→Q (.ref p) (upd H1 p (.tup xs))
noncomputable def aMg (t:TA):TE:=fun σ H Q=>t σ H fun xs H1=>xs.length≤sizeLine∧∀ p,H1 p=none→Q (.ref p) (upd H1 p (.lst xs))
theorem aHf {x1} (h:PA X es t):PE X (.Tuple es x1 pos) (aL6 t):=by
  intro pins s σ H Q I hq
  refine wpAny_Tuple_spliced (thn (h pos pins s σ H _ I hq) fun us s1 ⟨xs,H1,I1,r,z,q⟩=>⟨by rw [←r.length]; exact z, ?_⟩)
  have hf:H1 s1.heap.objs.size=none:=I1.hok.fresh (Nat.le_refl _)
  refine ⟨.ref s1.heap.objs.size,upd H1 s1.heap.objs.size (.tup xs),I1.laid (t':=s1.toks) (fun b u e=>Heap.get?_push_of_some _ e) (Nat.le_refl _) ?_,rfl,q _ hf⟩
  exact ⟨z,us,r,gC.new _ _⟩
theorem aIG (h:PA X es t):PE X (.List es pos) (aMg t):=by
  intro pins s σ H Q I hq
  refine wpAny_List_spliced (thn (h pos pins s σ H _ I hq) fun us s1 ⟨xs,H1,I1,r,z,q⟩=>⟨by rw [←r.length]; exact z, ?_⟩)
  have hf:H1 s1.heap.objs.size=none:=I1.hok.fresh (Nat.le_refl _)
  refine ⟨.ref s1.heap.objs.size,upd H1 s1.heap.objs.size (.lst xs),I1.laid (t':=s1.toks) (fun b u e=>Heap.get?_push_of_some _ e) (Nat.le_refl _) ?_,rfl,q _ hf⟩
  exact ⟨z,us,0,r,Heap.get?_push_size _ rfl⟩
end
noncomputable abbrev Sp:=List V→Hp→VK→XK→Prop
noncomputable abbrev CXT:=List Env→Hp→Shared→XK→Value→Shared→Prop
structure uR (P:Program) (w:World) (K:W.Frag) (mg:Str→Option Value) (base:Heap) (A:Around) (outer:List Env) (s:Shared) (H:Hp):Prop where
  frames:A.frames=some outer
  mod:Mod K mg base
  bs:∀ b o,base.get? b=some o→s.heap.get? b=some o∧H b=none
  bsz:base.objs.size≤s.heap.objs.size
  funs:s.heap.FunFrames base outer
  frf:∀ b∈frs outer,H b=none
  hok:HOk P w H s.heap
  bare:AllBare s.gens
noncomputable def CE (outer:List Env) (P:Program) (w:World) (H:Hp) (s:Shared) (Q:VK) (u:Value) (s':Shared):Prop :=
  ∃ v H',s'.os=s.os∧AllBare s'.gens∧Un (frs outer) [] H H' s.heap s'.heap∧HOk P w H' s'.heap∧aL v u∧Q v H'
noncomputable def CR (CX:CXT) (outer:List Env) (P:Program) (w:World) (H:Hp) (s:Shared) (Q:VK) (E:XK) (r:Result) (s':Shared):Prop :=
  match r with
  | .ok (.ret u)=>CE outer P w H s Q u s'
  | .ok _=>False
  | .error e=>CX outer H s E e s'
structure cJ (P:Program) (w:World) (K:W.Frag) (mg:Str→Option Value) (base:Heap) (CX:CXT) (k:Nat) (f:Addr) (fd:FuncData) (ps:List Str) (sp:Sp):Prop where
  len:∀ vs H Q E,sp vs H Q E→vs.length=ps.length
  run:∀ (A:Around) (outer:List Env) (s:Shared) (H:Hp) (args:Args) (us:List Value) (vs:List V) (Q:VK) (E:XK),bS k A→uR P w K mg base A outer s H→BindsTo s fd args (ps.zip us)→aG vs us→sp vs H Q E→
    codeAny (model P w) A (.call (.ref f) args) (CR CX outer P w H s Q E) s
theorem cJ.mono {P:Program} {w:World} {K:W.Frag} {mg:Str→Option Value} {base:Heap} {CX:CXT} {j k:Nat} {f:Addr} {fd:FuncData} {ps:List Str} {sp:Sp} (F:cJ P w K mg base CX j f fd ps sp) (h:j≤k) :
    cJ P w K mg base CX k f fd ps sp:=⟨F.len,fun A outer s H args us vs Q E hr=>F.run A outer s H args us vs Q E (hr.mono h)⟩
theorem cJ.imp {P:Program} {w:World} {K:W.Frag} {mg:Str→Option Value} {base:Heap} {CX:CXT} {k:Nat} {f:Addr} {fd:FuncData} {ps:List Str} {sp sp':Sp} (F:cJ P w K mg base CX k f fd ps sp)
    (h:∀ vs H Q E,sp' vs H Q E→sp vs H Q E):cJ P w K mg base CX k f fd ps sp' :=
  ⟨fun vs H Q E q=>F.len vs H Q E (h _ _ _ _ q),fun A outer s H args us vs Q E hr he hb hv hs=>F.run A outer s H args us vs Q E hr he hb hv (h _ _ _ _ hs)⟩
theorem uR.make {P:Program} {w:World} {K:W.Frag} {mg:Str→Option Value} {base:Heap} {A:Around} {outer:List Env} {s:Shared} {H:Hp} (e:uR P w K mg base A outer s H) (C:Addr) (us:List Value) (kw:List (Str×Value)) :
    uR P w K mg base (A.under (.builtin "type.__call__" ⟨.ref C :: us,kw⟩)) outer s H:=⟨by first | exact e.frames | (simpa [Around.under,Code.envs,Code.isFrame,pushEnvs] using e.frames),e.mod,e.bs,e.bsz,e.funs,e.frf,e.hok,e.bare⟩
theorem uR.in1 {P:Program} {w:World} {K:W.Frag} {mg:Str→Option Value} {base:Heap} {A:Around} {outer:List Env} {s:Shared} {H:Hp} (e:uR P w K mg base A outer s H) :
    uR P w K mg base A.in1 outer s H:=⟨e.frames,e.mod,e.bs,e.bsz,e.funs,e.frf,e.hok,e.bare⟩
section
variable {X:Cx} {pins:List (Addr×Obj)} {σ:St} {H:Hp} {s s':Shared}
theorem Inv.env0 (I:Inv X pins σ H s):uR X.prog X.w X.K X.mg X.base X.A X.stack s H :=
  ⟨I.ok.frames,I.ok.mod,I.bs,Nat.le_trans I.ok.bsz I.sz,I.stack,I.stkFree,I.hok,I.bare⟩
theorem Inv.after {Q:VK} {u:Value} (I:Inv X pins σ H s) (h:CE X.stack X.prog X.w H s Q u s'):EP X pins σ Q u s':=by
  obtain ⟨v,H',os,bare,un,hok,r,q⟩:=h
  obtain ⟨hh,g,d,t,os'⟩:=s'
  obtain rfl:os'=s.os:=os
  exact ⟨v,H',I.call (h':=hh) (g':=g) (d':=d) (t':=t) (ch:=[]) un hok bare (fun b z=>absurd z (by simp)),r,q⟩
end
noncomputable def aK5 (sp:Sp) (dvs:List V) (E:XK) (t:TA):TE:=fun σ H Q=>t σ H fun vs H1=>sp (vs ++ dvs) H1 Q E
noncomputable def aJE (C:Addr) (sp:Sp) (dvs:List V) (E:XK) (t:TA):TE:=fun σ H Q=>t σ H fun vs H1=>∀ x dx,H1 x=none→H1 dx=none→dx≠x→
  sp (.ref x :: (vs ++ dvs)) (upd (upd H1 dx (.own x)) x (.ins C dx [])) (fun v H2=>v= .non∧Q (.ref x) H2) E
noncomputable def aE (K:W.Frag) (fd:FuncData) (ps:List Str) (ds:List Value):Prop :=
  ∀ (s:Shared) (us:List Value),K.In s.heap→(us ++ ds).length=ps.length→BindsTo s fd ⟨us,[]⟩ (ps.zip (us ++ ds))
theorem aE.all {K:W.Frag} {fd:FuncData} {ps:List Str} (h:∀ us:List Value,us.length=ps.length→bindArgs fd ⟨us,[]⟩=pure (ps.zip us)):aE K fd ps []:=fun s us _ hl=>by
  rw [List.append_nil] at hl ⊢
  exact .of_eq (h us hl)
noncomputable def sJ (CX:CXT) (X:Cx) (E:XK):Prop:= ∀ (pins:List (Addr×Obj)) (σ:St) (H:Hp) (s:Shared) (e:Value) (s':Shared),Inv X pins σ H s→CX X.stack H s E e s'→X.xe e s'
section
variable {X:Cx} {CX:CXT} {k:Nat} {f C:Addr} {fd:FuncData} {ps:List Str} {sp:Sp} {dvs:List V} {ds:List Value} {E:XK} {x m:Str} {p pos apos:Pos} {e o:Expr} {es:List Expr} {ta:TE} {t:TA}
theorem aIi {pins:List (Addr×Obj)} {σ:St} {H:Hp} {s:Shared} {Q:VK} {us:List Value} {vs:List V} (F:cJ X.prog X.w X.K X.mg X.base CX k f fd ps sp) (hr:bS k X.A) (hb:aE X.K fd ps ds) (hd:aG dvs ds) (hx:sJ CX X E)
    (I:Inv X pins σ H s) (r:aG vs us) (h:sp (vs ++ dvs) H Q E):wpAny (model X.prog X.w) X.A (call (.ref f) us) (EP X pins σ Q) X.xe s:=by
  have r2:aG (vs ++ dvs) (us ++ ds):=r.append hd
  have hl:(us ++ ds).length=ps.length:=by rw [←r2.length]; exact F.len _ _ _ _ h
  refine wpAny_call (codeAny_mono (F.run X.A X.stack s H ⟨us,[]⟩ (us ++ ds) (vs ++ dvs) Q E hr I.env0 (hb s us I.kIn hl) r2 h) fun r s' hq=>?_)
  cases r with
  | error e=>exact hx pins σ H s e s' I hq
  | ok fl =>
    cases fl with
    | ret u=>exact I.after hq
    | next=>exact False.elim hq
    | brk=>exact False.elim hq
    | cont=>exact False.elim hq
theorem aCA (F:cJ X.prog X.w X.K X.mg X.base CX k f fd ps sp) (hr:bS k X.A) (hg:Gl X x) (hm:X.mg x=some (.ref f)) (hk:W.keepIn X.K (.ref f)=true) (hb:aE X.K fd ps ds) (hd:aG dvs ds) (hx:sJ CX X E)
    (ha:PA X (e :: es) t) (hdb:(x == ("__debug__":Str))=false:=by decide) (he:starEach (e :: es) X.env=(false,eval e X.env) :: starEach es X.env:=by rfl) (hpl:(backTo pos (starEach es X.env)).any (·.1)=false:=by rfl) :
    PE X (.Call (.Name x p) (e :: es) [] pos) (aK5 sp dvs E t):=by
  intro pins s σ H Q I h
  refine wpAny_Call_Name_kw (mH I hg hm ?_ hdb)
  refine W.callWith_K (h₀:=X.base) I.ok.mod.kin hk (thn (ha pos pins s σ H _ I h) fun us s1 ⟨vs,H1,I1,r,q⟩=>⟨I1.kIn, ?_⟩) he hpl
  exact aIi F hr hb hd hx I1 r q
structure Mk (K:W.Frag) (C f:Addr):Prop where
  makes:W.makesIn K C=true
  init:W.findIn K (.ref C) "__init__"=some (some (.ref f))
  fn:W.isFn K (.ref f)=true
  kp:W.keepIn K (.ref C)=true
theorem ZK {pins:List (Addr×Obj)} {σ:St} {H:Hp} {s:Shared} {Q:VK} {us:List Value} {vs:List V} (M:Mk X.K C f) (F:cJ X.prog X.w X.K X.mg X.base CX k f fd ps sp) (hr:bS (k + 1) X.A) (hb:aE X.K fd ps ds) (hd:aG dvs ds)
    (hx:sJ CX X E) (I:Inv X pins σ H s) (r:aG vs us)
    (h:∀ x dx,H x=none→H dx=none→dx≠x→sp (.ref x :: (vs ++ dvs)) (upd (upd H dx (.own x)) x (.ins C dx [])) (fun v H2=>v= .non∧Q (.ref x) H2) E) :
    wpAny (model X.prog X.w) X.A (call (.ref C) us) (EP X pins σ Q) X.xe s:=by
  have hq:=h (s.heap.objs.size + 1) s.heap.objs.size (I.hok.fresh (Nat.le_succ _)) (I.hok.fresh (Nat.le_refl _)) (Nat.ne_of_lt (Nat.lt_succ_self _))
  have I2:=Inv.made (C:=C) I
  have r2:aG (V.ref (s.heap.objs.size + 1) :: (vs ++ dvs)) (Value.ref (s.heap.objs.size + 1) :: (us ++ ds)):=.cons rfl (r.append hd)
  have hl:(Value.ref (s.heap.objs.size + 1) :: us ++ ds).length=ps.length:=by
    have e:=r2.length
    rw [F.len _ _ _ _ hq] at e
    exact e.symm
  refine wpAny_call (GW (f:=f) I.kIn M.makes M.init (beq_iff_eq.mp M.fn) (codeAny_mono (F.run _ X.stack _ _ ⟨Value.ref (s.heap.objs.size + 1) :: us,[]⟩ (Value.ref (s.heap.objs.size + 1) :: (us ++ ds)) _ _ E (hr.make C us [])
    (I2.env0.make C us []) (hb _ (Value.ref (s.heap.objs.size + 1) :: us) I2.kIn hl) r2 hq) fun r s' hq'=>?_))
  cases r with
  | error e=>exact hx pins σ _ _ e s' I2 hq'
  | ok fl =>
    cases fl with
    | ret u =>
      obtain ⟨v,H',I3,rv,ev,q3⟩:=I2.after hq'
      subst ev
      exact ⟨rv,⟨V.ref (s.heap.objs.size + 1),H',I3,rfl,q3⟩⟩
    | next=>exact False.elim hq'
    | brk=>exact False.elim hq'
    | cont=>exact False.elim hq'
theorem aB5 (M:Mk X.K C f) (F:cJ X.prog X.w X.K X.mg X.base CX k f fd ps sp) (hr:bS (k + 1) X.A) (hg:Gl X x) (hm:X.mg x=some (.ref C)) (hb:aE X.K fd ps ds) (hd:aG dvs ds) (hx:sJ CX X E)
    (ha:PA X (e :: es) t) (hdb:(x == ("__debug__":Str))=false:=by decide) (he:starEach (e :: es) X.env=(false,eval e X.env) :: starEach es X.env:=by rfl) (hpl:(backTo pos (starEach es X.env)).any (·.1)=false:=by rfl) :
    PE X (.Call (.Name x p) (e :: es) [] pos) (aJE C sp dvs E t):=by
  intro pins s σ H Q I h
  refine wpAny_Call_Name_kw (mH I hg hm ?_ hdb)
  refine W.callWith_K (h₀:=X.base) I.ok.mod.kin M.kp (thn (ha pos pins s σ H _ I h) fun us s1 ⟨vs,H1,I1,r,q⟩=>⟨I1.kIn, ?_⟩) he hpl
  exact ZK M F hr hb hd hx I1 r q
end
noncomputable def PK (X:Cx) (kws:List Keyword) (t:TA):Prop :=
  ∀ (pos:Pos) (pins:List (Addr×Obj)) (s:Shared) (σ:St) (H:Hp) (Q:List V→Hp→Prop),Inv X pins σ H s→t σ H Q→wpAny (model X.prog X.w) X.A (evalAll ((backToKw pos (keywordEach kws X.env)).map (·.2))) (AP X pins σ Q) X.xe s
section
variable {X:Cx} {CX:CXT} {k:Nat} {f C:Addr} {fd:FuncData} {ps ks:List Str} {sp:Sp} {E:XK} {x m:Str} {p pos apos kpos:Pos} {e o:Expr} {es:List Expr} {kws:List Keyword} {te ta:TE} {t tk:TA} {nm:Option Str}
theorem YA:PK X [] aJe:=fun _ _ _ _ H Q I h=>wpAny_evalAll_nil ⟨[],H,I,.nil,h⟩
theorem aDI (ha:PE X e te) (hr:PK X kws t):PK X (⟨nm,e,kpos⟩ :: kws) (aFJ te t):=by
  intro pos pins s σ H Q I h
  show wpAny _ _ (evalAll ((do let v ←eval e X.env; standAt pos; pure v) :: (backToKw pos (keywordEach kws X.env)).map (·.2))) _ _ s
  refine wpAny_evalAll_cons (wpAny_bind (thn (ha pins s σ H _ I h) fun u s1 ⟨x,H1,I1,r1,q1⟩=>wpAny_bind (wpAny_standAt (wpAny_pure ?_))))
  exact thn (hr pos pins s1 σ H1 _ I1 q1) fun us s2 ⟨xs,H2,I2,r2,q2⟩=>⟨x :: xs,H2,I2,.cons r1 r2,q2⟩
structure aM9 (K:W.Frag) (fd:FuncData) (ps ks:List Str) (g:List Value→List Value→List Value) (gV:List V→List V→List V):Prop where
  to:∀ (s:Shared) (us ws:List Value),K.In s.heap→(g us ws).length=ps.length→BindsTo s fd ⟨us,ks.zip ws⟩ (ps.zip (g us ws))
  rel:∀ {vs:List V} {us:List Value} {zs:List V} {ws:List Value},aG vs us→aG zs ws→aG (gV vs zs) (g us ws)
variable {g:List Value→List Value→List Value} {gV:List V→List V→List V}
end
structure vL (N P:List Str) (sc:Scope):Prop where
  kind:sc.kind= .function
  co:sc.isCoroutine=false
  gen:sc.isGenerator=false
  nd:N.Nodup
  pre:N.take P.length=P
  par:∀ x∈P,sc.names.lookup x=some .local∨sc.names.lookup x=some .cell
  nofree:∀ y∈sc.names,y.2≠.free
theorem AD {kindOf:Str→Option NameKind} {x:Str}:∀ {binds:List (Str×Value)} {m:Str→Option Value},(∀ v,(x,v)∉ binds)→bindL kindOf binds m x=m x
  | [],_,_=>rfl
  | (n,v) :: r,m,h=>by
    unfold bindL
    rw [AD fun w hw=>h w (List.mem_cons_of_mem _ hw)]
    split
    · have:x≠n:=by rintro rfl; exact h v List.mem_cons_self
      simp [this]
    · rfl
theorem AI {kindOf:Str→Option NameKind} {x:Str}:∀ {binds:List (Str×Value)} {m:Str→Option Value},(∀ v,(x,v)∉ binds)→bindC kindOf binds m x=m x
  | [],_,_=>rfl
  | (n,v) :: r,m,h=>by
    unfold bindC
    rw [AI fun w hw=>h w (List.mem_cons_of_mem _ hw)]
    split
    · rfl
    · have:x≠n:=by rintro rfl; exact h v List.mem_cons_self
      simp [this]
theorem AZ {kindOf:Str→Option NameKind} {x:Str} {v:Value}:∀ {P:List Str} {vs:List Value} {i:Nat} {m:Str→Option Value},P.Nodup→P[i]? =some x→vs[i]? =some v→kindOf x=some .local→
    bindL kindOf (P.zip vs) m x=some v
  | [],_,_,_,_,h,_,_=>by simp at h
  | _ :: _,[],_,_,_,_,h,_=>by simp at h
  | p :: P,w :: vs,0,m,nd,h1,h2,hk=>by
    simp at h1 h2; subst h1; subst h2
    show bindL kindOf ((p,w) :: P.zip vs) m p=_
    unfold bindL
    rw [AD fun v hv=>(List.nodup_cons.mp nd).1 (List.of_mem_zip hv).1,if_pos hk]
    simp
  | p :: P,w :: vs,i + 1,m,nd,h1,h2,hk=>by
    show bindL kindOf ((p,w) :: P.zip vs) m x=_
    unfold bindL
    exact AZ (i:=i) (List.nodup_cons.mp nd).2 (by simpa using h1) (by simpa using h2) hk
theorem BC {kindOf:Str→Option NameKind} {x:Str} {v:Value}:∀ {P:List Str} {vs:List Value} {i:Nat} {m:Str→Option Value},P.Nodup→P[i]? =some x→vs[i]? =some v→kindOf x≠some .local→
    bindC kindOf (P.zip vs) m x=some v
  | [],_,_,_,_,h,_,_=>by simp at h
  | _ :: _,[],_,_,_,_,h,_=>by simp at h
  | p :: P,w :: vs,0,m,nd,h1,h2,hk=>by
    simp at h1 h2; subst h1; subst h2
    show bindC kindOf ((p,w) :: P.zip vs) m p=_
    unfold bindC
    rw [AI fun v hv=>(List.nodup_cons.mp nd).1 (List.of_mem_zip hv).1,if_neg hk]
    simp
  | p :: P,w :: vs,i + 1,m,nd,h1,h2,hk=>by
    show bindC kindOf ((p,w) :: P.zip vs) m x=_
    unfold bindC
    exact BC (i:=i) (List.nodup_cons.mp nd).2 (by simpa using h1) (by simpa using h2) hk
noncomputable def start (N:List Str) (vs:List V):St:=vs.map some ++ List.replicate (N.length - vs.length) none
noncomputable def JV (CX:CXT) (P:Program) (w:World) (K:W.Frag) (mg:Str→Option Value) (base:Heap) (N:List Str) (qual:Str) (scope:Scope) (f:Addr) (cd:Value) (A:Around) (outer:List Env) (s:Shared) (H:Hp) (E:XK):Cx where
  prog:=P
  w:=w
  K:=K
  mg:=mg
  base:=base
  A:=A.deeper (envOfC qual scope s.heap.objs.size f cd)
  N:=N
  s₀:=s
  H₀:=H
  env:=envOfC qual scope s.heap.objs.size f cd
  outer:=outer
  stack:=envOfC qual scope s.heap.objs.size f cd :: outer
  ex:=[]
  calm:=true
  fn:=fun _=>true
  pn:=[]
  xe:=fun e s'=>wpAny (model P w) (A.deeper (envOfC qual scope s.heap.objs.size f cd)) (leaving (envOfC qual scope s.heap.objs.size f cd) e) (fun _ s''=>CX outer H s E e s'') (fun e' s''=>CX outer H s E e' s'') s'
theorem vZ {sc:Scope} {n:Nat} {x:Str} (h:sc.names.lookup x=some .cell):∃ c,(cellsFrom n sc.names []).lookup x=some c:=by
  have q:=W.cellsFrom_some sc.names n [] (.inl h)
  exact Option.isSome_iff_exists.mp q
theorem RE {CX:CXT} {P:Program} {w:World} {K:W.Frag} {mg:Str→Option Value} {base:Heap} {N ps:List Str} {qual:Str} {scope:Scope} {f:Addr} {cd:Value} {A:Around} {outer:List Env} {s s1:Shared} {H:Hp} {E:XK} {us:List Value} {vs:List V}
    (S:vL N ps scope) (hd:A.handled=none) (e0:uR P w K mg base A outer s H) (hl:vs.length=ps.length) (r:aG vs us)
    (x:InCallC s s.heap.objs.size (bindL (envOfC qual scope s.heap.objs.size f cd).kindOf (ps.zip us) fun _=>none) (cellsFrom (s.heap.objs.size + 1) scope.names []) (bindC (envOfC qual scope s.heap.objs.size f cd).kindOf (ps.zip us) fun _=>none) s1) :
    Inv (JV CX P w K mg base N qual scope f cd A outer s H E) [] (start N vs) H s1:=by
  have hpl:ps.length≤N.length:=by have:=congrArg List.length S.pre; rw [List.length_take] at this; omega
  obtain ⟨h1,tk,rfl,hk⟩:=x.done
  have noA:∀ b:Addr,b∉ (JV CX P w K mg base N qual scope f cd A outer s H E).ex:=fun b z=>absurd (show b∈([]:List Addr) from z) (by simp)
  refine ⟨⟨e0.mod,S.kind,rfl,rfl,Nat.le_refl _,fun y z c h1 h2=>?_,fun y hy=>?_,fun y c _ h=>?_,fun _=>hd,Around.frames_deeper e0.frames,.inr ⟨rfl,rfl⟩,fun b z=>absurd z (noA b),e0.bs,e0.bsz,fun b _ _=>noA b,fun b z=>absurd z (noA b),e0.funs,e0.frf⟩,
    rfl,e0.bare,Un.kept hk,⟨_,x.toInCall.ns,fun i y v h1 h2 h3=>?_⟩,fun y c h=>⟨_,x.cell y c h⟩,e0.hok.fresh (Nat.le_refl _),fun y c h=>?_,fun p hp=>absurd (show p∈([]:List (Addr×Obj)) from hp) (by simp),e0.hok.kept hk, ?_⟩
  · exact name_of_addr x.apart (PySem.mem_of_lookup h1) (PySem.mem_of_lookup h2)
  · have hy:scope.names.lookup y=some .cell∨scope.names.lookup y=some .free:=hy
    rcases hy with hy | hy
    · exact vZ hy
    · exact absurd rfl (S.nofree _ (PySem.mem_of_lookup hy))
  · exact Nat.le_of_lt (x.above y c (PySem.mem_of_lookup h))
  · have hi:i < vs.length:=by
      unfold start at h2
      by_cases hi:i < vs.length
      · exact hi
      · rw [List.getElem?_append_right (by simpa using hi)] at h2
        rw [List.getElem?_replicate] at h2
        split at h2 <;> cases h2
    have ha:vs[i]? =some v:=by
      unfold start at h2
      rw [List.getElem?_append_left (by simpa using hi),List.getElem?_map] at h2
      cases e:vs[i]? with
      | none=>rw [e] at h2; cases h2
      | some a=>rw [e] at h2; cases h2; rfl
    obtain ⟨u,hu,rv⟩:=r.get ha
    have hp:ps[i]? =some y:=by
      rw [←S.pre,List.getElem?_take_of_lt (by omega)]; exact h1
    have ndP:ps.Nodup:=by rw [←S.pre]; exact S.nd.sublist (List.take_sublist _ _)
    refine ⟨u,rv, ?_⟩
    rcases S.par y (List.mem_of_getElem? hp) with k | k
    · exact .inl ⟨k,AZ ndP hp hu k⟩
    · obtain ⟨c,e⟩:=vZ (n:=s.heap.objs.size + 1) k
      refine .inr ⟨.inl k,c,e, ?_⟩
      have q:=x.cell y c e
      rw [BC ndP hp hu (by show scope.names.lookup y≠_; rw [k]; decide)] at q
      exact q
  · exact e0.hok.fresh (Nat.le_of_lt (x.above y c (PySem.mem_of_lookup h)))
  · unfold start
    show _=N.length
    rw [List.length_append,List.length_map,List.length_replicate]
    omega
theorem aEI {CX:CXT} {P:Program} {w:World} {K:W.Frag} {mg:Str→Option Value} {base:Heap} {k:Nat} {f:Addr} {name qual:Str} {params:Arguments} {body:List Stmt} {scope:Scope} {dV kV doc pm cdv ct oc:Value} {an od:Option Addr}
    {osl:Array (Option Value)} {N ps:List Str} {sp:Sp} (lk:K.lookup f=some ⟨oc,od,.func (W.fnOf name qual params body scope dV kV doc pm an cdv ct),osl⟩) (hcd:W.codeIn K cdv qual=true) (S:vL N ps scope)
    (len:∀ vs H Q E,sp vs H Q E→vs.length=ps.length)
    (hbody:∀ (A:Around) (outer:List Env) (s:Shared) (H:Hp) (vs:List V) (Q:VK) (E:XK),bS k (A.deeper (envOfC qual scope s.heap.objs.size f cdv))→sp vs H Q E→
      ∃ t,PSs (JV CX P w K mg base N qual scope f cdv A outer s H E) body t∧t { nx:=fun _ H'=>Q .non H',rt:=Q } (start N vs) H) :
    cJ P w K mg base CX (k + 1) f (W.fnOf name qual params body scope dV kV doc pm an cdv ct) ps sp:=by
  refine ⟨len,fun A outer s H args us vs Q E hr e0 hb r hsp=>?_⟩
  have hl:=len _ _ _ _ hsp
  have KX:K.In s.heap:=e0.mod.kin.keeps fun b o e=>(e0.bs b o e).1
  have lim:s.heap.NoLimit:=e0.mod.nolimit.keeps fun b o e=>(e0.bs b o e).1
  have hkind:∀ y∈ps.zip us,scope.names.lookup y.1=some .local∨(scope.names.lookup y.1=some .cell∧((cellsFrom (s.heap.objs.size + 1) scope.names []).lookup y.1).isSome=true):=fun ⟨n,v⟩ hy=>by
    rcases S.par n (List.of_mem_zip hy).1 with q | q
    · exact .inl q
    · exact .inr ⟨q,W.cellsFrom_some _ _ _ (.inl q)⟩
  refine codeAny_call_function hr.depth (KX _ _ lk) rfl S.co S.gen rfl (W.codeRec_of KX hcd) (hb _ _ _ _ ?_)
  refine wpAny_newFunctionEnv_cells S.kind hkind fun env he s1 x=>?_
  subst he
  refine ⟨lim.keeps x.toInCall.keep,codeAny_func ?_⟩
  obtain ⟨t,ht,hq⟩:=hbody A outer s H vs Q E (hr.deeper _) hsp
  have I:Inv (JV CX P w K mg base N qual scope f cdv A outer s H E) [] (start N vs) H s1:=RE S hr.hd e0 hl r x
  refine wpAny_mono (ht [] s1 (start N vs) H _ I hq) (fun fl s' hs=>?_) fun e s' hs=>hs
  have fin:∀ {σ':St} {H':Hp} {v:V} {u:Value},Inv (JV CX P w K mg base N qual scope f cdv A outer s H E) [] σ' H' s'→aL v u→Q v H'→CE outer P w H s Q u s' :=
    fun {σ' H' v u} J rv q=>⟨v,H',J.os,J.bare,J.base,J.hok,rv,q⟩
  cases fl with
  | ret u =>
    obtain ⟨v,σ',H',J,rv,q⟩:=hs
    exact fin J rv q
  | next =>
    obtain ⟨σ',H',J,q⟩:=hs
    exact fin (v:=V.non) (u:=Value.none) J rfl q
  | brk =>
    obtain ⟨_,_,_,q⟩:=hs
    exact False.elim q
  | cont =>
    obtain ⟨_,_,_,q⟩:=hs
    exact False.elim q
section
variable {X:Cx} {x:Str} {p pos:Pos} {e:Expr} {es:List Expr} {t:TA} {id T:String} {r:List V→Hp→VK→Prop}
noncomputable def tCB (r:List V→Hp→VK→Prop) (t:TA):TE:=fun σ H Q=>t σ H fun vs H1=>r vs H1 Q
theorem ZA (hc:bL X (.builtin id) r) (hg:Gl X x) (hm:X.mg x=none) (hv:bootBuiltins x=some (.builtin id)) (ha:PA X (e :: es) t) (hn:x≠"__name__":=by decide) (hdb:(x == ("__debug__":Str))=false:=by decide)
    (he:starEach (e :: es) X.env=(false,eval e X.env) :: starEach es X.env:=by rfl) (hpl:(backTo pos (starEach es X.env)).any (·.1)=false:=by rfl):PE X (.Call (.Name x p) (e :: es) [] pos) (tCB r t):=by
  intro pins s σ H Q I h
  refine wpAny_Call_Name_kw (nK I hg hm hv ?_ hn hdb)
  exact PyProof.Rows.callWith_builtin1 (thn (ha pos pins s σ H _ I h) fun us s1 ⟨vs,H1,I1,r1,q1⟩=>hc pins s1 σ H1 vs us Q I1 r1 q1) he hpl
theorem PZ (hc:bL X (.type T) r) (hg:Gl X x) (hm:X.mg x=none) (hv:bootBuiltins x=some (.type T)) (ha:PA X (e :: es) t) (hn:x≠"__name__":=by decide) (hdb:(x == ("__debug__":Str))=false:=by decide)
    (he:starEach (e :: es) X.env=(false,eval e X.env) :: starEach es X.env:=by rfl) (hpl:(backTo pos (starEach es X.env)).any (·.1)=false:=by rfl):PE X (.Call (.Name x p) (e :: es) [] pos) (tCB r t):=by
  intro pins s σ H Q I h
  refine wpAny_Call_Name_kw (nK I hg hm hv ?_ hn hdb)
  exact PyProof.Rows.callWith_type1 (thn (ha pos pins s σ H _ I h) fun us s1 ⟨vs,H1,I1,r1,q1⟩=>hc pins s1 σ H1 vs us Q I1 r1 q1) he hpl
end
end L2
namespace HT
open PySem PyProof.Rows
noncomputable def BE:List Int→List Int→Bool
  | [],[]=>false
  | [],_ :: _=>true
  | _ :: _,[]=>false
  | x :: xs,y :: ys=>if x=y then BE xs ys else decide (x < y)
theorem aIq (x y:Int) (xs ys:List Int):BE (x :: xs) (y :: ys)=if x=y then BE xs ys else decide (x < y):=rfl
theorem aBz:BE [] []=false:=rfl
theorem UJ (y:Int) (ys:List Int):BE [] (y :: ys)=true:=rfl
theorem UW (x:Int) (xs:List Int):BE (x :: xs) []=false:=rfl
section
open PySem.SeqAt
open PySem.AutoSeq1 (wpAny_loadPart')
open PySem.MeetsSeq PySem.MeetsSeq2 PySem.MeetsSeq3
end
section
variable {prog:Program} {w:World} {A:Around} {E:Value→Shared→Prop} {s:Shared}
theorem aDh {t b:Addr} {vs ws:List Value} {Q:Value→Shared→Prop} (ht:IsTup s.heap t vs.toArray) (hb:IsTup s.heap b ws.toArray) (hv:vs≠ [])
    (h1:ws=[]→Q (.ref t) s) (h2:ws≠ []→Q (.ref s.heap.objs.size) { s with heap:=s.heap.push { cls:=.type "tuple",data:=.seq (vs ++ ws).toArray } })
    (hsz:vs.length + ws.length≤sizeLine):wpAny (model prog w) A (binaryOp .Add (.ref t) (.ref b)) Q E s:=by
  obtain ⟨⟨cls,dd,data,sl⟩,ho,hc,n,hd⟩:=id ht
  obtain ⟨⟨cls2,dd2,data2,sl2⟩,ho2,hc2,n2,hd2⟩:=id hb
  simp only at hc hd hc2 hd2
  subst hc hd hc2 hd2
  have e:vs.toArray ++ ws.toArray=(vs ++ ws).toArray:=by simp
  by_cases hw:ws=[]
  · exact concat_meets ⟨_,ho,rfl⟩ ⟨_,ho2,rfl⟩ noFill_tuple_add seq_tuple_add PySem.F.slot_tuple_add PySem.F.entry_tuple_add (PySem.F.args_tuple_add_2 _ _)
      (tuple_addW1 t b vs.toArray ws.toArray n n2 dd dd2 sl sl2 (by simpa using hv) (by simp [hw])) ⟨ho,ho2,h1 hw⟩
  · refine concat_meets ⟨_,ho,rfl⟩ ⟨_,ho2,rfl⟩ noFill_tuple_add seq_tuple_add PySem.F.slot_tuple_add PySem.F.entry_tuple_add (PySem.F.args_tuple_add_2 _ _)
      (tuple_addW2 t b vs.toArray ws.toArray n n2 dd dd2 sl sl2 (by simpa using hv) (by simpa using hw) (by rw [List.size_toArray,List.size_toArray]; exact hsz)) ⟨ho,ho2, ?_⟩
    rw [e]
    exact h2 hw
noncomputable def sIx (n d:Nat):Option Int→Nat
  | none=>d
  | some v=>if v < 0 then (v + (n:Int)).toNat else min v.toNat n
theorem aI7 (n d:Nat):sIx n d none=d:=rfl
theorem aHt (n d:Nat) (hd:d≤n) (o:Option Int):sIx n d o≤n:=by
  cases o with
  | none=>exact hd
  | some v =>
    show (if v < 0 then (v + (n:Int)).toNat else min v.toNat n)≤n
    by_cases hv:v < 0
    · rw [if_pos hv]; omega
    · rw [if_neg hv]; exact Nat.min_le_right _ _
theorem NK (v:Int) (n d:Nat):(if v < 0 then max (v + (n:Int)) 0 else min v (n:Int))=((sIx n d (some v):Nat):Int):=by
  show (if v < 0 then max (v + (n:Int)) 0 else min v (n:Int))=(((if v < 0 then (v + (n:Int)).toNat else min v.toNat n):Nat):Int)
  by_cases hv:v < 0
  · simp only [if_pos hv]; omega
  · simp only [if_neg hv]; omega
theorem KQ (lo hi:Option Int) (n:Nat):Builtin.Slice.sliceAdjust lo hi 1 (n:Int)=(((sIx n 0 lo:Nat):Int),((sIx n n hi:Nat):Int)):=by
  have h1:¬((1:Int) < 0):=by omega
  unfold Builtin.Slice.sliceAdjust
  simp only [h1,if_false]
  refine Prod.ext ?_ ?_
  · cases lo with
    | none=>rfl
    | some v=>exact NK v n 0
  · cases hi with
    | none=>rfl
    | some v=>exact NK v n n
theorem MY (i j:Nat):Builtin.Slice.slicePlaces (i:Int) (j:Int) 1=j - i:=by
  unfold Builtin.Slice.slicePlaces
  have h1:(1:Int) > 0:=by omega
  simp only [h1,if_true,Int.ediv_one]
  split <;> omega
theorem xP {v:Value} {o:Option Int} {Q:Option Int→Shared→Prop} (p:IsPart v o) (h:Q o s):wpAny (model prog w) A (Builtin.Slice.slicePartIndex v) Q E s:=by
  cases p with
  | none=>exact slicePart_none h
  | int i t=>exact slicePart_int h
theorem sX {sl:Addr} {vl vu:Value} {lo hi:Option Int} {n:Nat} {Q:Int×Int×Nat→Shared→Prop} (hs:s.heap.IsSliceOf sl vl vu .none) (pl:IsPart vl lo) (pu:IsPart vu hi)
    (h:Q (((sIx n 0 lo:Nat):Int),1,sIx n n hi - sIx n 0 lo) s):wpAny (model prog w) A (Builtin.Slice.sliceApplied (.ref sl) (pure (n:Int))) Q E s:=by
  obtain ⟨os,hos,hcs,hds⟩:=id hs
  unfold Builtin.Slice.sliceApplied Builtin.Slice.sliceFields
  refine wpAny_bind (wpAny_bind (wpAny_field hos hds (x:=vl) rfl (wpAny_bind (wpAny_field hos hds (x:=vu) rfl (wpAny_bind (wpAny_field hos hds (x:=.none) rfl (wpAny_pure ?_)))))))
  refine wpAny_bind (slicePart_none ?_)
  show wpAny _ _ (if ((1:Int) == 0)=true then _ else _) _ _ s
  rw [if_neg (by decide)]
  refine wpAny_bind (xP pl (wpAny_bind (xP pu (wpAny_bind (wpAny_pure ?_)))))
  show wpAny _ _ (match Builtin.Slice.sliceAdjust lo hi 1 (n:Int) with | (lo,hi)=>pure (lo,(1:Int),Builtin.Slice.slicePlaces lo hi 1)) _ _ s
  rw [KQ lo hi n]
  show wpAny _ _ (pure (((sIx n 0 lo:Nat):Int),(1:Int),Builtin.Slice.slicePlaces ((sIx n 0 lo:Nat):Int) ((sIx n n hi:Nat):Int) 1)) _ _ s
  rw [MY]
  exact wpAny_pure h
theorem aAQ (xs:Array Value) (i k:Nat):((List.range k).filterMap fun (m:Nat)=>xs[((i:Int) + (m:Int) * 1).toNat]?).toArray=((xs.toList.drop i).take k).toArray:=by
  have e:(fun (m:Nat)=>xs[((i:Int) + (m:Int) * 1).toNat]?)=fun m=>xs[i + m]? :=by
    funext m
    have:((i:Int) + (m:Int) * 1).toNat=i + m:=by omega
    rw [this]
  rw [e]
  have:=pick_run xs i k
  rw [List.filterMap_map] at this
  have e2:((fun x=>xs[x]?) ∘ fun x=>i + x)=fun m=>xs[i + m]? :=rfl
  rw [e2] at this
  rw [this]
theorem pZ {t sl:Addr} {items:Array Value} {vl vu:Value} {lo hi:Option Int} {Q:Value→Shared→Prop} (ht:IsTup s.heap t items) (hs:s.heap.IsSliceOf sl vl vu .none) (pl:IsPart vl lo) (pu:IsPart vu hi)
    (hw:¬(sIx items.size 0 lo=0∧sIx items.size items.size hi=items.size))
    (h:Q (.ref s.heap.objs.size) { s with heap:=s.heap.push { cls:=.type "tuple",data:=.seq ((items.toList.drop (sIx items.size 0 lo)).take (sIx items.size items.size hi - sIx items.size 0 lo)).toArray } })
    (hsz:items.size≤sizeLine):wpAny (model prog w) A (getItem (.ref t) (.ref sl)) Q E s:=by
  have htake:sizeOk (.seq ((items.toList.drop (sIx items.size 0 lo)).take (sIx items.size items.size hi - sIx items.size 0 lo)).toArray):=by
    show ((items.toList.drop (sIx items.size 0 lo)).take (sIx items.size items.size hi - sIx items.size 0 lo)).toArray.size≤sizeLine
    rw [List.size_toArray,List.length_take,List.length_drop,Array.length_toList]
    omega
  have hj:sIx items.size items.size hi≤items.size:=aHt _ _ (Nat.le_refl _) hi
  obtain ⟨os,hos,hcs,hds⟩:=id hs
  have hTs:s.TypeIs (.ref sl) "slice":=⟨os,hos,hcs⟩
  unfold getItem
  try with_reducible refine wpAny_holding ?_
  first | refine wpAny_bind (wpAny_pure ?_) | skip
  refine wpAny_bind (wpAny_sequenceKey ht.typeIs (by decide) ?_)
  refine wpAny_bind (wpAny_callSpecial?_slot (name:=Str.ofString "__getitem__") ht.typeIs PyProof.Rows.slot_tuple_getitem
    (wpAny_call_entry PyProof.Rows.slot_tuple_getitem ht.typeIs entry_tuple_getitem ?_ (args_tuple_getitem _ _)))
  show wpAny _ _ (Builtin.Tuple.tupleItemsOf (.ref t) >>= _) _ _ s
  refine wpAny_bind (tupleItemsOf_ ht ?_)
  refine wpAny_bind (wpAny_typeOf hTs ?_)
  rw [if_pos (by decide)]
  refine wpAny_bind (sX hs pl pu ?_)
  have hno:¬((((sIx items.size 0 lo:Nat):Int) == 0 && (1:Int) == 1 && (sIx items.size items.size hi - sIx items.size 0 lo) == items.size)=true):=by
    intro q
    rw [Bool.and_eq_true,Bool.and_eq_true] at q
    have q1:((sIx items.size 0 lo:Nat):Int)=0:=eq_of_beq q.1.1
    have q2:sIx items.size items.size hi - sIx items.size 0 lo=items.size:=eq_of_beq q.2
    exact hw ⟨by omega,by omega⟩
  show wpAny _ _ (if (((sIx items.size 0 lo:Nat):Int) == 0 && (1:Int) == 1 && (sIx items.size items.size hi - sIx items.size 0 lo) == items.size)=true then _ else _) _ _ s
  rw [if_neg hno,aAQ]
  first
    | exact wpAny_bind (m:=Builtin.Tuple.tupleExact _) (wpAny_newObj_type (wpAny_pure ⟨_,rfl,wpAny_pure h⟩) htake)
    | exact wpAny_bind (m:=Builtin.Tuple.tupleExact _) (wpAny_newObj_type (wpAny_bind (wpAny_pure (wpAny_pure ⟨_,rfl,wpAny_pure h⟩))) htake)
    | exact wpAny_bind (wpAny_bind (m:=Builtin.Tuple.tupleExact _) (wpAny_newObj_type (wpAny_pure (wpAny_pure ⟨_,rfl,wpAny_pure h⟩)) htake))
    | exact wpAny_bind (wpAny_bind (m:=Builtin.Tuple.tupleExact _) (wpAny_newObj_type (wpAny_pure ⟨_,rfl,wpAny_pure h⟩) htake))
end
end HT
namespace L2
open PySem PySem.Spec PyProof.Rows
noncomputable abbrev TO:=St→Hp→(Option Int→Hp→Prop)→Prop
noncomputable def PO (X:Cx) (e:Option Expr) (t:TO):Prop :=
  ∀ (pins:List (Addr×Obj)) (s:Shared) (σ:St) (H:Hp) (Q:Option Int→Hp→Prop),Inv X pins σ H s→t σ H Q→
    wpAny (model X.prog X.w) X.A (evalPart e X.env) (fun u s'=>∃ o H',Inv X pins σ H' s'∧IsPart u o∧Q o H') X.xe s
noncomputable def aBE:TO:=fun _ H Q=>Q none H
noncomputable def aKu (t:TE):TO:=fun σ H Q=>t σ H fun x H1=>∃ i,x= .int i∧Q (some i) H1
theorem nS {ns:List Int}:∀ {us:List Value},aG (ns.map V.int) us→IntsAre us ns:=by
  induction ns with
  | nil=>intro us r; rw [List.map_nil] at r; cases r; exact .nil
  | cons n ns ih =>
    intro us r
    rw [List.map_cons] at r
    cases r with
    | cons r1 r2 =>
      obtain ⟨t,e⟩:=r1
      subst e
      exact .cons n t (ih r2)
section
variable {X:Cx} {e:Expr} {te:TE} {lo hi:Option Expr} {tl th:TO} {pos p2:Pos}
theorem aCI:PO X none aBE:=by
  intro pins s σ H Q I h
  rw [evalPart_none]
  exact wpAny_pure ⟨none,H,I,.none,h⟩
theorem aCs (h:PE X e te):PO X (some e) (aKu te):=by
  intro pins s σ H Q I hw
  rw [evalPart_some]
  refine thn (h pins s σ H _ I hw) fun u s1 ⟨x,H1,I1,r1,q1⟩=>?_
  obtain ⟨i,rfl,q⟩:=q1
  obtain ⟨t,rfl⟩:=r1
  exact ⟨some i,H1,I1,.int i t,q⟩
noncomputable def SlR (X:Cx) (r:V→Option Int→Option Int→Hp→VK→Prop):Prop :=
  ∀ (pins:List (Addr×Obj)) (s:Shared) (σ:St) (H:Hp) (x:V) (v vl vu:Value) (lo hi:Option Int) (sl:Addr) (Q:VK),Inv X pins σ H s→aL x v→s.heap.IsSliceOf sl vl vu .none→IsPart vl lo→IsPart vu hi→r x lo hi H Q→
    ∃ T id,typeLookup (.type T) "__getitem__"=pure (some (.builtin id))∧s.TypeIs v T∧wpAny (model X.prog X.w) X.A (getItem v (.ref sl)) (EP X pins σ Q) X.xe s
theorem SlR.or {r r':V→Option Int→Option Int→Hp→VK→Prop} (h:SlR X r) (h':SlR X r'):SlR X (fun x lo hi H Q=>r x lo hi H Q∨r' x lo hi H Q):=by
  intro pins s σ H x v vl vu lo hi sl Q I rx hs pl pu q
  rcases q with q | q
  · exact h pins s σ H x v vl vu lo hi sl Q I rx hs pl pu q
  · exact h' pins s σ H x v vl vu lo hi sl Q I rx hs pl pu q
noncomputable def tSl (r:V→Option Int→Option Int→Hp→VK→Prop) (te:TE) (tl th:TO):TE:=fun σ H Q=>te σ H fun x H1=>tl σ H1 fun l H2=>th σ H2 fun u H3=>r x l u H3 Q
theorem XE {r:V→Option Int→Option Int→Hp→VK→Prop} (hr:SlR X r) (he:PE X e te) (hl:PO X lo tl) (hu:PO X hi th):PE X (.Subscript e (.Slice lo hi none p2) pos) (tSl r te tl th):=by
  intro pins s σ H Q I h
  refine Subscript_ (thn (he pins s σ H _ I h) fun v s1 ⟨x,H1,I1,r1,q1⟩=>?_)
  refine wpAny_Slice (thn (hl pins s1 σ H1 _ I1 q1) fun vl s2 ⟨l,H2,I2,pl,q2⟩=>thn (hu pins s2 σ H2 _ I2 q2) fun vu s3 ⟨u,H3,I3,pu,q3⟩=>?_)
  rw [evalPart_none]
  refine wpAny_pure ?_
  have I4:Inv X pins σ H3 { s3 with heap:=s3.heap.push { cls:=.type "slice",data:=.fields #[vl,vu,.none] } }:=I3.kept (t':=s3.toks) fun b ob q=>Heap.get?_push_of_some _ q
  obtain ⟨T,id,hT,ht,hg⟩:=hr pins { s3 with heap:=s3.heap.push { cls:=.type "slice",data:=.fields #[vl,vu,.none] } } σ H3 x v vl vu l u s3.heap.objs.size Q I4 r1 (Heap.IsSliceOf.new ..) pl pu q3
  show wpAny (model X.prog X.w) X.A (subscriptTail e (.Slice lo hi none p2) v (.ref s3.heap.objs.size)) (EP X pins σ Q) X.xe { s3 with heap:=s3.heap.push { cls:=.type "slice",data:=.fields #[vl,vu,.none] } }
  exact tail_any (ops:=[.ref s3.heap.objs.size,v]) ht hT hg (by with_unfolding_all rfl)
noncomputable def FU (xs:List V) (lo hi:Option Int):List V:=(xs.drop (HT.sIx xs.length 0 lo)).take (HT.sIx xs.length xs.length hi - HT.sIx xs.length 0 lo)
theorem tY (xs:List V) (lo hi:Option Int):(FU xs lo hi).length≤xs.length:=by
  unfold FU
  rw [List.length_take,List.length_drop]
  omega
noncomputable def aMK (K:W.Frag):V→Option Int→Option Int→Hp→VK→Prop:=fun x lo hi H Q=>∃ a xs,x= .ref a∧SqT K H a xs∧
  ¬(HT.sIx xs.length 0 lo=0∧HT.sIx xs.length xs.length hi=xs.length)∧∀ p,H p=none→Q (.ref p) (upd H p (.tup (FU xs lo hi)))
theorem aIx:SlR X (aMK X.K):=by
  intro pins s σ H x v vl vu lo hi sl Q I rx hs pl pu h
  obtain ⟨a,xs,rfl,hx,hw,q⟩:=h
  cases rx
  obtain ⟨its,r,ht,hz⟩:=I.tuple hx
  have hlen:its.toArray.size=xs.length:=by rw [List.size_toArray]; exact r.length.symm
  refine ⟨"tuple",_,PyProof.Rows.slot_tuple_getitem.lookup,ht.typeIs, ?_⟩
  refine HT.pZ ht hs pl pu (by rw [hlen]; exact hw) ?_ (by rw [hlen]; exact hz)
  rw [hlen]
  refine ⟨.ref s.heap.objs.size,_,I.laid (t':=s.toks) (o:=.tup (FU xs lo hi)) (fun b ob q=>Heap.get?_push_of_some _ q) (Nat.le_refl _) ?_,rfl,q _ (I.hok.fresh (Nat.le_refl _))⟩
  exact ⟨Nat.le_trans (tY xs lo hi) hz,_,(r.drop (HT.sIx xs.length 0 lo)).take (HT.sIx xs.length xs.length hi - HT.sIx xs.length 0 lo),gC.new _ _⟩
noncomputable def aLa (K:W.Frag):R2:=fun x y H Q=>∃ a b xs ys,x= .ref a∧y= .ref b∧SqT K H a xs∧SqT K H b ys∧xs≠ []∧xs.length + ys.length≤sizeLine∧
  (ys=[]→Q (.ref a) H)∧(ys≠ []→∀ p,H p=none→Q (.ref p) (upd H p (.tup (xs ++ ys))))
theorem aG.nil_iff {xs:List V} {us:List Value} (r:aG xs us):us=[]↔xs=[]:=by
  cases r with
  | nil=>simp
  | cons _ _=>simp
theorem aDo:OpR X (binaryOp .Add) (aLa X.K):=by
  intro pins s σ H x y v u Q I rx ry h
  obtain ⟨a,b,xs,ys,rfl,rfl,ha,hb,hx,hz,q1,q2⟩:=h
  cases rx
  cases ry
  obtain ⟨its,r1,p1,_⟩:=I.tuple ha
  obtain ⟨its2,r2,p2,_⟩:=I.tuple hb
  refine HT.aDh p1 p2 (fun z=>hx (r1.nil_iff.mp z)) (fun z=>⟨.ref a,H,I,rfl,q1 (r2.nil_iff.mp z)⟩) (fun z=>?_) (by rw [←r1.length,←r2.length]; exact hz)
  refine ⟨.ref s.heap.objs.size,_,I.laid (t':=s.toks) (o:=.tup (xs ++ ys)) (fun b ob q=>Heap.get?_push_of_some _ q) (Nat.le_refl _) ?_,rfl,q2 (fun w=>z (r2.nil_iff.mpr w)) _ (I.hok.fresh (Nat.le_refl _))⟩
  exact ⟨by rw [List.length_append]; exact hz,_,r1.append r2,gC.new _ _⟩
end
noncomputable def ixN (n:Nat) (i:Int):Option Nat:=if 0≤i then (if i < n then some i.toNat else none) else if -(n:Int)≤i then some (i + n).toNat else none
noncomputable def atI {α:Type} (xs:List α) (i:Int):Option α:=(ixN xs.length i).bind fun j=>xs[j]?
theorem NO {n:Nat} {i:Int} {j:Nat} (h:ixN n i=some j):seqIndex? i n=some j∧j < n∧ -(n:Int)≤i∧i < n:=by
  unfold ixN at h
  by_cases h0:0≤i
  · rw [if_pos h0] at h
    by_cases h1:i < n
    · rw [if_pos h1] at h
      have e:i.toNat=j:=Option.some.inj h
      exact ⟨by rw [seqIndex_of h0 h1,e],by omega,by omega,h1⟩
    · rw [if_neg h1] at h; cases h
  · rw [if_neg h0] at h
    by_cases h1: -(n:Int)≤i
    · rw [if_pos h1] at h
      have e:(i + n).toNat=j:=Option.some.inj h
      exact ⟨by rw [seqIndex_neg (by omega) h1,e],by omega,h1,by omega⟩
    · rw [if_neg h1] at h; cases h
theorem EY {α:Type} {xs:List α} {i:Int} {v:α} (h:atI xs i=some v):∃ j,seqIndex? i xs.length=some j∧xs[j]? =some v∧j < xs.length∧ -(xs.length:Int)≤i∧i < xs.length:=by
  unfold atI at h
  cases e:ixN xs.length i with
  | none=>rw [e] at h; cases h
  | some j =>
    rw [e] at h
    obtain ⟨h1,h2,h3,h4⟩:=NO e
    exact ⟨j,h1,h,h2,h3,h4⟩
theorem eM {α:Type} {xs:List α} {j:Nat} {v:α} (h:xs[j]? =some v):atI xs (j:Int)=some v:=by
  have hj:j < xs.length:=(List.getElem?_eq_some_iff.mp h).1
  have e:ixN xs.length (j:Int)=some j:=by
    unfold ixN
    rw [if_pos (by omega),if_pos (by omega)]; simp
  unfold atI; rw [e]; exact h
noncomputable def vK (b:Expr):Prop:= ∀ o i,subscripted b false o i=operate [o,i] (getItem o i)
noncomputable def IxR (X:Cx) (r:R2):Prop :=
  ∀ (value slice:Expr) (pins:List (Addr×Obj)) (s:Shared) (σ:St) (H:Hp) (x y:V) (v u:Value) (Q:VK),Inv X pins σ H s→aL x v→aL y u→r x y H Q→
    subscripted slice false v u=operate [v,u] (getItem v u)→wpAny (model X.prog X.w) X.A (subscriptTail value slice v u) (EP X pins σ Q) X.xe s
noncomputable def MtR (X:Cx) (id:String) (r:V→List V→Hp→VK→Prop):Prop :=
  ∀ (pins:List (Addr×Obj)) (s:Shared) (σ:St) (H:Hp) (x:V) (xs:List V) (v:Value) (us:List Value) (Q:VK),Inv X pins σ H s→aL x v→aG xs us→r x xs H Q→
    wpAny (model X.prog X.w) X.A (call (.builtin id) (v :: us)) (EP X pins σ Q) X.xe s
section
variable {X:Cx} {a b:Expr} {ta tb:TE} {pos:Pos}
theorem IxR.or {r r':R2} (h:IxR X r) (h':IxR X r'):IxR X (fun x y H Q=>r x y H Q∨r' x y H Q):=by
  intro value slice pins s σ H x y v u Q I rx ry q hs
  rcases q with q | q
  · exact h value slice pins s σ H x y v u Q I rx ry q hs
  · exact h' value slice pins s σ H x y v u Q I rx ry q hs
theorem MtR.or {id:String} {r r':V→List V→Hp→VK→Prop} (h:MtR X id r) (h':MtR X id r'):MtR X id (fun x xs H Q=>r x xs H Q∨r' x xs H Q):=by
  intro pins s σ H x xs v us Q I rx rs q
  rcases q with q | q
  · exact h pins s σ H x xs v us Q I rx rs q
  · exact h' pins s σ H x xs v us Q I rx rs q
theorem aFf {r:R2} (hr:IxR X r) (ha:PE X a ta) (hb:PE X b tb) (hs:vK b):PE X (.Subscript a b pos) (tOp r ta tb):=by
  intro pins s σ H Q I h
  exact Subscript_ (aGs ha hb I h fun v u s2 x y H2 I2 rx ry q=>hr a b pins s2 σ H2 x y v u Q I2 rx ry q (hs _ _))
noncomputable def aJX (K:W.Frag):R2:=fun x y H Q=>∃ p xs i v,x= .ref p∧y= .int i∧SqL K H p xs∧atI xs i=some v∧Q v H
noncomputable def aJQ (K:W.Frag):R2:=fun x y H Q=>∃ p xs i v,x= .ref p∧y= .int i∧SqT K H p xs∧atI xs i=some v∧Q v H
noncomputable def aKL:R2:=fun x y H Q=>∃ z i c,x= .str z∧y= .int i∧z.length≤sizeLine∧atI z.cps.toList i=some c∧Q (.str ⟨#[c]⟩) H
theorem aDx:IxR X (aJX X.K):=by
  intro value slice pins s σ H x y v u Q I rx ry h hs
  obtain ⟨p,xs,i,z,rfl,rfl,hq,he,q⟩:=h
  cases rx
  obtain ⟨t,rfl⟩:=ry
  obtain ⟨its,r,pl,hz⟩:=I.list hq
  obtain ⟨j,h1,h2,h3,h4,h5⟩:=EY he
  obtain ⟨w,ew,rw'⟩:=r.get h2
  have hl:=r.length
  have hn:=nF
  have fin:EP X pins σ Q w s:=⟨z,H,I,rw',q⟩
  by_cases h0:0≤i
  · have hj:i.toNat=j:=by
      rw [seqIndex_of h0 h5] at h1
      exact Option.some.inj h1
    exact item_listR pl.isList h0 (by omega) (by rw [hj]; simpa using ew) fin hs
  · have hj:(i + (its.toArray.size:Int)).toNat=j:=by
      rw [seqIndex_neg (by omega) h4] at h1
      rw [List.size_toArray,←hl]
      exact Option.some.inj h1
    exact subscriptTail_builtinR (x:=w) pl.isList.typeIs slot_list_getitem.lookup
      (wpAny_getItem_list_neg (Q:=fun r s'=>r=w∧EP X pins σ Q r s') pl.isList (by omega) (by rw [List.size_toArray] <;> omega) (by omega) (by rw [hj]; simpa using ew) ⟨rfl,fin⟩) hs
theorem aHA:IxR X (aJQ X.K):=by
  intro value slice pins s σ H x y v u Q I rx ry h hs
  obtain ⟨p,xs,i,z,rfl,rfl,hq,he,q⟩:=h
  cases rx
  obtain ⟨t,rfl⟩:=ry
  obtain ⟨its,r,pl,hz⟩:=I.tuple hq
  obtain ⟨j,h1,h2,h3,h4,h5⟩:=EY he
  obtain ⟨w,ew,rw'⟩:=r.get h2
  have hl:=r.length
  have hn:=nF
  have fin:EP X pins σ Q w s:=⟨z,H,I,rw',q⟩
  exact subscriptTail_builtinR (x:=w) pl.typeIs slot_tuple_getitem.lookup
    (getItem_tuple (j:=j) (Q:=fun r s'=>r=w∧EP X pins σ Q r s') pl (by omega) (by omega) (by rw [List.size_toArray,←hl]; exact h1) (by simpa using ew) ⟨rfl,fin⟩) hs
theorem aHd:IxR X aKL:=by
  intro value slice pins s σ H x y v u Q I rx ry h hs
  obtain ⟨z,i,c,rfl,rfl,hz,he,q⟩:=h
  obtain ⟨t,rfl⟩:=rx
  obtain ⟨t',rfl⟩:=ry
  obtain ⟨j,h1,h2,h3,h4,h5⟩:=EY he
  have hl:z.cps.toList.length=z.length:=by simp [Str.length]
  rw [hl] at h1 h4 h5
  have hn:=nF
  exact tail_any (typeIs_str s z t) slot_str_getitem.lookup (getItem_str (c:=c) (by
    have e1:decide (i < -(2 ^ 63:Int))=false:=decide_eq_false (by omega)
    have e2:decide (i ≥ 2 ^ 63)=false:=decide_eq_false (by omega)
    rw [e1,e2,Bool.or_false]) (by rw [h1]; simpa using h2) ⟨.str ⟨#[c]⟩,H,I.tok _,⟨_,rfl⟩,q⟩) hs
noncomputable def rIx (K:W.Frag):R2:=fun x y H Q=>aJX K x y H Q∨aJQ K x y H Q∨aKL x y H Q
theorem aHx:IxR X (rIx X.K):=aDx.or (aHA.or aHd)
theorem NC (its:List Value) (n j:Nat) (u:Value):Obj.mapSeq (·.setIfInBounds j u) { cls:=.type "list",data:=.seq its.toArray n }={ cls:=.type "list",data:=.seq (its.set j u).toArray n }:=by
  simp [Obj.mapSeq]
theorem Inv.lst {pins:List (Addr×Obj)} {σ:St} {H:Hp} {s:Shared} {p:Addr} {xs:List V} (I:Inv X pins σ H s) (h:H p=some (.lst xs)) :
    ∃ (its:List Value) (n:Nat),aG xs its∧s.heap.get? p=some { cls:=.type "list",data:=.seq its.toArray n }∧xs.length≤sizeLine:=by
  obtain ⟨z,its,n,r,e⟩:=I.hok p _ h
  exact ⟨its,n,r,e,z⟩
theorem Inv.lstUpd {pins:List (Addr×Obj)} {σ:St} {H:Hp} {s:Shared} {p:Addr} {xs ys:List V} {its its':List Value} {n n':Nat} {f:Obj→Obj} (I:Inv X pins σ H s) (h:H p=some (.lst xs))
    (ho:s.heap.get? p=some { cls:=.type "list",data:=.seq its.toArray n }) (hf:f { cls:=.type "list",data:=.seq its.toArray n }={ cls:=.type "list",data:=.seq its'.toArray n' }) (r:aG ys its') (hz:ys.length≤sizeLine) (t:Nat) :
    Inv X pins σ (upd H p (.lst ys)) { s with heap:=s.heap.update p f,toks:=t }:=by
  have e:(s.heap.update p f).get? p=some { cls:=.type "list",data:=.seq its'.toArray n' }:=by
    rw [Heap.get?_update_self f ho (by rw [hf] <;> rfl),hf]
  refine I.write (x:=p) (e:=p) (by rw [h]; trivial) (.inl rfl) (fun b u hb q=>(Heap.get?_update_other _ _ (Ne.symm hb)).trans q) ⟨_,e⟩ ?_
  exact ⟨hz,its',n',r,e⟩
noncomputable def aIV:V→V→V→Hp→(Hp→Prop)→Prop:=fun o i v H Q=>∃ p xs k j,o= .ref p∧i= .int k∧H p=some (.lst xs)∧ixN xs.length k=some j∧Q (upd H p (.lst (xs.set j v)))
theorem YX:aHy X aIV:=by
  intro pins s σ H o i v ov iv u Q I ro ri rv h
  obtain ⟨p,xs,k,j,rfl,rfl,hp,hj,q⟩:=h
  cases ro
  obtain ⟨t,rfl⟩:=ri
  obtain ⟨its,n,r,ho,hz⟩:=I.lst hp
  obtain ⟨h1,h2,h3,h4⟩:=NO hj
  have hl:=r.length
  have hn:=nF
  have I':Inv X pins σ (upd H p (.lst (xs.set j v))) { s with heap:=s.heap.update p (Obj.mapSeq (·.setIfInBounds j u)) } :=
    I.lstUpd hp ho (NC its n j u) (r.set rv j) (by rw [List.length_set]; exact hz) s.toks
  by_cases h0:0≤k
  · have hk:k.toNat=j:=by
      rw [seqIndex_of h0 h4] at h1
      exact Option.some.inj h1
    exact W.ki_setAt ho h0 (by omega) (by rw [List.size_toArray,←hl]; exact h4) (by rw [hk]; exact ⟨_,I',q⟩)
  · have hk:(k + (its.toArray.size:Int)).toNat=j:=by
      rw [seqIndex_neg (by omega) h3] at h1
      rw [List.size_toArray,←hl]
      exact Option.some.inj h1
    exact W.ki_setBack ho (by omega) (by rw [List.size_toArray,←hl]; exact h3) (by omega) (by rw [hk]; exact ⟨_,I',q⟩)
theorem CC (lo hi:Option Int) (n:Nat):(sliceBounds lo hi none n).1=((HT.sIx n 0 lo:Nat):Int)∧(sliceBounds lo hi none n).2.1=((HT.sIx n n hi:Nat):Int)∧(sliceBounds lo hi none n).2.2=1:=by
  refine ⟨?_, ?_,rfl⟩
  · cases lo with
    | none=>simp [sliceBounds,HT.sIx]
    | some i =>
      simp only [sliceBounds,HT.sIx,Option.getD_none,show (1:Int) > 0 by decide,if_true]
      by_cases h:i < 0
      · simp only [h,if_true] <;> omega
      · simp only [h,if_false] <;> omega
  · cases hi with
    | none=>simp [sliceBounds,HT.sIx]
    | some i =>
      simp only [sliceBounds,HT.sIx,Option.getD_none,show (1:Int) > 0 by decide,if_true]
      by_cases h:i < 0
      · simp only [h,if_true] <;> omega
      · simp only [h,if_false] <;> omega
theorem zT (its:List Value) (lo hi:Option Int):slicePick its.toArray lo hi none=((its.drop (HT.sIx its.length 0 lo)).take (HT.sIx its.length its.length hi - HT.sIx its.length 0 lo)).toArray:=by
  obtain ⟨h1,h2,h3⟩:=CC lo hi its.toArray.size
  unfold slicePick
  rw [h1,h2,h3]
  simp only [sliceRange_one,pick_run,List.size_toArray] <;> rfl
noncomputable def aMx (K:W.Frag):V→Option Int→Option Int→Hp→VK→Prop:=fun x lo hi H Q=>∃ a xs,x= .ref a∧SqL K H a xs∧∀ p,H p=none→Q (.ref p) (upd H p (.lst (FU xs lo hi)))
theorem aCZ:SlR X (aMx X.K):=by
  intro pins s σ H x v vl vu lo hi sl Q I rx hs pl pu h
  obtain ⟨a,xs,rfl,hx,q⟩:=h
  cases rx
  obtain ⟨its,r,ht,hz⟩:=I.list hx
  have hlen:=r.length
  refine ⟨"list",_,slot_list_getitem.lookup,ht.isList.typeIs, ?_⟩
  refine wpAny_getItem_list_slice ht.isList hs pl pu .none (by simp) ?_ (by rw [List.size_toArray] <;> omega)
  rw [zT,←hlen]
  refine ⟨.ref s.heap.objs.size,_,I.laid (t':=s.toks) (o:=.lst (FU xs lo hi)) (fun b ob q=>Heap.get?_push_of_some _ q) (Nat.le_refl _) ?_,rfl,q _ (I.hok.fresh (Nat.le_refl _))⟩
  exact ⟨Nat.le_trans (tY xs lo hi) hz,_,0,(r.drop (HT.sIx xs.length 0 lo)).take (HT.sIx xs.length xs.length hi - HT.sIx xs.length 0 lo),Heap.get?_push_size _ rfl⟩
noncomputable def mU:V→Bool
  | .non=>true
  | .bl _=>true
  | .int _=>true
  | .str _=>true
  | _=>false
noncomputable def eqV:V→V→Bool
  | .non,.non=>true
  | .bl a,.bl b=>a == b
  | .bl a,.int b=>(if a then 1 else 0) == b
  | .int a,.bl b=>a == (if b then 1 else 0)
  | .int a,.int b=>a == b
  | .str a,.str b=>a == b
  | _,_=>false
theorem aGi {A:Around} {s:Shared} {y x:V} {u v:Value} (ry:aL y u) (rx:aL x v) (fy:mU y=true) (fx:mU x=true):SeqAt.EqAt A s u v (eqV y x):=by
  cases y with
  | non =>
    cases ry
    cases x with
    | non=>cases rx; exact SeqAt.EqAt.same _
    | bl b=>cases rx; exact SeqAt.EqAt.none_bool b
    | int b=>obtain ⟨t,rfl⟩:=rx; exact SeqAt.EqAt.none_int b t
    | str b=>obtain ⟨t,rfl⟩:=rx; exact SeqAt.EqAt.none_str b t
    | _=>exact absurd (show false=true from fx) Bool.false_ne_true
  | bl a =>
    cases ry
    cases x with
    | non=>cases rx; exact SeqAt.EqAt.bool_none a
    | bl b=>cases rx; exact SeqAt.EqAt.bool_bool a b
    | int b=>obtain ⟨t,rfl⟩:=rx; exact SeqAt.EqAt.bool_int a b t
    | str b=>obtain ⟨t,rfl⟩:=rx; exact SeqAt.EqAt.bool_str a b t
    | _=>exact absurd (show false=true from fx) Bool.false_ne_true
  | int a =>
    obtain ⟨t',rfl⟩:=ry
    cases x with
    | non=>cases rx; exact SeqAt.EqAt.int_none a t'
    | bl b=>cases rx; exact SeqAt.EqAt.int_bool a t' b
    | int b=>obtain ⟨t,rfl⟩:=rx; exact SeqAt.EqAt.int_int a t' b t
    | str b=>obtain ⟨t,rfl⟩:=rx; exact SeqAt.EqAt.int_str a t' b t
    | _=>exact absurd (show false=true from fx) Bool.false_ne_true
  | str a =>
    obtain ⟨t',rfl⟩:=ry
    cases x with
    | non=>cases rx; exact SeqAt.EqAt.str_none a t'
    | bl b=>cases rx; exact SeqAt.EqAt.str_bool a t' b
    | int b=>obtain ⟨t,rfl⟩:=rx; exact SeqAt.EqAt.str_int a t' b t
    | str b=>obtain ⟨t,rfl⟩:=rx; exact SeqAt.EqAt.str_str a t' b t
    | _=>exact absurd (show false=true from fx) Bool.false_ne_true
  | _=>exact absurd (show false=true from fy) Bool.false_ne_true
noncomputable def eqU (x:V) (u:Value):Bool:=match u with
  | .none=>eqV .non x
  | .bool b=>eqV (.bl b) x
  | .int i _=>eqV (.int i) x
  | .str z _=>eqV (.str z) x
  | _=>false
theorem aAZ {x y:V} {u:Value} (r:aL y u) (f:mU y=true):eqU x u=eqV y x:=by
  cases y with
  | non=>cases r; rfl
  | bl b=>cases r; rfl
  | int i=>obtain ⟨t,rfl⟩:=r; rfl
  | str z=>obtain ⟨t,rfl⟩:=r; rfl
  | _=>exact absurd (show false=true from f) Bool.false_ne_true
theorem rJ {x:V}:∀ {xs:List V} {us:List Value},aG xs us→xs.all mU=true→us.any (eqU x)=xs.any fun y=>eqV y x
  | _,_,.nil,_=>rfl
  | y :: xs,u :: us,.cons r t,f=>by
    rw [List.all_cons,Bool.and_eq_true] at f
    rw [List.any_cons,List.any_cons,aAZ r f.1,rJ t f.2]
theorem lT {A:Around} {s:Shared} {x:V} {v:Value} (rx:aL x v) (fx:mU x=true):∀ {xs:List V} {us:List Value},aG xs us→xs.all mU=true→∀ u∈us,SeqAt.EqAt A s u v (eqU x u)
  | _,_,.nil,_=>fun u hu=>by cases hu
  | y :: xs,u :: us,.cons r t,f=>fun u' hu=>by
    rw [List.all_cons,Bool.and_eq_true] at f
    rcases List.mem_cons.mp hu with rfl | hu
    · rw [aAZ r f.1]; exact aGi r rx f.1 fx
    · exact lT rx fx t f.2 u' hu
noncomputable def inV (x:V) (xs:List V):Bool:=xs.any fun y=>eqV y x
noncomputable def rIn (K:W.Frag) (neg:Bool):R2:=fun x y H Q=>∃ p xs,y= .ref p∧(SqL K H p xs∨SqT K H p xs)∧mU x=true∧xs.all mU=true∧Q (.bl (if neg then !inV x xs else inV x xs)) H
theorem RQ:OpR X (compareOp .In) (rIn X.K false):=by
  intro pins s σ H x y v u Q I rx ry h
  obtain ⟨p,xs,rfl,hq,fx,fs,q⟩:=h
  cases ry
  rcases hq with hq | hq
  · obtain ⟨its,r,pl,hz⟩:=I.list hq
    refine SeqAt.in_listAt (eqU x) pl.isList (fun w hw=>lT rx fx r fs w (by simpa using hw)) ⟨.bl _,H,I,rfl, ?_⟩
    rw [show its.toArray.any (eqU x)=its.any (eqU x) by simp,rJ r fs]
    exact q
  · obtain ⟨its,r,pl,hz⟩:=I.tuple hq
    refine SeqAt.in_tupleAt (eqU x) pl (fun w hw=>lT rx fx r fs w (by simpa using hw)) ⟨.bl _,H,I,rfl, ?_⟩
    rw [show its.toArray.any (eqU x)=its.any (eqU x) by simp,rJ r fs]
    exact q
theorem CB:OpR X (compareOp .NotIn) (rIn X.K true):=by
  intro pins s σ H x y v u Q I rx ry h
  obtain ⟨p,xs,rfl,hq,fx,fs,q⟩:=h
  cases ry
  rcases hq with hq | hq
  · obtain ⟨its,r,pl,hz⟩:=I.list hq
    refine SeqAt.notIn_listAt (eqU x) pl.isList (fun w hw=>lT rx fx r fs w (by simpa using hw)) ⟨.bl _,H,I,rfl, ?_⟩
    rw [show its.toArray.any (eqU x)=its.any (eqU x) by simp,rJ r fs]
    exact q
  · obtain ⟨its,r,pl,hz⟩:=I.tuple hq
    refine SeqAt.notIn_tupleAt (eqU x) pl (fun w hw=>lT rx fx r fs w (by simpa using hw)) ⟨.bl _,H,I,rfl, ?_⟩
    rw [show its.toArray.any (eqU x)=its.any (eqU x) by simp,rJ r fs]
    exact q
theorem EE:bL X (.builtin "len") (fun xs H Q=>∃ p ys,xs=[.ref p]∧(SqL X.K H p ys∨SqT X.K H p ys)∧Q (.int ys.length) H):=by
  intro pins s σ H xs us Q I r h
  obtain ⟨p,ys,rfl,hq,q⟩:=h
  obtain ⟨u,rfl,rx⟩:=lG r
  cases rx
  have hn:=nF
  rcases hq with hq | hq
  · obtain ⟨its,r',pl,hz⟩:=I.list hq
    have hlen:=r'.length
    exact Calls.call_len_list pl.isList (by simp only [List.size_toArray] <;> omega) ⟨.int ys.length,H,I.tok _,⟨s.toks + 1,by rw [List.size_toArray,hlen]⟩,q⟩
  · obtain ⟨its,r',pl,hz⟩:=I.tuple hq
    have hlen:=r'.length
    exact len_tuple pl (by simp only [List.size_toArray] <;> omega) ⟨.int ys.length,H,I.tok _,⟨s.toks + 1,by rw [List.size_toArray,hlen]⟩,q⟩
theorem FF:bL X (.builtin "len") (fun xs H Q=>∃ z,xs=[.str z]∧z.length≤sizeLine∧Q (.int z.length) H):=by
  intro pins s σ H xs us Q I r h
  obtain ⟨z,rfl,hz,q⟩:=h
  obtain ⟨u,rfl,t,rfl⟩:=lG r
  have hn:=nF
  exact len_str (by omega) ⟨.int z.length,H,I.tok _,⟨_,rfl⟩,q⟩
theorem bL.or {f:Value} {r r':List V→Hp→VK→Prop} (h:bL X f r) (h':bL X f r'):bL X f (fun xs H Q=>r xs H Q∨r' xs H Q):=by
  intro pins s σ H xs us Q I rs q
  rcases q with q | q
  · exact h pins s σ H xs us Q I rs q
  · exact h' pins s σ H xs us Q I rs q
theorem yZ:bL X (.type "tuple") (fun xs H Q=>∃ p ys,xs=[.ref p]∧((SqL X.K H p ys∧∀ l,H l=none→Q (.ref l) (upd H l (.tup ys)))∨(SqT X.K H p ys∧Q (.ref p) H))):=by
  intro pins s σ H xs us Q I r h
  obtain ⟨p,ys,rfl,h⟩:=h
  obtain ⟨u,rfl,rx⟩:=lG r
  cases rx
  rcases h with ⟨hq,q⟩ | ⟨hq,q⟩
  · obtain ⟨its,r',pl,hz⟩:=I.list hq
    have hlen:=r'.length
    refine call_tuple_list pl.isList (fun h' kp=>?_) (by simp only [List.size_toArray] <;> omega)
    have I1:Inv X pins σ H { s with heap:=h' }:=I.kept (t':=s.toks) kp
    have I2:Inv X pins σ (upd H h'.objs.size (.tup ys)) { s with heap:=h'.push { cls:=.type "tuple",data:=.seq its.toArray } } :=
      I1.laid (t':=s.toks) (fun b o e=>Heap.get?_push_of_some _ e) (Nat.le_refl _) (show cU X.prog X.w _ _ _ (.tup ys) from ⟨hz,its,r',gC.new _ _⟩)
    exact ⟨.ref h'.objs.size,_,I2,rfl,q _ (I1.hok.fresh (Nat.le_refl _))⟩
  · obtain ⟨its,r',pl,hz⟩:=I.tuple hq
    exact call_tuple_same pl ⟨.ref p,H,I,rfl,q⟩
variable {o e:Expr} {es:List Expr} {to:TE} {t:TA} {name:Str} {apos cpos:Pos} {T id:String} {r:V→List V→Hp→VK→Prop}
end
noncomputable def MtM (X:Cx) (id:String) (r:V→List V→Hp→VK→Prop):Prop :=
  ∀ (pins:List (Addr×Obj)) (s:Shared) (σ:St) (H:Hp) (x:V) (xs:List V) (v:Value) (us:List Value) (Q:VK),Inv X pins σ H s→aL x v→aG xs us→r x xs H Q→
    wpAny (model X.prog X.w) X.A (call (.builtin id) (v :: us)) (EP X pins σ Q) X.xe s
theorem aG.one:∀ {x:V} {us:List Value},aG [x] us→∃ u,us=[u]∧aL x u
  | _,_,.cons r .nil=>⟨_,rfl,r⟩
theorem aG.zero:∀ {us:List Value},aG [] us→us=[]
  | _,.nil=>rfl
theorem aG.reverse {xs:List V} {us:List Value} (h:aG xs us):aG xs.reverse us.reverse:=by
  induction h with
  | nil=>exact .nil
  | cons r t ih=>rw [List.reverse_cons,List.reverse_cons]; exact aG.append ih (.cons r .nil)
theorem aG.rep {xs:List V} {us:List Value} (h:aG xs us):∀ k:Nat,aG (List.replicate k xs).flatten (List.replicate k us).flatten
  | 0=>.nil
  | k + 1=>by
    rw [List.replicate_succ,List.replicate_succ,List.flatten_cons,List.flatten_cons]
    exact aG.append h (aG.rep h k)
theorem AU (its:List Value):∀ (k:Nat) (acc:List Value),
    List.foldl (fun x1 x2=>x1 ++ x2) acc.toArray (List.replicate k its.toArray)=(acc ++ (List.replicate k its).flatten).toArray
  | 0,acc=>by simp
  | k + 1,acc=>by
    have e:acc.toArray ++ its.toArray=(acc ++ its).toArray:=by simp
    have e2:(acc ++ its) ++ (List.replicate k its).flatten=acc ++ (List.replicate (k + 1) its).flatten:=by
      rw [List.replicate_succ,List.flatten_cons,List.append_assoc]
    rw [←e2,←AU its k (acc ++ its),←e,List.replicate_succ,List.foldl_cons]
section
variable {X:Cx} {pins:List (Addr×Obj)} {σ:St} {H:Hp} {s:Shared} {l b:Addr} {xs ys zs:List V}
theorem Inv.lset {its its':List Value} {n:Nat} {f:Array Value→Array Value} {t':Nat} (I:Inv X pins σ H s) (hH:H l=some (.lst xs))
    (e:s.heap.get? l=some { cls:=.type "list",data:=.seq its.toArray n }) (hf:f its.toArray=its'.toArray) (hv:aG ys its') (hz:ys.length≤sizeLine) :
    Inv X pins σ (upd H l (.lst ys)) { s with heap:=s.heap.update l (Obj.mapSeq f),toks:=t' }:=by
  have q:=PySem.IsL.update e f
  rw [hf] at q
  refine I.write (x:=l) (e:=l) (by rw [hH]; exact trivial) (.inl rfl) (fun b' u hb hu=>(Heap.get?_update_other s.heap (Obj.mapSeq f) (Ne.symm hb)).trans hu) ⟨_,q⟩ ?_
  exact ⟨hz,its',_,hv,q⟩
theorem Inv.lnew {its:List Value} {t':Nat} (I:Inv X pins σ H s) (hv:aG ys its) (hz:ys.length≤sizeLine) :
    Inv X pins σ (upd H s.heap.objs.size (.lst ys)) { s with heap:=s.heap.push { cls:=.type "list",data:=.seq its.toArray },toks:=t' } :=
  I.laid (fun _ _ q=>Heap.get?_push_of_some _ q) (Nat.le_refl _) ⟨hz,its,0,hv,Heap.get?_push_size _ rfl⟩
theorem Inv.fresh (I:Inv X pins σ H s):H s.heap.objs.size=none:=I.hok.fresh (Nat.le_refl _)
theorem Inv.lstM (I:Inv X pins σ H s) (hH:H l=some (.lst xs)):xs.length≤sizeLine∧∃ (its:List Value) (n:Nat),aG xs its∧xs.length=its.length∧s.heap.get? l=some { cls:=.type "list",data:=.seq its.toArray n }:=by
  obtain ⟨z,its,n,r,e⟩:=I.hok l _ hH
  exact ⟨z,its,n,r,r.length,e⟩
end
section
variable {X:Cx}
noncomputable def aDC:V→List V→Hp→VK→Prop:=fun x vs H Q=>∃ l xs y,x= .ref l∧vs=[y]∧H l=some (.lst xs)∧xs.length < sizeLine∧Q .non (upd H l (.lst (xs ++ [y])))
theorem RD:MtM X "list.append" aDC:=by
  intro pins s σ H x vs v us Q I rx rv h
  obtain ⟨l,xs,y,rfl,rfl,hH,hz,q⟩:=h
  cases rx
  obtain ⟨u,rfl,ru⟩:=rv.one
  obtain ⟨z,its,n,r,hl,e⟩:=I.lstM hH
  refine call_meets F.slot_list_append ⟨_,e,rfl⟩ F.entry_list_append (F.args_list_append_2 _ _) (PySem.list_append l its.toArray n u (by rw [List.size_toArray]; omega)) ⟨e, ?_⟩
  refine ⟨.non,_,I.lset (its':=its ++ [u]) hH e (by simp) (r.append (.cons ru .nil)) ?_,rfl,q⟩
  rw [List.length_append,List.length_singleton]
  omega
noncomputable def aJS:R2:=fun x y H Q=>∃ l b xs zs,x= .ref l∧y= .ref b∧H l=some (.lst xs)∧H b=some (.lst zs)∧xs.length + zs.length≤sizeLine∧∀ p,H p=none→Q (.ref p) (upd H p (.lst (xs ++ zs)))
theorem aIr:OpR X (binaryOp .Add) aJS:=by
  intro pins s σ H x y v u Q I rx ry h
  obtain ⟨l,b,xs,zs,rfl,rfl,hH,hB,hz,q⟩:=h
  cases rx
  cases ry
  obtain ⟨z,its,n,r,hl,e⟩:=I.lstM hH
  obtain ⟨z2,its2,n2,r2,hl2,e2⟩:=I.lstM hB
  refine PySem.P.add_list e e2 ?_ (by rw [List.size_toArray,List.size_toArray]; omega)
  have ea:its.toArray ++ its2.toArray=(its ++ its2).toArray:=by simp
  rw [ea]
  exact ⟨.ref _,_,I.lnew (t':=s.toks) (r.append r2) (by rw [List.length_append]; omega),rfl,q _ I.fresh⟩
theorem NJ {α:Type} (xs:List α) (k:Nat):(List.replicate k xs).flatten.length=k * xs.length:=by
  induction k with
  | zero=>simp
  | succ k ih=>rw [List.replicate_succ,List.flatten_cons,List.length_append,ih,Nat.succ_mul,Nat.add_comm]
end
section
variable {prog:Program} {w:World} {A:Around} {E:Value→Shared→Prop} {s:Shared}
end
section
variable {X:Cx}
end
end L2
namespace Att
open PySem PySem.W PySem.Calls PyProof.Rows
theorem uV {P:Params} {h:Heap}:∀ (ns:List Int) (vs:List Value),WellAll P h vs (ns.map WData.int)→IntsAre vs ns:=by
  intro ns
  induction ns with
  | nil =>
    intro vs w
    rw [List.map_nil] at w
    cases w
    exact .nil
  | cons n ns ih =>
    intro vs w
    rw [List.map_cons] at w
    cases w with
    | cons a b =>
      cases a
      exact .cons _ _ (ih _ b)
theorem QY {l:OpenLaw} {n:Nat} (hn:l.most=some n) {P:Params} {h:Heap} {args:List WData} {vals:List Value}
    (hpre:l.row.toRowW.claim.pre args=true) (hwl:WellAll P h vals args) :
    ∃ a vs ns,vals=[Value.ref a]∧args=[WData.list (ns.map WData.int)]∧h.get? a=some { cls:=.type "list",data:=.seq vs.toArray }∧IntsAre vs ns∧ns.length≤n:=by
  have hsh:WShape.hasAll [] args [.list .int]=true:=(pre_splitW hpre).1
  have hc:l.pre.holds [] { args:=args }=true:=(pre_splitW hpre).2
  obtain ⟨d,r,rfl,h1,h2⟩:=hasAllW_cons hsh
  obtain rfl:=hasAllW_nil h2
  obtain ⟨xs,rfl,h3⟩:=hasW_list h1
  obtain ⟨ns,rfl⟩:=items_int h3
  have hlen:ns.length≤n:=by
    unfold OpenLaw.pre at hc
    have h4:(WTm.not (.lt (.lit (.int (n:Int))) (.len (.arg 0)))).holds [] { args:=[.list (ns.map .int)] }=true:=by
      have h4:=(holds_andW hc).1
      rw [hn] at h4
      exact h4
    have h5:=condW_of h4 (w_not (w_lt w_lit (w_len_list (w_arg rfl))))
    rw [List.length_map] at h5
    refine Nat.le_of_not_lt fun q=>?_
    have q':(n:Int) < ((ns.length:Nat):Int):=by omega
    first
      | (rw [decide_eq_true q'] at h5; exact absurd h5 (by decide))
      | (simp at h5; omega)
  cases hwl with
  | cons w1 w2 =>
    cases w2
    cases w1 with
    | list ho hall=>exact ⟨_,_,ns,rfl,rfl,ho,uV ns _ hall,hlen⟩
theorem RF (l:OpenLaw) (args:List WData):l.row.toRowW.claim.post args (.bool true) args=true :=
  postW_of (r:=l.row.toRowW) (X:=(true == true))
    (show WShape.has [] (.bool true) .bool=true by first | rfl | decide | simp [WShape.has,WShape.arms,WShape.armsAll])
    (show (WTm.eq .res (.lit (.bool true))).value [] { args:=args,res:=some (.bool true),after:=args }=some (.bool (true == true)) from w_eq_bool (w_res rfl) w_lit) rfl
theorem GK {l:OpenLaw} {n:Nat} {q:Program} {loose:List Str} {XP:(Str→Option Value)→Heap→Prop} {YP:World→Heap→Prop} {d:DefRec}
    (hn:l.most=some n) (hdf:d.params.defaults=[])
    (call:∀ (w:World) (s₀ s₁:Shared) (mg mb:Str→Option Value) (fa:Addr) (o:Obj) (pm cd doc:Value) (a:Addr) (vs:List Value) (ns:List Int),
      Ground q loose [] XP w s₀ mg mb s₁.heap→YP w s₁.heap→
      s₁.heap.get? fa=some o→o.data= .func (docDef d.name d.params d.body d.scope pm cd doc)→s₁.heap.CodeRec cd d.name→mg d.name=some (.ref fa)→
      s₁.heap.get? a=some { cls:=.type "list",data:=.seq vs.toArray }→IntsAre vs ns→ns.length≤n→s₁.gens= #[]→
      codeAny (model l.prog w) callerA (.call (.ref fa) ⟨[.ref a],[]⟩) (fun r s'=>r= .ok (.ret (.bool true))∧OldK s₁.heap s'.heap∧s'.os=s₁.os∧AllBare s'.gens) s₁) :
    WalkO q loose XP YP l.row.toRowW d [] (fun f vs=>PySem.call f vs):=by
  intro w s₀ s₁ mg mb G Y fa o pm cd doc dV kV ho hd hcd hD hmg hg args vals as hpre hlay hrd hwl hlo
  obtain rfl:dV= .none:=Dflts.none hD hdf
  obtain rfl:kV= .none:=Dflts.noKw hD
  obtain ⟨a,vs,ns,rfl,rfl,hobj,hints,hlen⟩:=QY hn hpre hwl
  refine enter_call (codeAny_mono (call w s₀ s₁ mg mb fa o pm cd doc a vs ns G Y ho (fd_plain hd) hcd hmg hobj hints hlen hg) fun r s' hq=>?_)
  obtain ⟨rfl,h2,h3,h4⟩:=hq
  exact ⟨.inl ⟨.bool true,.bool true,[],rfl,fun _=>rfl,.bool true,RF l _,fun _=>⟨List.Pairwise.nil,fun _ hm=>(nomatch hm)⟩⟩,h2,h3,h4⟩
section
variable {prog:Program} {w:World} {A:Around} {E:Value→Shared→Prop} {s:Shared} {K:Frag}
end
end Att
namespace L2
open PySem PySem.Spec PyProof.Rows
theorem AH:∀ {vs:List Value} {ns:List Int},IntsAre vs ns→aG (ns.map V.int) vs
  | _,_,.nil=>.nil
  | _,_,.cons n t h=>.cons ⟨t,rfl⟩ (AH h)
noncomputable def XX (H:Hp):Prop:= ∀ b,H b=none∨∃ o xs,H b=some (.frz o (.lst xs))
theorem UX {P:Program} {w:World} {K:W.Frag} {mg mb:Str→Option Value} {CX:CXT} {k:Nat} {fa a:Addr} {fd:FuncData} {x:Str} {sp:Sp} {s₁:Shared} {vs:List Value} {ns:List Int}
    (KX:K.In s₁.heap) (hns:s₁.heap.Ns mainGlobals mg) (hb:s₁.heap.Ns builtinsNs mb) (hbb:∀ x:Str,x≠"__name__"→mb x=bootBuiltins x) (hlim:s₁.heap.NoLimit) (hg:s₁.gens= #[])
    (ha:s₁.heap.get? a=some { cls:=.type "list",data:=.seq vs.toArray }) (hi:IntsAre vs ns) (hl:ns.length≤sizeLine) (hr:bS k callerA)
    (F:∀ base:Heap,K.In base→base.Ns mainGlobals mg→cJ P w K mg base CX k fa fd [x] sp) (hbind:∀ (s:Shared) (u:Value),BindsTo s fd ⟨[u],[]⟩ [(x,u)])
    (hsp:∀ H:Hp,XX H→SqL K H a (ns.map V.int)→sp [.ref a] H (fun v _=>v= .bl true) fun _ _ _=>False)
    (hCX:∀ H e s',CX [] H s₁ (fun _ _ _=>False) e s'→False) :
    codeAny (model P w) callerA (.call (.ref fa) ⟨[.ref a],[]⟩) (fun r s'=>r= .ok (.ret (.bool true))∧OldK s₁.heap s'.heap∧s'.os=s₁.os∧AllBare s'.gens) s₁:=by
  have rv:=AH hi
  have lenV:=hi.length
  have core :∀ H:Hp,XX H→SqL K H a (ns.map V.int)→HOk P w H s₁.heap→(∀ b,H b≠none→b=a)→(H a≠none→K.lookup a=none)→
      codeAny (model P w) callerA (.call (.ref fa) ⟨[.ref a],[]⟩) (fun r s'=>r= .ok (.ret (.bool true))∧OldK s₁.heap s'.heap∧s'.os=s₁.os∧AllBare s'.gens) s₁:=by
    intro H hO hS hok hA hK
    have base_of:∀ {b:Addr} {o:Obj},s₁.heap.get? b=some o→H b=none→(FG s₁.heap H).get? b=some o:=fun e n=>YY e n
    have noA:∀ {b:Addr} {o:Obj} {es:Array DictEntry} {ep:Nat},s₁.heap.get? b=some o→o.data= .dict es ep→H b=none:=fun {b o es ep} e d=>by
      cases q:H b with
      | none=>rfl
      | some u =>
        have e':b=a:=hA b (by rw [q]; simp)
        subst e'
        rw [ha] at e; cases e
        have d':Data.seq vs.toArray _=Data.dict es ep:=d
        cases d'
    have nsK:∀ {b:Addr} {m:Str→Option Value},s₁.heap.Ns b m→(FG s₁.heap H).Ns b m:=fun {b m} ⟨o,es,ep,e,d,r⟩=>⟨o,es,ep,base_of e (noA e d),d,r⟩
    have hKb:K.In (FG s₁.heap H):=fun b o e=>base_of (KX b o e) (by
      cases q:H b with
      | none=>rfl
      | some u =>
        have e':b=a:=hA b (by rw [q]; simp)
        subst e'
        rw [hK (by rw [q]; simp)] at e; cases e)
    have hM:Mod K mg (FG s₁.heap H):=⟨hKb,nsK hns,⟨mb,nsK hb,hbb⟩,let ⟨mc,h1,h2⟩:=hlim; ⟨mc,nsK h1,h2⟩⟩
    have e0:uR P w K mg (FG s₁.heap H) callerA [] s₁ H:=⟨rfl,hM,fun b o e=>aDy e,Nat.le_of_eq (TU _ _),trivial,fun b hb=>absurd (show b∈([]:List Addr) from hb) (by simp),hok,.of_eq hg⟩
    refine codeAny_mono ((F _ hKb (nsK hns)).run callerA [] s₁ H ⟨[.ref a],[]⟩ [.ref a] [.ref a] _ _ hr e0 (hbind s₁ (.ref a)) (.cons rfl .nil) (hsp H hO hS)) fun r s' h=>?_
    cases r with
    | error e=>exact (hCX H e s' h).elim
    | ok fl =>
      cases fl with
      | next=>exact False.elim h
      | brk=>exact False.elim h
      | cont=>exact False.elim h
      | ret u =>
        obtain ⟨v,H',os,bare,un,hok',r',q⟩:=h
        have q':v= .bl true:=q
        subst q'
        obtain rfl:u=Value.bool true:=r'
        refine ⟨rfl,OldK.of_keep fun b o e=>?_,os,bare⟩
        cases q:H b with
        | none=>exact un.keep b o e q (by intro z; exact absurd (show b∈([]:List Addr) from z) (by simp)) (by simp)
        | some u =>
          rcases hO b with z | ⟨ob,xs,z⟩
          · rw [q] at z; cases z
          · have z2:=un.frzs b ob _ z
            obtain ⟨e1,_⟩:=hok b _ z
            obtain ⟨e2,_⟩:=hok' b _ z2
            rw [e] at e1; cases e1
            exact e2
  cases hk:K.lookup a with
  | some o =>
    have e:=KX a o hk
    rw [ha] at e
    cases e
    refine core (fun _=>none) (fun _=>.inl rfl) (.inr ⟨_,vs.toArray,_,hk,rfl,rfl,rfl,by rw [List.size_toArray,lenV]; exact hl,by simpa using rv⟩) (fun b u z=>by have z':(none:Option HO)=some u:=z; cases z') (fun b z=>absurd rfl z) fun z=>absurd rfl z
  | none =>
    refine core (fun b=>if b=a then some (.frz { cls:=.type "list",data:=.seq vs.toArray } (.lst (ns.map V.int))) else none) (fun b=>?_) (.inl (.inr ⟨{ cls:=.type "list",data:=.seq vs.toArray },if_pos rfl⟩)) (fun b u z=>?_) (fun b z=>?_) fun _=>hk
    · by_cases hb:b=a
      · exact .inr ⟨_,_,if_pos hb⟩
      · exact .inl (if_neg hb)
    · by_cases hb:b=a
      · have z':=(if_pos hb).symm.trans z
        cases z'
        subst hb
        exact ⟨ha,by rw [List.length_map]; exact hl,vs,_,rv,ha⟩
      · have z':=(if_neg hb).symm.trans z
        cases z'
    · by_cases hb:b=a
      · exact hb
      · exact absurd (if_neg hb) z
theorem aCz {l:W.OpenLaw} {n k:Nat} {q:Program} {loose:List Str} {XP:(Str→Option Value)→Heap→Prop} {YP:World→Heap→Prop} {d:DefRec} {K:Params→W.Frag} {CX:World→CXT} {sp:World→Sp} {x:Str}
    (hn:l.most=some n) (hn2:n≤sizeLine) (hdf:d.params.defaults=[]) (hr:bS k callerA)
    (hY:∀ (w:World) (h:Heap),YP w h→(K w.params).In h)
    (F : ∀ (w:World) (mg:Str→Option Value) (fa:Addr) (h:Heap),(K w.params).In h→h.Ns mainGlobals mg→mg d.name=some (.ref fa)→
      ∃ fd:FuncData,(∀ (s:Shared) (u:Value),BindsTo s fd ⟨[u],[]⟩ [(x,u)])∧
        ∀ base:Heap,(K w.params).In base→base.Ns mainGlobals mg→cJ l.prog w (K w.params) mg base (CX w) k fa fd [x] (sp w))
    (hsp:∀ (w:World) (H:Hp) (a:Addr) (ns:List Int),ns.length≤n→XX H→SqL (K w.params) H a (ns.map V.int)→sp w [.ref a] H (fun v _=>v= .bl true) fun _ _ _=>False)
    (hCX:∀ (w:World) (H:Hp) (s:Shared) (e:Value) (s':Shared),CX w [] H s (fun _ _ _=>False) e s'→False) :
    W.WalkO q loose XP YP l.row.toRowW d [] (fun f vs=>PySem.call f vs):=by
  refine Att.GK hn hdf fun w s₀ s₁ mg mb fa o pm cd doc a vs ns G Y ho hd hcd hmg hobj hints hlen hg=>?_
  have KX:=hY w _ Y
  obtain ⟨fd,hb,hF⟩:=F w mg fa _ KX G.T.g hmg
  exact UX KX G.T.g G.T.b G.T.builtins G.T.nolimit hg hobj hints (Nat.le_trans hlen hn2) hr hF hb (fun H hO hS=>hsp w H a ns hlen hO hS) fun H e s'=>hCX w H s₁ e s'
theorem ZG {l:W.OpenLaw} {n k:Nat} {q:Program} {loose:List Str} {XP:(Str→Option Value)→Heap→Prop} {YP:World→Heap→Prop} {d:DefRec} {K:Params→W.Frag} {CX:CXT} {sp:W.Frag→Sp} {x:Str}
    (hn:l.most=some n) (hn2:n≤sizeLine) (hdf:d.params.defaults=[]) (hr:bS k callerA)
    (hY:∀ (w:World) (h:Heap),YP w h→(K w.params).In h)
    (F : ∀ (w:World) (mg:Str→Option Value) (fa:Addr) (h:Heap),(K w.params).In h→h.Ns mainGlobals mg→mg d.name=some (.ref fa)→
      ∃ fd:FuncData,(∀ (s:Shared) (u:Value),BindsTo s fd ⟨[u],[]⟩ [(x,u)])∧
        ∀ base:Heap,(K w.params).In base→base.Ns mainGlobals mg→cJ l.prog w (K w.params) mg base CX k fa fd [x] (sp (K w.params)))
    (hsp:∀ (K:W.Frag) (H:Hp) (a:Addr) (ns:List Int),ns.length≤n→XX H→SqL K H a (ns.map V.int)→sp K [.ref a] H (fun v _=>v= .bl true) fun _ _ _=>False)
    (hCX:∀ (H:Hp) (s:Shared) (e:Value) (s':Shared),CX [] H s (fun _ _ _=>False) e s'→False) :
    W.WalkO q loose XP YP l.row.toRowW d [] (fun f vs=>PySem.call f vs) :=
  aCz (K:=K) (CX:=fun _=>CX) (sp:=fun w=>sp (K w.params)) hn hn2 hdf hr hY F (fun w H a ns h1 h2 h3=>hsp (K w.params) H a ns h1 h2 h3) fun _ H s e s'=>hCX H s e s'
noncomputable def bK (s:Stmt) (j:Nat):Stmt:=match s with
  | .ClassDef _ _ _ body _ _ _ _ _ _ _=>body.getD j (.Pass ⟨0,0,0,0⟩)
  | _=>.Pass ⟨0,0,0,0⟩
noncomputable def fN (s:Stmt):Arguments:=match s with
  | .FunctionDef _ a _ _ _ _ _ _ _ _=>a
  | _=>{ posonlyargs:=[],args:=[],vararg:=none,kwonlyargs:=[],kw_defaults:=[],kwarg:=none,defaults:=[] }
noncomputable def aB (s:Stmt):List Stmt:=match s with
  | .FunctionDef _ _ b _ _ _ _ _ _ _=>b
  | _=>[]
noncomputable def aA (s:Stmt):Scope:=match s with
  | .FunctionDef _ _ _ _ _ _ sc _ _ _=>sc
  | _=>{ kind:=.function,names:=[],isGenerator:=false,isCoroutine:=false }
noncomputable abbrev CX0:CXT:=fun _ _ _ _ _ _=>False
noncomputable abbrev E0:XK:=fun _ _ _=>False
theorem VP {X:Cx}:sJ CX0 X E0:=fun _ _ _ _ _ _ _ h=>h.elim
structure Fun (K:W.Frag) (x qual:Str) (st:Stmt) (f:Addr) (fd:FuncData):Prop where
  ex :∃ (oc:Value) (od:Option Addr) (kV doc pm:Value) (an:Option Addr) (cdv ct:Value) (osl:Array (Option Value)),
    fd=W.fnOf x qual (fN st) (aB st) (aA st) .none kV doc pm an cdv ct∧K.lookup f=some ⟨oc,od,.func fd,osl⟩∧W.codeIn K cdv qual=true
  kp:W.keepIn K (.ref f)=true
section
variable {P:Program} {w:World} {K:W.Frag} {mg:Str→Option Value} {base:Heap}
theorem Fun.ok {x qual:Str} {st:Stmt} {f:Addr} {fd:FuncData} {N ps:List Str} {k:Nat} {sp:Sp} (F:Fun K x qual st f fd) (S:vL N ps (aA st)) (len:∀ vs H Q E,sp vs H Q E→vs.length=ps.length)
    (hbody:∀ (cdv:Value) (A:Around) (outer:List Env) (s:Shared) (H:Hp) (vs:List V) (Q:VK) (E:XK),bS k (A.deeper (envOfC qual (aA st) s.heap.objs.size f cdv))→sp vs H Q E→
      ∃ t,PSs (JV CX0 P w K mg base N qual (aA st) f cdv A outer s H E).nox (aB st) t∧t { nx:=fun _ H'=>Q .non H',rt:=Q } (start N vs) H):cJ P w K mg base CX0 (k + 1) f fd ps sp:=by
  obtain ⟨oc,od,kV,doc,pm,an,cdv,ct,osl,rfl,lk,hcd⟩:=F.ex
  refine aEI lk hcd S len fun A outer s H vs Q E hr hsp=>?_
  obtain ⟨t,h,q⟩:=hbody cdv A outer s H vs Q E hr hsp
  exact ⟨t,h.nox,q⟩
theorem Fun.binds {x qual:Str} {st:Stmt} {f:Addr} {fd:FuncData} {ps:List Str} (F:Fun K x qual st f fd)
    (h:∀ (kV doc pm:Value) (an:Option Addr) (cdv ct:Value) (us:List Value),us.length=ps.length→bindArgs (W.fnOf x qual (fN st) (aB st) (aA st) .none kV doc pm an cdv ct) ⟨us,[]⟩=pure (ps.zip us)):aE K fd ps []:=by
  obtain ⟨oc,od,kV,doc,pm,an,cdv,ct,osl,rfl,lk,hcd⟩:=F.ex
  exact .all (h kV doc pm an cdv ct)
end
section
variable {X:Cx}
theorem pv (i:Nat) {x:Str} {pos:Pos} (hN:X.N[i]? =some x:=by rfl) (hv:Vis X.env.scope x:=by first | exact Or.inl rfl | exact Or.inr (Or.inl rfl) | exact Or.inr (Or.inr rfl)) (hd:(x == ("__debug__":Str))=false:=by decide)
    (hcd:(x == ("__classdict__":Str))=false:=by decide):PE X (.Name x pos) (aJ6 i):=MI hN hv hd hcd
end
noncomputable def aR (H H':Hp):Prop:= ∀ b o,H b=some o→H' b=some o
theorem aR.refl (H:Hp):aR H H:=fun _ _ h=>h
theorem aR.trans {H H1 H2:Hp} (a:aR H H1) (b:aR H1 H2):aR H H2:=fun c o h=>b c o (a c o h)
theorem aR.free {H H':Hp} (e:aR H H') {l:Addr} (h:H' l=Option.none):H l=Option.none:=by
  cases q:H l with
  | none=>rfl
  | some o =>
    rw [e l o q] at h
    cases h
theorem aR.seq {K:W.Frag} {H H':Hp} {a:Addr} {xs:List V} (e:aR H H') (h:SqL K H a xs):SqL K H' a xs:=by
  rcases h with (h | ⟨o,h⟩) | h
  · exact .inl (.inl (e _ _ h))
  · exact .inl (.inr ⟨o,e _ _ h⟩)
  · exact .inr h
end L2
set_option maxHeartbeats 4000000
namespace L2
open PySem PySem.Spec PyProof.Rows
noncomputable def Sm (k:Nat) (x:Int):Prop:=x.natAbs < 2 ^ k
theorem Sm.mono {k l:Nat} {x:Int} (h:Sm k x) (q:k≤l):Sm l x:=Nat.lt_of_lt_of_le h (Nat.pow_le_pow_right (by decide) q)
theorem Sm.mul {k l:Nat} {x y:Int} (h:Sm k x) (q:Sm l y):Sm (k + l) (x * y):=by
  unfold Sm at *; rw [Int.natAbs_mul,Nat.pow_add]; exact Nat.mul_lt_mul'' h q
theorem Sm.add {k l:Nat} {x y:Int} (h:Sm k x) (q:Sm k y) (e:k + 1≤l):Sm l (x + y):=by
  have a:(x + y).natAbs≤x.natAbs + y.natAbs:=Int.natAbs_add_le x y
  have b:2 ^ k + 2 ^ k≤2 ^ l:=by
    have:=Nat.pow_le_pow_right (show 0 < 2 by decide) e
    rw [Nat.pow_succ] at this; omega
  unfold Sm at *; omega
theorem Sm.neg {k:Nat} {x:Int} (h:Sm k x):Sm k (-x):=by unfold Sm at *; rw [Int.natAbs_neg]; exact h
theorem Sm.sub {k l:Nat} {x y:Int} (h:Sm k x) (q:Sm k y) (e:k + 1≤l):Sm l (x - y):=by
  rw [Int.sub_eq_add_neg]; exact h.add q.neg e
theorem Sm.le {k:Nat} {x y:Int} (h:Sm k y) (a:0≤x) (b:x≤y):Sm k x:=by unfold Sm at *; omega
theorem Sm.div {k:Nat} {x y:Int} (h:Sm k x) (hy:0 < y):Sm k (x / y):=by
  rcases Int.le_total 0 x with z | z
  · exact h.le (Int.ediv_nonneg z (by omega)) (Int.ediv_le_self _ z)
  · have a:x≤x / y:=Int.le_ediv_of_mul_le hy (by
      have:=Int.mul_le_mul_of_nonpos_left z (show 1≤y by omega)
      omega)
    have b:x / y≤0:=by
      have:=Int.ediv_le_ediv hy z
      rw [Int.zero_ediv] at this; exact this
    unfold Sm at *; omega
theorem Sm.bits {k:Nat} {x:Int} (h:Sm k x):Builtin.Int.intBits x≤k:=by
  unfold Builtin.Int.intBits
  split
  · exact Nat.zero_le _
  · rename_i z
    have hz:x.natAbs≠0:=fun e=>z (by rw [Int.natAbs_eq_zero.mp e]; rfl)
    exact (Nat.log2_lt hz).mpr h
theorem Sm.mulOk {k l:Nat} {x y:Int} (h:Sm k x) (q:Sm l y) (e:k + l≤100000000):IntMulOk x y:=by
  have b1:=h.bits
  have b2:=q.bits
  unfold IntMulOk
  have z:Builtin.Int.intTooBig (((Builtin.Int.intBits x + Builtin.Int.intBits y:Nat):Int))=false:=by
    unfold Builtin.Int.intTooBig
    refine decide_eq_false ?_
    have:bitsLine=134217728:=by decide
    rw [this]; omega
  have z':Builtin.Int.intTooBig ((Builtin.Int.intBits x:Int) + (Builtin.Int.intBits y:Int))=false:=by
    rw [←z]; congr 1
  rw [z']; simp
theorem Sm.log {k:Nat} {x:Int} (h:Sm k x) (e:k≤9000) (hk:0 < k):x.natAbs.log2 < 9000:=by
  by_cases hz:x.natAbs=0
  · rw [hz]; decide
  · exact Nat.lt_of_lt_of_le ((Nat.log2_lt hz).mpr h) e
section
variable {X:Cx}
noncomputable def BB (i j:Int):Prop:=IntMulOk i j
theorem XB {i j:Int} (h:Sm 64 i):BB i j:=IntMulOk.of_left h.bits
theorem aLf {i j:Int} (h:Sm 64 j):BB i j:=IntMulOk.of_right h.bits
theorem fV {k l:Nat} {i j:Int} (h:Sm k i) (q:Sm l j) (e:k + l≤100000000:=by decide):BB i j:=h.mulOk q e
noncomputable def AW (_i j:Int):Prop:=0 < j∧∃ k,Sm k j∧0 < k∧k≤9000
theorem aDs {k:Nat} {i j:Int} (h:0 < j) (q:Sm k j) (e:0 < k:=by decide) (e':k≤9000:=by decide):AW i j:=⟨h,k,q,e,e'⟩
theorem aDd:OpR X (binaryOp .Mult) (rI BB fun i j=>.int (i * j)):=opI fun _ _ _ _ _ _ _ hc q=>by
  exact mul_int q hc
theorem UK:OpR X (binaryOp .FloorDiv) (rI AW fun i j=>.int (i / j)):=opI fun i j _ _ _ _ _ hc q=>by
  obtain ⟨h1,k,a,hk,e⟩:=hc
  exact floordiv_int (by omega) (by rw [Int.fdiv_eq_ediv_of_nonneg i (by omega)]; exact q) (.inl (PyProof.noPylong_of_log2 (a.log e hk)))
theorem aL.one {x:V} {u v:Value} (r:aL x u) (q:aL x v) (h:∀ i,x≠.int i) (h1:∀ i,x≠.str i) (h2:∀ i,x≠.byt i) (h3:∀ i,x≠.flt i):u=v:=by
  cases x with
  | non=>exact Eq.trans r (Eq.symm q)
  | bl b=>exact Eq.trans r (Eq.symm q)
  | int i=>exact absurd rfl (h i)
  | str i=>exact absurd rfl (h1 i)
  | byt i=>exact absurd rfl (h2 i)
  | flt i=>exact absurd rfl (h3 i)
  | ref a=>exact Eq.trans r (Eq.symm q)
  | ty n=>exact Eq.trans r (Eq.symm q)
end
section
variable {X:Cx} {CX:CXT} {k:Nat} {f C:Addr} {fd:FuncData} {ps ks:List Str} {sp:Sp} {E:XK} {x m:Str} {p pos apos kpos:Pos} {kws:List Keyword} {tk:TA}
variable {g:List Value→List Value→List Value} {gV:List V→List V→List V}
end
theorem gC.at {h:Heap} {a:Addr} {items:Array Value} {n:Nat} (e:h.get? a=some { cls:=.type "tuple",data:=.seq items n }):gC h a items:=⟨⟨_,e,rfl,n,rfl⟩,fun o q=>by rw [e] at q; cases q; rfl⟩
end L2
namespace LE
open PySem PyProof.Rows
open AutoSeq1 (wpAny_loadPart')
open Builtin
variable {prog:Program} {w:World} {A:Around} {E:Value→Shared→Prop} {s:Shared}
theorem aFc {it l:Addr} {i:Nat} {xs:Array Value} {x:Value} {Q:Value→Shared→Prop} (a:s.heap.IsTupleIter it l i) (b:s.heap.IsTuple l xs) (c:xs[i]? =some x)
    (q:∀ h',h'.IsTupleIter it l (i + 1)→Heap.SameBut it s.heap h'→Q x { s with heap:=h' }):wpAny (model prog w) A (Builtin.SmallTypes.nextOf (.ref it)) Q E s:=by
  obtain ⟨o,ho,hc,hd⟩:=id a
  obtain ⟨p,hp,_,n,hn⟩:=b
  unfold Builtin.SmallTypes.nextOf
  refine wpAny_bind (wpAny_callSpecial?_slot (name:=Str.ofString "__next__") a.typeIs F.slot_tuple_iterator_next (wpAny_call_entry F.slot_tuple_iterator_next a.typeIs F.entry_tuple_iterator_next ?_ (F.args_tuple_iterator_next_1 _)))
  show wpAny _ _ (field (.ref it) 0 >>= _) _ _ _
  refine wpAny_bind (wpAny_field ho hd (x:=.ref l) rfl ?_)
  show wpAny _ _ (if (Value.ref l == Value.none)=true then _ else _) _ _ _
  rw [if_neg (show ¬((Value.ref l == Value.none)=true) from nofun)]
  show wpAny _ _ (field (.ref it) 1 >>= _) _ _ _
  refine wpAny_bind (wpAny_field ho hd (x:=.int i 0) rfl ?_)
  show wpAny _ _ (seqItems? (.ref l) >>= _) _ _ _
  refine wpAny_bind (wpAny_seqItems hp hn ?_)
  simp only [Int.toNat_natCast,c]
  exact wpAny_bind (wpAny_setField ho hd (by simp) (wpAny_pure ⟨x,rfl,wpAny_pure (q _ ⟨_,Heap.get?_update_self _ ho (Obj.isFreed_of_fields (Obj.data_mapFields hd _)),(Obj.cls_mapFields ..).trans hc,by rw [Obj.data_mapFields hd]; simp [rawInt]⟩ (Heap.SameBut.update ..))⟩))
theorem aIn {it l:Addr} {i:Nat} {xs:Array Value} {Q:Value→Shared→Prop} (hh:A.handled=none) (a:s.heap.IsTupleIter it l i) (b:s.heap.IsTuple l xs) (c:xs[i]? =none)
    (q:∀ h' e,Heap.ExtBut it s.heap h'→(∃ o,h'.get? e=some o∧o.cls= .type "StopIteration")→E (.ref e) { s with heap:=h' }):wpAny (model prog w) A (Builtin.SmallTypes.nextOf (.ref it)) Q E s:=by
  obtain ⟨o,ho,hc,hd⟩:=id a
  obtain ⟨p,hp,_,n,hn⟩:=b
  unfold Builtin.SmallTypes.nextOf
  refine wpAny_bind (wpAny_callSpecial?_slot (name:=Str.ofString "__next__") a.typeIs F.slot_tuple_iterator_next (wpAny_call_entry F.slot_tuple_iterator_next a.typeIs F.entry_tuple_iterator_next ?_ (F.args_tuple_iterator_next_1 _)))
  show wpAny _ _ (field (.ref it) 0 >>= _) _ _ _
  refine wpAny_bind (wpAny_field ho hd (x:=.ref l) rfl ?_)
  show wpAny _ _ (if (Value.ref l == Value.none)=true then _ else _) _ _ _
  rw [if_neg (show ¬((Value.ref l == Value.none)=true) from nofun)]
  show wpAny _ _ (field (.ref it) 1 >>= _) _ _ _
  refine wpAny_bind (wpAny_field ho hd (x:=.int i 0) rfl ?_)
  show wpAny _ _ (seqItems? (.ref l) >>= _) _ _ _
  refine wpAny_bind (wpAny_seqItems hp hn ?_)
  simp only [Int.toNat_natCast,c]
  refine wpAny_bind (wpAny_rule (wpAny_bind (wpAny_setField ho hd (by simp) ?_)))
  show wpAny _ _ (newExc (.type "StopIteration") [] >>= _) _ _ _
  refine wpAny_bind ?_
  simp only [newExc,newTuple]
  refine wpAny_bind (wpAny_newObj_type ?_ (by size_fits))
  refine wpAny_bind (m:=firstArgMember _ _) (wpAny_of_eq (a:=Value.none) (by first | rfl | (simp only [firstArgMember]; rfl)) (wpAny_newObj_type ?_ (by size_fits)))
  simp only [raiseNew]
  refine wpAny_bind (wpAny_handled ?_)
  first | rw [show A.in1.handled=none from hh] | rw [hh]
  exact wpAny_bind (wpAny_pure (wpAny_throw (q _ _ (((Heap.SameBut.update ..).extBut.push _).push _) ⟨_,Heap.get?_push_size _ rfl,rfl⟩)))
theorem aGg (hh:A.handled=none) (it l:Addr) (hne:l≠it) (xs:Array Value):Draws prog w A it [it,l] xs.size (fun i v=>xs[i]? =some v) (fun i h=>h.IsTupleIter it l i∧h.IsTuple l xs) where
  live:=fun _ _ st=>let ⟨o,ho,_⟩:=st.1; ⟨o,ho⟩
  frame:=fun _ _ _ st hk=>⟨st.1.at fun o e=>hk it (by simp) o e,let ⟨o,e,r⟩:=st.2; ⟨o,hk l (by simp) o e,r⟩⟩
  item:=fun i s Q E hi st hQ=>aFc st.1 st.2 (x:=xs[i]) (by simp [hi]) fun h' a b=>hQ _ h' s.toks (by simp [hi]) ⟨a,st.2.extBut b.extBut hne⟩ b
  done:=fun s Q E st hE=>aIn hh st.1 st.2 (by simp) hE
theorem aGq (hh:A.handled=none) (it l:Addr) (i:Nat) (xs:Array Value) (hx:xs[i]? =none):Draws prog w A it [it,l] i (fun _ _=>True) (fun j h=>j=i∧h.IsTupleIter it l j∧h.IsTuple l xs) where
  live:=fun _ _ st=>let ⟨o,ho,_⟩:=st.2.1; ⟨o,ho⟩
  frame:=fun _ _ _ st hk=>⟨st.1,st.2.1.at fun o e=>hk it (by simp) o e,let ⟨o,e,r⟩:=st.2.2; ⟨o,hk l (by simp) o e,r⟩⟩
  item:=fun j s Q E hi st hQ=>absurd st.1 (Nat.ne_of_lt hi)
  done:=fun s Q E st hE=>aIn hh st.2.1 st.2.2 hx hE
theorem aDN (l:Addr) (items:Array Value) (o:Obj) (ho:o.cls= .type "tuple") (n:Nat) (hd:o.data= .seq items n) :
    Meets (Builtin.«enumerate.__new__» ⟨[.type "enumerate",.ref l],[]⟩) (fun _ R s=>s.heap.get? l=some o∧
      R (.ok (.ret (.ref (s.heap.push { cls:=.type "tuple_iterator",data:=.fields #[.ref l,.int 0 0] }).objs.size)))
        { s with heap:=(s.heap.push { cls:=.type "tuple_iterator",data:=.fields #[.ref l,.int 0 0] }).push { cls:=.type "enumerate",data:=.fields #[.none,.bool false,.ref s.heap.objs.size,rawInt 0,.none,.none] } }) :=
  .of_wp fun prog w A R s h=>by
    obtain ⟨hp,g,d,tk,os⟩:=s
    obtain ⟨oc,od,dt,sl⟩:=o
    replace ho:oc= .type "tuple":=ho
    replace hd:dt= .seq items n:=hd
    subst ho hd
    obtain ⟨hl,h⟩:=h
    have hsub:=sub_enumerate
    have hL:Heap.IsTuple (Shared.heap ⟨hp,g,d,tk,os⟩) l items:=⟨_,hl,rfl,n,rfl⟩
    wp_walk using wpAny_loadPart' hl
    refine wpAny_stack_any fun st=>wpAny_pure ?_
    split
    · rename_i c _ _ _ _ _
      cases (c == Value.type "enumerate") <;> (wp_walk using wpAny_loadPart' hl,wpAny_pyIter_tuple hL) <;> exact ⟨_,rfl,h⟩
    · wp_walk using wpAny_loadPart' hl,wpAny_pyIter_tuple hL
      exact ⟨_,rfl,h⟩
theorem TJ {l:Addr} {items:Array Value} {Q:Value→Shared→Prop} (hL:s.heap.IsTuple l items)
    (h :∀ h',IsEnum h' (s.heap.objs.size + 1) s.heap.objs.size 0 .none→h'.IsTupleIter s.heap.objs.size l 0→h'.objs.size=s.heap.objs.size + 2→
      (∀ b o,s.heap.get? b=some o→h'.get? b=some o)→Q (.ref (s.heap.objs.size + 1)) { s with heap:=h' }) :
    wpAny (model prog w) A (call (.type "enumerate") [.ref l]) Q E s:=by
  obtain ⟨o,hl,hc,n,hd⟩:=hL
  refine callType_new F.called_enumerate (by decide) (F.typeCall_enumerate_1 _) (F.newCall_enumerate_1 _) (fun obj=>F.args_object_init_2 obj _) F.entry_enumerate_new (aDN l items o hc n hd) ⟨hl, ?_⟩
  have hz:(s.heap.push { cls:=.type "tuple_iterator",data:=.fields #[.ref l,.int 0 0] }).objs.size=s.heap.objs.size + 1:=Heap.size_push ..
  show _∧_
  rw [hz]
  have he:IsEnum ((s.heap.push { cls:=.type "tuple_iterator",data:=.fields #[.ref l,.int 0 0] }).push
      { cls:=.type "enumerate",data:=.fields #[.none,.bool false,.ref s.heap.objs.size,rawInt 0,.none,.none] }) (s.heap.objs.size + 1) s.heap.objs.size 0 .none:=by
    have:=Heap.get?_push_size (s.heap.push { cls:=.type "tuple_iterator",data:=.fields #[.ref l,.int 0 0] })
      (o:={ cls:=.type "enumerate",data:=.fields #[.none,.bool false,.ref s.heap.objs.size,rawInt 0,.none,.none] }) rfl
    rw [hz] at this; exact this
  exact ⟨⟨_,he,rfl⟩,h _ he ⟨_,Heap.get?_push_of_some _ (Heap.get?_push_size _ rfl),rfl,rfl⟩ (by rw [Heap.size_push,hz]) fun b o x=>Heap.get?_push_of_some _ (Heap.get?_push_of_some _ x)⟩
end LE
namespace L2
open PySem PySem.Spec PyProof.Rows
section
variable {X:Cx} {pins:List (Addr×Obj)} {σ:St} {H:Hp} {s:Shared} {h':Heap}
theorem Inv.turnNew {t':Nat} {ch:List Addr} {T:Addr} {u:HO} (I:Inv X pins σ H s)
    (hch:∀ b∈ch,(b∈X.ex∨X.s₀.heap.objs.size≤b)∧b≠X.env.locals∧(∀ x c,X.env.cells.lookup x=some c→c≠b)∧∀ p∈X.pn ++ pins,p.1≠b) (hn:∀ b∈ch,H b=none)
    (k:∀ b o,b∉ ch→s.heap.get? b=some o→h'.get? b=some o) (hT:s.heap.objs.size≤T) (new:cU X.prog X.w (upd H T u) h' T u):Inv X pins σ (upd H T u) { s with heap:=h',toks:=t' }:=by
  have fT:H T=none:=I.hok.fresh hT
  have nT:∀ {b o},s.heap.get? b=some o→b≠T:=fun q=>Nat.ne_of_lt (Nat.lt_of_lt_of_le (Heap.lt_size q) hT)
  have nit:∀ b u,H b=some u→b∉ ch:=fun b u e z=>by rw [hn b z] at e; cases e
  refine I.step (g':=s.gens) (d':=s.drawn) (ch:=ch) hch (fun b o _ _ hc e _=>k b o hc e) (fun b o _ _ hc e _=>⟨o.slots,k b o hc e⟩) (fun b o _ q n=>by rw [aF (nT q)]; exact n)
    (fun b o hc e=>⟨o,k b o hc e⟩) (fun b xs e=>by rw [aF (aN e fT)]; exact e) (fun b o v e=>by rw [aF (aN e fT)]; exact e) (fun b ps e=>⟨#[],by rw [aF (aN e fT),e]; simp⟩) (fun m hm=>?_) (fun b v e=>?_) I.bare
  · obtain ⟨o,es,ep,ho,r⟩:=hm
    exact ⟨o,es,ep,k _ o (fun z=>(hch _ z).2.1 rfl) ho,r⟩
  · by_cases hb:b=T
    · subst hb
      rw [aW] at e
      cases e
      exact new
    · rw [aF hb] at e
      refine (I.hok b v e).stay (fun c v hc q=>k c v ?_ q) (fun c q=>by rw [aF (aN q fT)]; exact q) fun c xs q=>by rw [aF (aN q fT)]; exact q
      rcases hc with z | z
      · rw [z]; exact nit b _ e
      · exact nit c _ z
noncomputable def Ite (K:W.Frag) (a:Addr):It :=
  ⟨fun i H=>∃ xs x,SqT K H a xs∧xs[i]? =some x,fun i H x H'=>∃ T v,x= .ref T∧H T=none∧H'=upd H T (.tup [.int i,v])∧∀ xs,SqT K H a xs→xs[i]? =some v,fun i H=>∃ xs,SqT K H a xs∧xs.length≤i⟩
theorem SO {P:Program} {w:World} {K:W.Frag} {es:List Expr} {x1} {tp:Pos} (a e it:Addr) (hei:e≠it) (hai:a≠it) (hae:a≠e) :
    LI P w K (.Tuple es x1 tp) (Ite K a) [e,it] e (fun i h=>(∃ old,IsEnum h e it ((i:Nat):Int) old)∧h.IsTupleIter it a i) where
  mem:=by simp
  obj :=fun i h st b hb=>by
    obtain ⟨⟨old,h1⟩,o,h2,c,d⟩:=st
    rcases List.mem_cons.mp hb with rfl | hb
    · exact ⟨_,h1,fun v z=>by have z':Data.fields _=Data.cell v:=z; cases z'⟩
    · have e':b=it:=by simpa using hb
      subst e'
      exact ⟨o,h2,fun v z=>by rw [d] at z; cases z⟩
  keep:=fun i h h' st k=>⟨let ⟨old,q⟩:=st.1; ⟨old,k e (by simp) _ q⟩,st.2.at fun o q=>k it (by simp) o q⟩
  item := by
    intro X hP hw hK hc i pins s σ H E I hf st hg
    subst hP hw hK
    obtain ⟨xs,x,hq,hx⟩:=hg
    obtain ⟨its,rv,p,hz⟩:=I.tuple hq
    obtain ⟨u,hu,ru⟩:=rv.get hx
    obtain ⟨⟨old,he⟩,hit⟩:=st
    have hi:i < its.toArray.size:=by
      have:=(List.getElem?_eq_some_iff.mp hu).1
      simpa using this
    have D:=LE.aGg (prog:=X.prog) (w:=X.w) (A:=X.A.in1) (I.ok.hd hc) it a hai its.toArray
    refine wpAny_pyNext_enum_itemD (A:=X.A) D he ⟨hit,(show s.heap.IsTuple a its.toArray from p)⟩ hi hei (by simp [hei,Ne.symm hae]) fun y h1 tk hy ho hs' hT hsz hk=>?_
    refine ⟨_,rfl,wpAny_letOwnedTupleGo_enum ho fun h2 he2 sb=>?_⟩
    have hy':y=u:=by
      have z:its.toArray[i]? =some u:=by simpa using hu
      exact Option.some.inj (hy.symm.trans z)
    subst hy'
    have hTe:s.heap.objs.size≠e:=Nat.ne_of_gt (Heap.lt_size he)
    have gT:h2.get? s.heap.objs.size=some { cls:=.type "tuple",data:=.seq #[.int i tk,y] }:=(sb.2 _ hTe).trans hT
    refine ⟨.ref s.heap.objs.size,upd H s.heap.objs.size (.tup [.int i,x]),I.turnNew (ch:=[e,it]) (h':=h2) (fun b hb=>?_) (fun b hb=>(hf b hb).1) (fun b o hb q=>?_) (Nat.le_refl _) ?_,rfl,⟨_,x,rfl,I.hok.fresh (Nat.le_refl _),rfl,fun ys hy=>by rw [I.tuple_inj hy hq]; exact hx⟩,⟨⟨_,by simpa using he2⟩, ?_⟩,fun b hb=>?_⟩
    · obtain ⟨f0,f1,f2,f3,f4,f5⟩:=hf b hb
      exact ⟨f3,f1,f4,f5⟩
    · simp only [List.mem_cons,List.not_mem_nil,or_false,not_or] at hb
      exact (sb.2 b hb.1).trans (hk b o hb.1 hb.2 q)
    · exact ⟨by show 2≤sizeLine; decide,[.int i tk,y],.cons ⟨tk,rfl⟩ (.cons ru .nil),gC.at gT⟩
    · exact hs'.1.at fun o q=>(sb.2 it (Ne.symm hei)).trans q
    · have hl:∀ b,b∈ [e,it]→b≠s.heap.objs.size:=fun b hb z=>by
        rcases List.mem_cons.mp hb with r | r
        · exact hTe (z▸r)
        · obtain ⟨o,q,_⟩:=hit
          have r':b=it:=by simpa using r
          have l:=Heap.lt_size q
          rw [←r',z] at l
          exact absurd l (Nat.lt_irrefl _)
      rw [aF (hl b hb)]
      exact (hf b hb).1
  done:=by
    intro X hP hw hK hc i pins s σ H E I hf st hg
    subst hP hw hK
    obtain ⟨xs,hq,hx⟩:=hg
    obtain ⟨its,rv,p,hz⟩:=I.tuple hq
    obtain ⟨⟨old,he⟩,hit⟩:=st
    obtain ⟨f0,f1,f2,f3,f4,f5⟩:=hf it (by simp)
    have hl:=rv.length
    have hx':its.toArray[i]? =none:=by simp; omega
    refine wpAny_pyNext_enum_endD (A:=X.A) (LE.aGq (prog:=X.prog) (w:=X.w) (A:=X.A.in1) (I.ok.hd hc) it a i its.toArray hx') he ⟨rfl,hit,(show s.heap.IsTuple a its.toArray from p)⟩ fun h' eb=>⟨rfl,I.turned (t':=s.toks) (fun b o hb e=>eb b o hb e) f0 f1 f3 f4 f5⟩
  self:=fun _ _ _ _ _ st h=>let ⟨_,q⟩:=st.1; wpAny_pyIter_enum q h
noncomputable def aK6 (K:W.Frag) (ta:TA):TI:=fun σ H R=>ta σ H fun vs H1=>∃ a,vs=[.ref a]∧(∃ xs,SqT K H1 a xs)∧R (Ite K a) H1
theorem aDf {es:List Expr} {x1} {tp:Pos} {e:Expr} {ta:TA} {p pos:Pos} (hg:Gl X "enumerate") (hm:X.mg "enumerate"=none) (ha:PA X [e] ta) (hs:starEach [e] X.env=[(false,eval e X.env)]:=by rfl) :
    PI X (.Tuple es x1 tp) (.Call (.Name "enumerate" p) [e] [] pos) (aK6 X.K ta):=by
  intro pins s σ H R I h
  refine Call_ (nK I hg hm boot_enumerate (PyProof.Rows.callWith_type1 (thn (ha pos pins s σ H _ I h) fun us s1 ⟨vs,H1,I1,r1,q1⟩=>?_) hs rfl))
  obtain ⟨a,e,⟨xs,hq⟩,q⟩:=q1
  subst e
  obtain ⟨u,rfl,r⟩:=lG r1
  cases r
  obtain ⟨its,rv,ht,hz⟩:=I1.tuple hq
  have ht':s1.heap.IsTuple a its.toArray:=ht
  have hl:a < s1.heap.objs.size:=let ⟨o,e,_⟩:=ht'; Heap.lt_size e
  refine LE.TJ ht' fun h' he hit hsz k=>?_
  have I2:Inv X pins σ H1 { s1 with heap:=h' }:=I1.kept (t':=s1.toks) k
  refine wpAny_pyIter_enum (s:={ s1 with heap:=h' }) he ?_
  refine ⟨s1.heap.objs.size + 1,[s1.heap.objs.size + 1,s1.heap.objs.size],_,_,H1,rfl,I2,SO a _ _ (Nat.succ_ne_self _) (Nat.ne_of_lt hl) (Nat.ne_of_lt (Nat.lt_succ_of_lt hl)),⟨⟨_,he⟩,hit⟩,fun b hb=>?_,q⟩
  have hb':s1.heap.objs.size≤b:=by
    rcases List.mem_cons.mp hb with z | z
    · rw [z]; exact Nat.le_succ _
    · have z':b=s1.heap.objs.size:=by simpa using z
      exact Nat.le_of_eq z'.symm
  exact I1.fpOk hb' (I1.hok.fresh hb')
end
section
variable {X:Cx}
theorem IxR.imp {r r':R2} (h:IxR X r) (f:∀ x y H Q,r' x y H Q→r x y H Q):IxR X r':=fun value slice pins s σ H x y v u Q I rx ry q hs=>h value slice pins s σ H x y v u Q I rx ry (f _ _ _ _ q) hs
theorem bL.imp {g:Value} {r r':List V→Hp→VK→Prop} (h:bL X g r) (f:∀ x H Q,r' x H Q→r x H Q):bL X g r':=fun pins s σ H xs us Q I rs q=>h pins s σ H xs us Q I rs (f _ _ _ q)
theorem PG.imp {e:Expr} {t t':TG} (h:PG X e t) (f:∀ v σ H Q,t' v σ H Q→t v σ H Q):PG X e t':=fun pins s σ H v u Q I r q=>h pins s σ H v u Q I r (f _ _ _ _ q)
theorem PI.imp {tg it:Expr} {t t':TI} (h:PI X tg it t) (f:∀ σ H R,t' σ H R→t σ H R):PI X tg it t':=fun pins s σ H R I q=>h pins s σ H R I (f _ _ _ q)
end
theorem aLr {n:Nat}:ixN (n + 1) 0=some 0:=by unfold ixN; rw [if_pos (by decide),if_pos (by omega)]; rfl
theorem aEq {n:Nat}:ixN (n + 2) 1=some 1:=by unfold ixN; rw [if_pos (by decide),if_pos (by omega)]; rfl
theorem aE3 {n:Nat}:ixN (n + 3) 2=some 2:=by unfold ixN; rw [if_pos (by decide),if_pos (by omega)]; rfl
theorem gR {H:Hp} {p q:Addr} {o u:HO} (h:H q=some u) (n:H p=none):upd H p o q=some u:=by rw [aF (aN h n)]; exact h
theorem cM {H:Hp} {p:Addr} (h:H p=none) (o:HO):aR H (upd H p o):=fun b u q=>gR q h
noncomputable def tyN (H:Hp):V→Option String
  | .non=>some "NoneType"
  | .bl _=>some "bool"
  | .int _=>some "int"
  | .str _=>some "str"
  | .ref a=>match H a with
    | some (.lst _)=>some "list"
    | some (.tup _)=>some "tuple"
    | some (.dK _)=>some "dict"
    | _=>none
  | _=>none
noncomputable def zM (n T:String):Bool:=n == T || (n == "bool" && T == "int")
noncomputable def pA:List String:=["int","bool","tuple","str","list","dict"]
noncomputable def aAy:List String:=["NoneType","bool","int","str","list","tuple","dict"]
theorem aFO {K:W.Frag} {H:Hp} {x:V} {n:String} (h:tyN H x=some n):sM K H x (.type n):=by
  unfold tyN at h
  split at h
  · cases h; exact .non
  · cases h; exact .bl _
  · cases h; exact .int _
  · cases h; exact .str _
  · split at h
    · rename_i e; cases h; exact .lst e
    · rename_i e; cases h; exact .tup e
    · rename_i e; cases h; exact .dK e
    · cases h
  · cases h
theorem aFP (K:W.Frag):∀ n∈aAy,∀ T∈pA,W.kitOne K (.type n) (.type T)=some (zM n T):=by
  intro n hn T hT
  simp only [aAy,pA,List.mem_cons,List.not_mem_nil,or_false] at hn hT
  rcases hn with rfl | rfl | rfl | rfl | rfl | rfl | rfl <;> rcases hT with rfl | rfl | rfl | rfl | rfl | rfl <;> rfl
theorem OpR.imp {X:Cx} {f:Value→Value→Sem Value} {r r':R2} (h:OpR X f r) (g:∀ x y H Q,r' x y H Q→r x y H Q):OpR X f r':=fun pins s σ H x y v u Q I rx ry q=>h pins s σ H x y v u Q I rx ry (g _ _ _ _ q)
theorem aNn (i:Int):(if i < 0 then -i else i)=(i.natAbs:Int):=by split <;> omega
theorem SR {X:Cx}:bL X (.builtin "abs") (fun xs H Q=>∃ i,xs=[.int i]∧Q (.int (i.natAbs:Int)) H):=WO.imp fun _ _ _ ⟨i,a,q⟩=>⟨i,a,by rw [aNn]; exact q⟩
theorem aLj:((0:Nat):Int)=0:=rfl
theorem aBg:((1:Nat):Int)=1:=rfl
theorem XC:((2:Nat):Int)=2:=rfl
theorem aIT:((3:Nat):Int)=3:=rfl
section
variable {prog:Program} {w:World} {A:Around} {R:Result→Shared→Prop} {s:Shared}
noncomputable abbrev NoE:Value→Shared→Prop:=fun _ _=>False
theorem SG {elt target iter:Expr} {ifs:List Expr} {scope:Scope} {pos:Pos} {it acc:Value} {env:Env} (I:Nat→Shared→Prop)
    (turn : ∀ n s,I n s→wpAny (model prog w) A (pyNext it) (fun r s₁=>match r with
      | none=>R (.ok .next) s₁
      | some v=>wpAny (model prog w) A (letOwnedTupleGo target it v) (fun _ s₁'=>wpAny (model prog w) A (assign target env v) (fun _ s₂ =>
          wpAny (model prog w) A (forIn ifs true fun c r=>if r=true then do let ok ←isTrue c env (eval c env); pure (ForInStep.yield ok) else pure (ForInStep.yield r)) (fun ok s₃ =>
            if ok=true then wpAny (model prog w) A (eval elt env) (fun x s₄=>wpAny (model prog w) A (call (.builtin "list.append") [acc,x]) (fun _ s₅=>∃ m,m < n∧I m s₅) NoE s₄) NoE s₃
            else ∃ m,m < n∧I m s₃) NoE s₂) NoE s₁') NoE s₁) NoE s) (n:Nat) (h:I n s) :
    codeAny (model prog w) A (.compLoop (.ListComp elt [⟨target,iter,ifs,0⟩] scope pos) 0 it acc env) R s:=by
  refine codeAny_loop rfl I (fun n s hI=>?_) n h
  refine wpAny_noted (m:=compTurn (.ListComp elt [⟨target,iter,ifs,0⟩] scope pos) 0 it acc env) ?_
  rw [compTurn_list]
  refine wpAny_bind (wpAny_standAt (wpAny_bind (wpAny_mono (turn n s hI) (fun r s₁ h₁=>?_) fun _ _ f=>f.elim)))
  cases r with
  | none=>exact wpAny_pure h₁
  | some v =>
    refine wpAny_bind (wpAny_mono h₁ (fun _ s₁' h₁'=>?_) fun _ _ f=>f.elim)
    refine wpAny_bind (wpAny_mono h₁' (fun _ s₂ h₂=>wpAny_bind (wpAny_mono h₂ (fun ok s₃ h₃=>?_) fun _ _ f=>f.elim)) fun _ _ f=>f.elim)
    cases ok with
    | false=>exact wpAny_pure ⟨rfl,h₃⟩
    | true =>
      exact wpAny_bind (wpAny_bind (wpAny_mono h₃ (fun x s₄ h₄=>wpAny_bind (wpAny_mono h₄ (fun _ s₅ h₅=>wpAny_pure (wpAny_pure ⟨rfl,h₅⟩)) fun _ _ f=>f.elim)) fun _ _ f=>f.elim))
end
noncomputable def nO (cl cells:List (Str×Addr)):List (Str×NameKind)→Prop
  | []=>True
  | (n,k) :: r=>(k= .free→∃ c,cl.lookup n=some c∧cells.lookup n=some c)∧nO cl cells r
noncomputable def zS (cells:List (Str×Addr)):List (Str×Addr)→Prop
  | []=>True
  | (n,c) :: r=>cells.lookup n=some c∧zS cells r
theorem zS.look {cells:List (Str×Addr)}:∀ {cl:List (Str×Addr)} {x:Str} {c:Addr},zS cells cl→cl.lookup x=some c→cells.lookup x=some c
  | [],_,_,_,h=>by cases h
  | (n,c') :: r,x,c,ok,h=>by
    cases hx:x == n with
    | true =>
      rw [List.lookup_cons,hx] at h
      cases h
      rw [beq_iff_eq.mp hx]; exact ok.1
    | false =>
      rw [List.lookup_cons,hx] at h
      exact zS.look ok.2 h
theorem nO.look {cl cells:List (Str×Addr)} {f:Str×NameKind→Str×NameKind} (hf:∀ y,(f y).1=y.1∧((f y).2= .cell∨(f y).2= .free→y.2= .cell∨y.2= .free)):∀ {names:List (Str×NameKind)} {x:Str},nO cl cells names→
    ((names.map f).lookup x=some .cell∨(names.map f).lookup x=some .free)→(∃ c,cl.lookup x=some c)∨(x,NameKind.cell)∈names
  | [],_,_,h=>by rcases h with h | h <;> cases h
  | (n, k) :: r,x,ok,h=>by
    have h1:=hf (n,k)
    rw [List.map_cons] at h
    cases hx:x == (f (n,k)).1 with
    | true =>
      have e:List.lookup x (f (n,k) :: r.map f)=some (f (n,k)).2:=by rw [List.lookup_cons,hx]
      rw [e] at h
      have hk:k= .cell∨k= .free:=h1.2 (h.imp Option.some.inj Option.some.inj)
      rcases hk with hk | hk
      · subst hk
        rw [beq_iff_eq.mp hx,h1.1]
        exact .inr (List.mem_cons_self ..)
      · obtain ⟨c,q,_⟩:=ok.1 hk
        rw [beq_iff_eq.mp hx,h1.1]; exact .inl ⟨c,q⟩
    | false =>
      have e:List.lookup x (f (n,k) :: r.map f)=List.lookup x (r.map f):=by rw [List.lookup_cons,hx]
      rw [e] at h
      exact (nO.look hf ok.2 h).imp_right fun z=>List.mem_cons_of_mem _ z
theorem cQ:∀ (names:List (Str×NameKind)) (n:Nat) (acc:List (Str×Addr)),cellsFrom n names acc=cellsFrom n names [] ++ acc
  | [],_,_=>rfl
  | (y,k) :: r,n,acc=>by
    unfold cellsFrom
    split
    · rw [cQ r (n + 1) ((y,n) :: acc),cQ r (n + 1) [(y,n)],List.append_assoc]; rfl
    · exact cQ r n acc
theorem dP:∀ {names:List (Str×NameKind)} {n:Nat} {acc:List (Str×Addr)} {x:Str} {c:Addr},(x,c)∈cellsFrom n names acc→(x,c)∈acc∨((x,NameKind.cell)∈names∧n≤c)
  | [],_,_,_,_,h=>.inl h
  | (y, k) :: r,n,acc,x,c,h=>by
    unfold cellsFrom at h
    split at h
    · rename_i hk
      rcases dP h with z | ⟨z,l⟩
      · rcases List.mem_cons.mp z with e | z
        · cases e; rw [beq_iff_eq.mp hk]; exact .inr ⟨List.mem_cons_self ..,Nat.le_refl _⟩
        · exact .inl z
      · exact .inr ⟨List.mem_cons_of_mem _ z,Nat.le_of_succ_le l⟩
    · rcases dP h with z | ⟨z,l⟩
      · exact .inl z
      · exact .inr ⟨List.mem_cons_of_mem _ z,l⟩
theorem iL:∀ {names:List (Str×NameKind)} {n:Nat} {acc:List (Str×Addr)} {x:Str},(x,NameKind.cell)∈names∨(∃ c,(x,c)∈acc)→∃ c,(x,c)∈cellsFrom n names acc
  | [],_,_,_,h=>by
    rcases h with h | h
    · cases h
    · exact h
  | (y, k) :: r,n,acc,x,h=>by
    unfold cellsFrom
    split
    · refine iL ?_
      rcases h with h | ⟨c,h⟩
      · rcases List.mem_cons.mp h with e | h
        · cases e; exact .inr ⟨n,List.mem_cons_self ..⟩
        · exact .inl h
      · exact .inr ⟨c,List.mem_cons_of_mem _ h⟩
    · rename_i hk
      refine iL (h.imp_left fun h=>?_)
      rcases List.mem_cons.mp h with e | h
      · cases e; exact absurd rfl hk
      · exact h
theorem FV {l:List (Str×Addr)} {x:Str}:(∃ c,(x,c)∈l)→∃ c,l.lookup x=some c:=by
  induction l with
  | nil=>rintro ⟨_,h⟩; cases h
  | cons p r ih =>
    rintro ⟨c,h⟩
    rw [List.lookup_cons]
    cases hb:x == p.1 with
    | true=>exact ⟨p.2,rfl⟩
    | false =>
      rcases List.mem_cons.mp h with e | h
      · rw [←e] at hb; rw [beq_self_eq_true] at hb; cases hb
      · exact ih ⟨c,h⟩
theorem dX {n:Nat} {names:List (Str×NameKind)} {cl:List (Str×Addr)} {x:Str} {c:Addr} (h:(cellsFrom n names cl).lookup x=some c):((x,c)∈cellsFrom n names []∧(x,NameKind.cell)∈names∧n≤c)∨cl.lookup x=some c:=by
  rw [cQ,List.lookup_append] at h
  cases e:(cellsFrom n names []).lookup x with
  | none=>rw [e] at h; exact .inr h
  | some d =>
    rw [e] at h; cases h
    have m:=PySem.mem_of_lookup e
    rcases dP m with z | z
    · cases z
    · exact .inl ⟨m,z⟩
theorem sN {n:Nat} {names:List (Str×NameKind)} {cl:List (Str×Addr)} {x:Str} {c:Addr} (hx:(x,NameKind.cell)∉ names) (h:cl.lookup x=some c):(cellsFrom n names cl).lookup x=some c:=by
  rw [cQ,List.lookup_append]
  cases e:(cellsFrom n names []).lookup x with
  | none=>exact h
  | some d =>
    rcases dP (PySem.mem_of_lookup e) with z | z
    · cases z
    · exact absurd z.1 hx
theorem BM {n:Nat} {names:List (Str×NameKind)} {cl:List (Str×Addr)} {x:Str} (h:(x,NameKind.cell)∈names):∃ c,(cellsFrom n names cl).lookup x=some c∧n≤c:=by
  obtain ⟨c,e⟩:=FV (iL (n:=n) (acc:=[]) (.inl h))
  refine ⟨c,by rw [cQ,List.lookup_append,e]; rfl, ?_⟩
  rcases dP (PySem.mem_of_lookup e) with z | z
  · cases z
  · exact z.2
noncomputable def aMb (scope:Scope) (x:Str):Bool:=scope.names.contains (x,NameKind.cell)
theorem IY {M:Model} {A:Around} {E:Value→Shared→Prop} {s:Shared} {scope:Scope} {globals:Addr} {cl:List (Str×Addr)} {qual:Str} {env:Env} {Q:Env→Shared→Prop}
    (hQ:Q (newEnv scope s.heap.objs.size globals (cellsFrom (s.heap.objs.size + 1) scope.names cl) qual none .none (some env) builtinsNs) { s with heap:=pushCells (s.heap.push { cls:=.type "dict",data:=.dict #[] }) scope.names }) :
    wpAny M A (newFunctionEnv scope globals cl [] qual none .none (some env)) Q E s:=by
  simp only [newFunctionEnv,Option.isSome_some,if_true]
  refine wpAny_bind (wpAny_alloc ?_)
  refine wpAny_bind (wpAny_layCells _ (fun name kind cells=>by cases hkc:kind == NameKind.cell <;> simp [hkc]) _ _ _ _ ?_)
  rw [show ({ s with heap:=s.heap.push { cls:=.type "dict",data:=.dict #[] } }:Shared).heap.objs.size=s.heap.objs.size + 1 from Heap.size_push ..]
  rw [List.forIn_nil]
  exact wpAny_bind (wpAny_pure (wpAny_pure hQ))
noncomputable def cxC (X:Cx) (N:List Str) (scope:Scope) (cl:List (Str×Addr)) (C:Addr) (s₀:Shared) (H₀:Hp) (ex:List Addr):Cx :=
  { X with N:=N,s₀:=s₀,H₀:=H₀,env:=compEnvC scope (cellsFrom (C + 1) scope.names cl) C X.env,outer:=X.stack,stack:=X.stack,ex:=ex,fn:=aMb scope,pn:=[],xe:=NoE }
noncomputable def UQ (js:List (Option Nat)) (σ:St):St:=js.map fun o=>match o with | none=>none | some j=>(σ[j]?).getD none
noncomputable def iC (X:Cx) (scope:Scope) (cl:List (Str×Addr)):List Str→List (Option Nat)→Prop
  | [],[]=>True
  | _ :: N,none :: J=>iC X scope cl N J
  | x :: N,some j :: J=>(X.N[j]? =some x∧X.env.kindOf x=some .cell∧(relabel scope X.env).names.lookup x=some .cell∧∃ c,cl.lookup x=some c∧X.env.cells.lookup x=some c)∧iC X scope cl N J
  | _,_=>False
theorem iC.len {X:Cx} {scope:Scope} {cl:List (Str×Addr)}:∀ {N:List Str} {J:List (Option Nat)},iC X scope cl N J→N.length=J.length
  | [],[],_=>rfl
  | _ :: _,none :: _,h=>congrArg (· + 1) (iC.len (show iC X scope cl _ _ from h))
  | _ :: _,some _ :: _,h=>congrArg (· + 1) (iC.len h.2)
  | [],_ :: _,h=>h.elim
  | _ :: _,[],h=>h.elim
theorem iC.at {X:Cx} {scope:Scope} {cl:List (Str×Addr)}:∀ {N:List Str} {J:List (Option Nat)} {i:Nat} {x:Str} {σ:St} {v:V},iC X scope cl N J→N[i]? =some x→(UQ J σ)[i]? =some (some v)→
    ∃ (j:Nat),σ[j]? =some (some v)∧X.N[j]? =some x∧X.env.kindOf x=some .cell∧(relabel scope X.env).names.lookup x=some .cell∧∃ c,cl.lookup x=some c∧X.env.cells.lookup x=some c
  | [],[],_,_,_,_,_,h,_=>by cases h
  | y :: N,none :: J,i,x,σ,v,ok,h,q=>by
    cases i with
    | zero=>cases q
    | succ i=>exact iC.at (show iC X scope cl N J from ok) h q
  | y :: N,some j :: J,i,x,σ,v,ok,h,q=>by
    cases i with
    | zero =>
      cases h
      refine ⟨j, ?_,ok.1⟩
      have q':some ((σ[j]?).getD none)=some (some v):=q
      have q2:=Option.some.inj q'
      cases e:σ[j]? with
      | none=>rw [e] at q2; cases q2
      | some o=>rw [e] at q2; exact congrArg some q2
    | succ i=>exact iC.at ok.2 h q
  | [],_ :: _,_,_,_,_,ok,_,_=>ok.elim
  | _ :: _,[],_,_,_,_,ok,_,_=>ok.elim
section
variable {X:Cx} {pins:List (Addr×Obj)} {σ:St} {H:Hp} {s:Shared} {N:List Str} {scope:Scope} {cl:List (Str×Addr)} {js:List (Option Nat)} {fp:List Addr}
structure kK (X:Cx) (N:List Str) (scope:Scope) (cl:List (Str×Addr)) (js:List (Option Nat)):Prop where
  clos:closureFor scope X.env=pure cl
  own:∀ x,(x,NameKind.cell)∈scope.names→cl.lookup x=none
  kind:scope.kind= .function
  names:∀ y∈scope.names,y.2= .local→scope.names.lookup y.1=some .local
  free:nO cl X.env.cells scope.names
  cls:zS X.env.cells cl
  cap:iC X scope cl N js
theorem HC (S:kK X N scope cl js) (I:Inv X pins σ H s) (hf:∀ b∈fp,zP X pins H b) (he:∀ b∈fp,b < s.heap.objs.size) {h':Heap} {m:Str→Option Value} {t':Nat} (hn:h'.Ns s.heap.objs.size m)
    (k:∀ b o,s.heap.get? b=some o→h'.get? b=some o) (hc:CellsOk h' (s.heap.objs.size + 1) (cellsFrom (s.heap.objs.size + 1) scope.names [])):Inv (cxC X N scope cl s.heap.objs.size s H fp) [] (UQ js σ) H { s with heap:=h',toks:=t' }:=by
  have hcl:∀ x c,cl.lookup x=some c→X.env.cells.lookup x=some c:=fun x c h=>S.cls.look h
  have lo:∀ x c,cl.lookup x=some c→c < s.heap.objs.size:=fun x c h=>let ⟨_,q⟩:=I.cell x c (hcl x c h); q.lt
  refine ⟨⟨I.mod, ?_,I.ok.glob,I.ok.blt,Nat.le_refl _,fun x y c a b=>?_,fun x hx=>?_,fun x c z e=>?_,I.ok.hd,I.ok.frames,.inl rfl,fun b hb=>⟨Nat.ne_of_lt (he b hb),fun x c e=>?_⟩,
    I.bs,Nat.le_trans I.ok.bsz I.sz,fun b o e hb=>?_,fun b hb z=>?_,I.stack,I.stkFree⟩,rfl,I.bare,⟨fun b o q _ _ _=>k b o q,fun b o q _ _ _=>⟨o.slots,k b o q⟩,fun _ _ _ n _=>n,fun b o q _=>⟨o,k b o q⟩,fun _ _ q=>q,fun _ _ _ q=>q,fun b ps q=>⟨#[],by rw [show H b=_ from q]; simp⟩⟩, ?_,fun x c e=>?_, ?_,fun x c e=>?_,(fun p hp=>nomatch hp),I.hok.kept k, ?_⟩
  · exact S.kind
  · rcases dX a with ⟨m1,_,l1⟩ | a1 <;> rcases dX b with ⟨m2,_,l2⟩ | b1
    · exact name_of_addr hc.apart m1 m2
    · exact absurd (Nat.lt_of_lt_of_le (lo y c b1) (Nat.le_of_succ_le l1)) (Nat.lt_irrefl _)
    · exact absurd (Nat.lt_of_lt_of_le (lo x c a1) (Nat.le_of_succ_le l2)) (Nat.lt_irrefl _)
    · exact I.ok.inj x y c (hcl x c a1) (hcl y c b1)
  · have q:=nO.look (f:=fun y=>if (y.2 == .free && X.env.scope.kind == .function && X.env.kindOf y.1 == some .cell) then (y.1,.cell) else (y.1,y.2)) (fun y=>by
      by_cases hc:(y.2 == .free && X.env.scope.kind == .function && X.env.kindOf y.1 == some .cell)=true
      · rw [if_pos hc]
        refine ⟨rfl,fun _=>.inr ?_⟩
        rw [Bool.and_eq_true,Bool.and_eq_true] at hc
        exact beq_iff_eq.mp hc.1.1
      · rw [if_neg hc]
        exact ⟨rfl,fun z=>z⟩) S.free hx
    rcases q with ⟨c,q⟩ | q
    · refine ⟨c,sN (fun z=>?_) q⟩
      rw [S.own x z] at q; cases q
    · obtain ⟨c,e,_⟩:=BM (n:=s.heap.objs.size + 1) (cl:=cl) q
      exact ⟨c,e⟩
  · have z':(x,NameKind.cell)∈scope.names:=List.contains_iff_mem.mp z
    rcases dX e with ⟨_,_,l⟩ | q
    · exact Nat.le_of_succ_le l
    · rw [S.own x z'] at q; cases q
  · rcases dX e with ⟨_,_,l⟩ | q
    · exact Nat.ne_of_gt (Nat.lt_of_lt_of_le (he b hb) (Nat.le_of_succ_le l))
    · exact (hf b hb).2.2.2.2.1 x c (hcl x c q)
  · obtain ⟨_,n2⟩:=I.bs b o e
    rcases (hf b hb).2.2.2.1 with z | z
    · exact I.ok.noex b o e z
    · exact absurd (Nat.lt_of_lt_of_le (Heap.lt_size (I.ok.bs b o e).1) z) (Nat.lt_irrefl _)
  · obtain ⟨_,f1,f2,_⟩:=hf b hb
    exact (List.mem_cons.mp (I.stkSub b z)).elim f1 f2
  · obtain ⟨mX,hnX,hl⟩:=I.loc
    refine ⟨m,hn,fun i x v e1 e2 e3=>?_⟩
    obtain ⟨j,q1,q2,q3,q4,c,q5,q6⟩:=S.cap.at e1 e2
    obtain ⟨u,r,l⟩:=hl j x v q2 q1 (.inr (.inl q3))
    refine ⟨u,r,.inr ⟨.inl q4,c,sN (fun z=>?_) q5, ?_⟩⟩
    · rw [S.own x z] at q5; cases q5
    rcases l with ⟨l,_⟩ | ⟨_,c',e',z⟩
    · rw [q3] at l; cases l
    · rw [q6] at e'; cases e'
      obtain ⟨o,ho,hd⟩:=z
      exact ⟨o,k _ _ ho,hd⟩
  · rcases dX e with ⟨m1,_,_⟩ | q
    · exact ⟨none,(hc.empty x c m1).1⟩
    · obtain ⟨v,o,ho,hd⟩:=I.cell x c (hcl x c q)
      exact ⟨v,o,k _ _ ho,hd⟩
  · exact I.hok.fresh (Nat.le_refl _)
  · rcases dX e with ⟨_,_,l⟩ | q
    · exact I.hok.fresh (Nat.le_of_succ_le l)
    · exact I.freeC x c (hcl x c q)
  · show (js.map _).length=N.length
    rw [List.length_map]; exact S.cap.len.symm
end
noncomputable def PTs (X:Cx) (ifs:List Expr) (t:TT):Prop :=
  ∀ (pins:List (Addr×Obj)) (s:Shared) (σ:St) (H:Hp) (Q:Bool→Hp→Prop),Inv X pins σ H s→t σ H Q→
    wpAny (model X.prog X.w) X.A (forIn ifs true fun c r=>if r=true then do let ok ←isTrue c X.env (eval c X.env); pure (ForInStep.yield ok) else pure (ForInStep.yield r)) (TP X pins σ Q) X.xe s
theorem aCl {X:Cx}:PTs X [] (fun _ H Q=>Q true H):=fun pins s σ H Q I h=>wpAny_tests_nil ⟨H,I,h⟩
theorem aCu {X:Cx} {c:Expr} {t:TT} (h:PT X c t):PTs X [c] t:=fun pins s σ H Q I q=>wpAny_tests_one (h pins s σ H Q I q)
noncomputable def XI (J:It) (D:Addr) (g:TG) (ts:TT) (te:TE) (Q:VK) (σ:St) (H:Hp):Prop:= ∃ W:Nat→Nat→St→Hp→Prop,(∃ m,W 0 m σ H)∧∀ i m σ' H',W i m σ' H'→
  (J.stop i H'∧Q (.ref D) H')∨(J.go i H'∧∃ N:St→Hp→Prop,(∀ σ2 H2,N σ2 H2→∃ m',m' < m∧W (i + 1) m' σ2 H2)∧∀ x H2,J.yld i H' x H2→g x σ' H2 fun σ3 H3=>ts σ3 H3 fun ok H4=>if ok=true then te σ3 H4 fun y H5 =>
    ∃ ys,H5 D=some (.lst ys)∧ys.length < sizeLine∧N σ3 (upd H5 D (.lst (ys ++ [y]))) else N σ3 H4)
noncomputable def aA4 (wi:TI) (g:TG) (ts:TT) (te:TE) (js:List (Option Nat)):TE:=fun σ H Q=>wi σ H fun J H1=>∀ D,H1 D=none→XI J D g ts te Q (UQ js σ) (upd H1 D (.lst []))
section
variable {X:Cx} {pins:List (Addr×Obj)} {σ:St} {H:Hp} {s:Shared} {N:List Str} {scope:Scope} {cl:List (Str×Addr)} {js:List (Option Nat)} {fp:List Addr} {tg elt iter:Expr} {ifs:List Expr} {pos:Pos} {J:It} {it:Addr} {tn:Nat→Heap→Prop}
  {g:TG} {ts:TT} {te:TE}
structure aGJ (X:Cx) (pins:List (Addr×Obj)) (σ:St) (Q:VK) (D C:Addr) (s':Shared):Prop where
  ex:∃ H' m,Inv X pins σ H' s'∧s'.heap.Ns C m∧H' C=none∧C≠X.env.locals∧C∉ X.fs∧X.s₀.heap.objs.size≤C∧(∀ x c,X.env.cells.lookup x=some c→c≠C)∧(∀ p∈X.pn ++ pins,p.1≠C)∧Q (.ref D) H'
theorem HY (S:kK X N scope cl js) (hc:X.calm=true) (I:Inv X pins σ H s) (T:LI X.prog X.w X.K tg J fp it tn) (st:tn 0 s.heap) (hf:∀ b∈fp,zP X pins H b)
    (hg:∀ C s₀ H₀ ex,PG (cxC X N scope cl C s₀ H₀ ex) tg g) (ht:∀ C s₀ H₀ ex,PTs (cxC X N scope cl C s₀ H₀ ex) ifs ts) (he:∀ C s₀ H₀ ex,PE (cxC X N scope cl C s₀ H₀ ex) elt te) {Q:VK}
    (q:∀ D,H D=none→XI J D g ts te Q (UQ js σ) (upd H D (.lst [])))
    {RR:Value→Addr→Result→Shared→Prop} (hR:∀ D C s',aGJ X pins σ Q D C s'→RR (.ref D) C (.ok .next) s') {E:Value→Shared→Prop} :
    wpAny (model X.prog X.w) X.A (newList []) (fun acc s₃=>wpAny (model X.prog X.w) X.A (newFunctionEnv scope X.env.globals cl [] X.env.qual none .none (some X.env)) (fun cenv s₄ =>
      codeAny (model X.prog X.w) X.A (.compStart (.ListComp elt [⟨tg,iter,ifs,0⟩] scope pos) 0 (.ref it) acc { cenv with scope:=relabel scope X.env }) (RR acc cenv.locals) s₄) E s₃) E s:=by
  refine wpAny_newObj_type (IY ?_)
  have fD:H s.heap.objs.size=none:=I.hok.fresh (Nat.le_refl _)
  have I3:Inv X pins σ (upd H s.heap.objs.size (.lst [])) { s with heap:=s.heap.push { cls:=.type "list",dict:=none,data:=.seq ([]:List Value).toArray },toks:=s.toks } :=
    I.laid (t':=s.toks) (fun b u e=>Heap.get?_push_of_some _ e) (Nat.le_refl _) ⟨Nat.zero_le _,[],0,.nil,Heap.get?_push_size _ rfl⟩
  have lt:∀ b∈fp,b < s.heap.objs.size:=fun b hb=>let ⟨o,e,_⟩:=T.obj _ _ st b hb; Heap.lt_size e
  have hf3:∀ b∈fp,zP X pins (upd H s.heap.objs.size (.lst [])) b:=fun b hb=>⟨by rw [aF (Nat.ne_of_lt (lt b hb))]; exact (hf b hb).1,(hf b hb).2⟩
  dsimp only
  generalize hH2:s.heap.push { cls:=.type "list",dict:=none,data:=.seq ([]:List Value).toArray }=H2 at I3 ⊢
  have hns₁:(pushCells (H2.push { cls:=.type "dict",data:=.dict #[] }) scope.names).Ns H2.objs.size (fun _=>none):=(Heap.Ns.new H2 (.type "dict")).keeps (pushCells_keeps _ _)
  have hco:CellsOk (pushCells (H2.push { cls:=.type "dict",data:=.dict #[] }) scope.names) (H2.objs.size + 1) (cellsFrom (H2.objs.size + 1) scope.names []):=by
    have ok:=cellsFrom_ok scope.names (H2.push { cls:=.type "dict",data:=.dict #[] }) (H2.objs.size + 1) [] ⟨fun _ _ hm=>(nomatch hm),List.Pairwise.nil⟩ (by rw [Heap.size_push]; exact Nat.le_refl _)
    rw [Heap.size_push] at ok
    exact ok
  have keep:∀ b o,H2.get? b=some o→(pushCells (H2.push { cls:=.type "dict",data:=.dict #[] }) scope.names).get? b=some o:=fun b o e=>pushCells_keeps _ _ b o (Heap.get?_push_of_some _ e)
  generalize pushCells (H2.push { cls:=.type "dict",data:=.dict #[] }) scope.names=h₁ at hns₁ hco keep ⊢
  have hC:H2.objs.size=s.heap.objs.size + 1:=by rw [←hH2,Heap.size_push]
  have Ic:=HC (t':=s.toks) S I3 hf3 (fun b hb=>by show b < H2.objs.size; rw [hC]; exact Nat.lt_succ_of_lt (lt b hb)) hns₁ keep hco
  obtain ⟨W,⟨m0,w0⟩,turn⟩:=q _ fD
  have stat:∀ {H':Hp},(∀ b∈fp,H' b=none)→∀ b∈fp,zP (cxC X N scope cl H2.objs.size { s with heap:=H2,toks:=s.toks } (upd H s.heap.objs.size (.lst [])) fp) [] H' b:=fun hn b hb =>
    ⟨hn b hb,Nat.ne_of_lt (by rw [hC]; exact Nat.lt_succ_of_lt (lt b hb)),fun z=>(List.mem_cons.mp (I.stkSub b z)).elim (hf b hb).2.1 (hf b hb).2.2.1,.inl hb,fun x c e=>(dX e).elim (fun z=>Nat.ne_of_gt (Nat.lt_of_lt_of_le (lt b hb) (Nat.le_trans (by rw [hC]; omega) z.2.2))) fun q=>(hf b hb).2.2.2.2.1 x c (S.cls.look q),(fun p hp=>nomatch hp)⟩
  have st1:tn 0 h₁:=T.keep _ _ _ st fun b hb o e=>keep b o (by rw [←hH2]; exact Heap.get?_push_of_some _ e)
  have loop:codeAny (model X.prog X.w) X.A (.compLoop (.ListComp elt [⟨tg,iter,ifs,0⟩] scope pos) 0 (.ref it) (.ref s.heap.objs.size) (compEnvC scope (cellsFrom (H2.objs.size + 1) scope.names cl) H2.objs.size X.env)) (RR (.ref s.heap.objs.size) H2.objs.size)
      { s with heap:=h₁,toks:=s.toks }:=by
    refine SG (fun n s'=>∃ i σ' H',Inv (cxC X N scope cl H2.objs.size { s with heap:=H2,toks:=s.toks } (upd H s.heap.objs.size (.lst [])) fp) [] σ' H' s'∧tn i s'.heap∧(∀ b∈fp,H' b=none)∧W i n σ' H') ?_ m0
      ⟨0,_,_,Ic,st1,fun b hb=>(hf3 b hb).1,w0⟩
    rintro n s3 ⟨i,σ3,H3,I3',st3,fr3,w3⟩
    rcases turn i n σ3 H3 w3 with ⟨stop,qn⟩ | ⟨go,Nx,hN,step⟩
    · refine thn (T.done (cxC X N scope cl H2.objs.size { s with heap:=H2,toks:=s.toks } (upd H s.heap.objs.size (.lst [])) fp) rfl rfl rfl hc i [] s3 σ3 H3 NoE I3' (stat fr3) st3 stop) fun r s4 ⟨hr,I4⟩=>?_
      subst hr
      obtain ⟨mC,hnC,_⟩:=I4.loc
      have IX:Inv X pins σ H3 s4:=I3.call' (ch:=fp) I4.os I4.base I4.hok I4.bare fun b hb=>by
        obtain ⟨_,f1,_,f3,f4,f5⟩:=hf3 b hb
        exact ⟨f3,f1,f4,f5⟩
      have up:s.heap.objs.size≤H2.objs.size:=by rw [hC]; exact Nat.le_succ _
      have fp0:=I.fpOk (H':=H3) up I4.free
      exact hR _ _ s4 ⟨⟨H3,mC,IX,hnC,I4.free,fp0.2.1,fp0.2.2.1,Nat.le_trans I.sz up,fp0.2.2.2.2.1,fp0.2.2.2.2.2,qn⟩⟩
    · refine thn (T.item (cxC X N scope cl H2.objs.size { s with heap:=H2,toks:=s.toks } (upd H s.heap.objs.size (.lst [])) fp) rfl rfl rfl hc i [] s3 σ3 H3 NoE I3' (stat fr3) st3 go) fun r s4 ⟨u,hr,h4⟩=>?_
      subst hr
      refine thn h4 fun _ s5 ⟨x,H5,I5,r5,y5,st5,fr5⟩=>?_
      have I5':=I5.pinned (stat fr5) (T.obj _ _ st5)
      refine thn (hg _ _ _ _ _ s5 σ3 H5 x u _ I5' r5 (step x H5 y5)) fun _ s6 ⟨σ6,H6,I6,q6⟩=>?_
      refine thn (ht _ _ _ _ _ s6 σ6 H6 _ I6 q6) fun ok s7 ⟨H7,I7,q7⟩=>?_
      have again:∀ {σ8:St} {H8:Hp} {s8:Shared},Inv (cxC X N scope cl H2.objs.size { s with heap:=H2,toks:=s.toks } (upd H s.heap.objs.size (.lst [])) fp) ([] ++ xI fp s5.heap) σ8 H8 s8→Nx σ8 H8→
          ∃ m,m < n∧∃ i σ' H',Inv (cxC X N scope cl H2.objs.size { s with heap:=H2,toks:=s.toks } (upd H s.heap.objs.size (.lst [])) fp) [] σ' H' s8∧tn i s8.heap∧(∀ b∈fp,H' b=none)∧W i m σ' H':=fun {σ8 H8 s8} I8 n8=>by
        obtain ⟨m',hm,w8⟩:=hN σ8 H8 n8
        refine ⟨m',hm,i + 1,σ8,H8,I8.unpinned,T.keep _ _ _ st5 fun b hb o e=>(I8.pin (b,o) (List.mem_append_right _ (List.mem_append_right _ (jX hb e)))).1,fun b hb=>?_,w8⟩
        obtain ⟨o,e,d⟩:=T.obj _ _ st5 b hb
        exact (I8.pin (b,o) (List.mem_append_right _ (List.mem_append_right _ (jX hb e)))).2.1
      cases ok with
      | false=>exact again I7 q7
      | true =>
        refine thn (he _ _ _ _ _ s7 σ6 H7 _ I7 q7) fun v s8 ⟨y,H8,I8,r8,ys,e8,l8,q8⟩=>?_
        exact thn (RD _ s8 σ6 H8 (.ref s.heap.objs.size) [y] (.ref s.heap.objs.size) [v] (fun _ H9=>Nx σ6 H9) I8 rfl (.cons r8 .nil) ⟨_,ys,y,rfl,rfl,e8,l8,q8⟩) fun _ s9 ⟨_,H9,I9,_,q9⟩=>again I9 q9
  exact codeAny_compStart_list loop (T.self _ 0 _ _ _ st1 loop)
theorem aDK {wi:TI} (S:kK X N scope cl js) (hc:X.calm=true) (hi:PI X tg iter wi) (hg:∀ C s₀ H₀ ex,PG (cxC X N scope cl C s₀ H₀ ex) tg g) (ht:∀ C s₀ H₀ ex,PTs (cxC X N scope cl C s₀ H₀ ex) ifs ts) (he:∀ C s₀ H₀ ex,PE (cxC X N scope cl C s₀ H₀ ex) elt te)
    (hs:∀ x,foldedSetIterable iter X.env x=pure x:=by intro _; rfl):PE X (.ListComp elt [⟨tg,iter,ifs,0⟩] scope pos) (aA4 wi g ts te js):=by
  intro pins s σ H Q I h
  rw [eval_ListComp]
  refine wpAny_comprehension_free (use:=none) (g:=⟨tg,iter,ifs,0⟩) (gs:=[]) rfl hs S.clos S.kind S.names (thn (hi pins s σ H _ I h) fun v s1 h1=>thn h1 fun itv s2 h2=>?_)
  obtain ⟨it,fp,tn,J,H2,e,I2,T,st2,f2,q⟩:=h2
  subst e
  refine HY (RR:=fun acc C=>compPost (model X.prog X.w) X.A X.xe none (EP X pins σ Q) acc C) S hc I2 T st2 f2 hg ht he q ?_
  rintro D C s' ⟨H',m,I',hn,f0,f1,_,f3,f4,f5,q'⟩
  exact ⟨m,hn,fun h' sb=>⟨.ref D,H',I'.turned (t':=s'.toks) (fun b o hb e=>(sb.2 b hb).trans e) f0 f1 (.inr f3) f4 f5,rfl,q'⟩⟩
theorem aDG {wi:TI} {i:Nat} {y:Str} {py spos:Pos} (S:kK X N scope cl js) (hc:X.calm=true) (hN:X.N.Nodup) (hi':X.N[i]? =some y) (hy:X.env.scope.names.lookup y=some .local) (hi:PI X tg iter wi)
    (hg:∀ C s₀ H₀ ex,PG (cxC X N scope cl C s₀ H₀ ex) tg g) (ht:∀ C s₀ H₀ ex,PTs (cxC X N scope cl C s₀ H₀ ex) ifs ts) (he:∀ C s₀ H₀ ex,PE (cxC X N scope cl C s₀ H₀ ex) elt te)
    (hsw:swapsWith (.ListComp elt [⟨tg,iter,ifs,0⟩] scope pos) (some (.Name y py)) spos.line X.env=pure true:=by rfl)
    (hs:∀ x,foldedSetIterable iter X.env x=pure x:=by intro _; rfl):PS X (.Assign [.Name y py] (.ListComp elt [⟨tg,iter,ifs,0⟩] scope pos) spos) (aHm (aA4 wi g ts te js) (UP i)):=by
  intro pins s σ H D' I h
  rw [exec_Assign_Name_used _ _ _ _ hsw]
  refine wpAny_bind (wpAny_standAt (wpAny_bind ?_))
  show wpAny _ X.A (do let _ ←comprehension (.ListComp elt [⟨tg,iter,ifs,0⟩] scope pos) scope X.env _ (newList []) false (eval iter X.env) (some (assign (.Name y py) X.env))) _ _ s
  refine wpAny_bind (wpAny_mono (wpAny_comprehension_free (use:=some (assign (.Name y py) X.env)) (g:=⟨tg,iter,ifs,0⟩) (gs:=[]) (Q:=fun _ s'=>SP X pins D' .next s') rfl hs S.clos S.kind S.names
    (thn (hi pins s σ H _ I h) fun v s1 h1=>thn h1 fun itv s2 h2=>?_)) (fun _ s' hq=>wpAny_pure (wpAny_pure hq)) fun _ _ e=>e)
  obtain ⟨it,fp,tn,J,H2,e,I2,T,st2,f2,q⟩:=h2
  subst e
  refine HY (Q:=fun x H1=>UP i x σ H1 D'.nx) (RR:=fun acc C=>compPost (model X.prog X.w) X.A X.xe (some (assign (.Name y py) X.env)) (fun _ s'=>SP X pins D' .next s') acc C) S hc I2 T st2 f2 hg ht he q ?_
  rintro D C s' ⟨H',m,I',hn,f0,f1,f2',f3,f4,f5,q'⟩
  obtain ⟨oC,es,ep,hoC,hdC,hrC⟩:=hn
  have Ip:Inv X (pins ++ [(C,oC)]) σ H' s':=I'.pins_of fun p hp=>(List.mem_append.mp hp).elim (fun z=>I'.pin p (List.mem_append_right _ z)) fun z=>by
    rw [List.mem_singleton.mp z]
    exact ⟨hoC,f0,f1,f2',fun v z=>by rw [hdC] at z; cases z⟩
  show wpAny _ X.A (assign (.Name y py) X.env (.ref D)) _ _ _
  refine thn (OI (i:=i) hN hi' (.inl hy) (.inr hy) _ s' σ H' (.ref D) (.ref D) _ Ip rfl q') fun _ s'' ⟨σ',H'',I'',q''⟩=>?_
  have pc:=I''.pin (C,oC) (List.mem_append_right _ (List.mem_append_right _ (List.mem_singleton.mpr rfl)))
  refine ⟨m,⟨oC,es,ep,pc.1,hdC,hrC⟩,fun h' sb=>⟨σ',H'', ?_,q''⟩⟩
  exact (I''.unpinned).turned (t':=s''.toks) (fun b o hb e=>(sb.2 b hb).trans e) pc.2.1 f1 (.inr f3) f4 f5
end
mutual
inductive RdD (H:Hp):V→PyData→Prop
  | non:RdD H .non .none
  | bl (b:Bool):RdD H (.bl b) (.bool b)
  | int (i:Int):RdD H (.int i) (.int i)
  | str (x:Str):RdD H (.str x) (.str x)
  | tup {a:Addr} {xs:List V} {ds:List PyData}:H a=some (.tup xs)→RdDs H xs ds→RdD H (.ref a) (.tuple ds)
  | lst {a:Addr} {xs:List V} {ds:List PyData}:H a=some (.lst xs)→RdDs H xs ds→RdD H (.ref a) (.list ds)
inductive RdDs (H:Hp):List V→List PyData→Prop
  | nil:RdDs H [] []
  | cons {x:V} {xs:List V} {d:PyData} {ds:List PyData}:RdD H x d→RdDs H xs ds→RdDs H (x :: xs) (d :: ds)
end
section
variable {P:Program} {w:World} {H H':Hp} {h:Heap}
mutual
theorem RdD.reads (ok:HOk P w H h):∀ {x:V} {d:PyData} {u:Value},RdD H x d→aL x u→∃ as,Reads h u d as
  | _,_,_,.non,r=>⟨[],by cases r; exact .none⟩
  | _,_,_,.bl b,r=>⟨[],by cases r; exact .bool b⟩
  | _,_,_,.int i,r=>⟨[],by obtain ⟨t,rfl⟩:=r; exact .int i t⟩
  | _,_,_,.str x,r=>⟨[],by obtain ⟨t,rfl⟩:=r; exact .str x t⟩
  | _,_,_,.tup e rs,r=>by
    cases r
    obtain ⟨_,its,rv,⟨o,ho,hc,n,hd⟩,_⟩:=ok _ _ e
    obtain ⟨as,q⟩:=RdDs.reads ok rs rv
    exact ⟨as,.tuple ho hc hd (by simpa using q)⟩
  | _,_,_,.lst e rs,r=>by
    cases r
    obtain ⟨_,its,n,rv,ho⟩:=ok _ _ e
    obtain ⟨as,q⟩:=RdDs.reads ok rs rv
    exact ⟨_ :: as,.list ho rfl rfl (by simpa using q)⟩
theorem RdDs.reads (ok:HOk P w H h):∀ {xs:List V} {ds:List PyData} {us:List Value},RdDs H xs ds→aG xs us→∃ as,ReadsAll h us ds as
  | _,_,_,.nil,r=>⟨[],by cases r; exact .nil⟩
  | _, _,_,.cons a b,r=>by
    cases r with
    | cons r1 r2 =>
      obtain ⟨as,q⟩:=RdD.reads ok a r1
      obtain ⟨bs,q2⟩:=RdDs.reads ok b r2
      exact ⟨as ++ bs,.cons q q2⟩
end
mutual
theorem RdD.same (s:aR H H'):∀ {x:V} {d:PyData},RdD H x d→RdD H' x d
  | _,_,.non=>.non
  | _,_,.bl b=>.bl b
  | _,_,.int i=>.int i
  | _,_,.str x=>.str x
  | _,_,.tup e rs=>.tup (s _ _ e) (RdDs.same s rs)
  | _,_,.lst e rs=>.lst (s _ _ e) (RdDs.same s rs)
theorem RdDs.same (s:aR H H'):∀ {xs:List V} {ds:List PyData},RdDs H xs ds→RdDs H' xs ds
  | _,_,.nil=>.nil
  | _,_,.cons a b=>.cons (RdD.same s a) (RdDs.same s b)
end
end
section
variable {X:Cx}
end
section
variable {X:Cx} {CX:CXT} {k:Nat} {f C:Addr} {fd:FuncData} {ps ks:List Str} {sp:Sp} {E:XK} {pins:List (Addr×Obj)} {σ:St} {H:Hp} {s:Shared} {Q:VK} {us:List Value} {vs:List V} {dvs:List V} {ds:List Value}
theorem aH4 {A':Around} (F:cJ X.prog X.w X.K X.mg X.base CX k f fd ps sp) (hr:bS k A') (e0:uR X.prog X.w X.K X.mg X.base A' X.stack s H) (hb:aE X.K fd ps ds) (hd:aG dvs ds) (hx:sJ CX X E)
    (I:Inv X pins σ H s) (r:aG vs us) (h:sp (vs ++ dvs) H Q E):wpAny (model X.prog X.w) A' (call (.ref f) us) (EP X pins σ Q) X.xe s:=by
  have r2:aG (vs ++ dvs) (us ++ ds):=r.append hd
  have hl:(us ++ ds).length=ps.length:=by rw [←r2.length]; exact F.len _ _ _ _ h
  refine wpAny_call (codeAny_mono (F.run A' X.stack s H ⟨us,[]⟩ (us ++ ds) (vs ++ dvs) Q E hr e0 (hb s us I.kIn hl) r2 h) fun r s' hq=>?_)
  cases r with
  | error e=>exact hx pins σ H s e s' I hq
  | ok fl =>
    cases fl with
    | ret u=>exact I.after hq
    | next=>exact False.elim hq
    | brk=>exact False.elim hq
    | cont=>exact False.elim hq
end
structure aB9 (K:W.Frag) (C:Addr):Prop where
  cl:Cls K C
  ha:W.findIn K (.ref C) "__class__"=some (some (.builtin "object.__class__"))
  hn:W.specialIn K (.builtin "object.__class__") "__get__"=some (some (.builtin "getset_descriptor.__get__"))
  htk:W.takesIn K (.builtin "object.__class__")=some true
  hm:W.mroIn K C (.type "object")=some true
theorem NV {X:Cx} {pins:List (Addr×Obj)} {σ:St} {H:Hp} {s:Shared} {p C dx:Addr} {fs:List (Str×V)} (I:Inv X pins σ H s) (e:H p=some (.ins C dx fs)):∃ od,W.InstAt s.heap p (W.instObj C dx) C (some od):=by
  obtain ⟨mA,O,_⟩:=vA I.hok e
  obtain ⟨od,J,_⟩:=O.look
  exact ⟨od,J⟩
section
variable {X:Cx} {CX:CXT} {k:Nat} {f C:Addr} {fd:FuncData} {sp:Sp}
end
section
variable {X:Cx} {e:Expr} {es:List Expr} {te:TE} {pos:Pos}
end
end L2
namespace LE
open PySem PyProof.Rows
open AutoSeq1 (wpAny_loadPart')
theorem SZ (l:Addr) (o:Obj) (items:Array Value) (n:Nat) (hc:o.cls= .type "tuple") (hd:o.data= .seq items n) (k:Int) (u:Tok) (h1:¬(decide (k < -(2 ^ 63)) || decide (k ≥ 2 ^ 63))=true) (h2:¬(items.isEmpty || k == 1)=true) (h3:¬(decide (k≤0) || items.isEmpty)=true)
    (h4:¬(items.size * k > (2 ^ 63 - 1) / 8)) (h5:¬Builtin.Tuple.tupleTooMany (items.size * k)=true) (h6:(List.foldl (fun x1 x2=>x1 ++ x2) #[] (List.replicate k.toNat items)).size≤sizeLine) :
    Meets (Builtin.«tuple.__mul__» ⟨[.ref l,.int k u],[]⟩) (fun _ R s=>s.heap.get? l=some o∧
      R (.ok (.ret (.ref s.heap.objs.size))) { s with heap:=s.heap.push { cls:=.type "tuple",data:=.seq (List.foldl (fun x1 x2=>x1 ++ x2) #[] (List.replicate k.toNat items)) } }) :=
  .of_wp fun prog w A R s h=>by
    obtain ⟨hp,g,d,tk,os⟩:=s
    obtain ⟨oc,od,dt,sl⟩:=o
    replace hc:oc= .type "tuple":=hc
    replace hd:dt= .seq items n:=hd
    subst hc hd
    obtain ⟨hl,h⟩:=h
    wp_walk using wpAny_loadPart' hl
    rw [if_neg h1]
    wp_walk using wpAny_loadPart' hl
    rw [if_neg h4]
    dsimp only
    rw [if_neg h5]
    wp_walk
    exact ⟨_,rfl,h⟩
theorem lX (a:Int) (t:Tok) (l:Addr) (o:Obj) (hc:o.cls= .type "tuple") {items:Array Value} {n:Nat} (hd:o.data= .seq items n) :
    Meets (Builtin.«int.__rmul__» ⟨[.int a t,.ref l],[]⟩) (fun _ R s=>s.heap.get? l=some o∧R (.ok (.ret Value.notImplemented)) s) :=
  .of_wp fun prog w A R s h=>by
    obtain ⟨hp,g,d,tk,os⟩:=s
    obtain ⟨oc,od,dt,sl⟩:=o
    replace hc:oc= .type "tuple":=hc
    replace hd:dt= .seq items n:=hd
    subst hc hd
    obtain ⟨hl,h⟩:=h
    wp_walk
    exact ⟨_,rfl,h⟩
theorem jF:fillsNumberSlot (.type "tuple") "mul"=pure false :=
  PySem.fillsNumberSlot_seq (id:="tuple.__mul__") (r:=some (.builtin "tuple.__rmul__")) F.slot_tuple_mul.lookup (by decide +kernel) F.slot_tuple_rmul.lookup (by decide +kernel)
theorem pX:seqRepeat? (.type "tuple")=pure (some (.builtin "tuple.__mul__")):=by
  unfold seqRepeat?
  rw [PySem.seqSlot_of (T:="tuple") (name:="__mul__") (id:="tuple.__mul__") F.slot_tuple_mul.lookup (by decide +kernel),PySem.seqSlot_of (T:="tuple") (name:="__rmul__") (id:="tuple.__rmul__") F.slot_tuple_rmul.lookup (by decide +kernel)]
  rfl
end LE
namespace L2
open PySem PySem.Spec PyProof.Rows
section
variable {X:Cx} {CX:CXT} {k:Nat} {f C:Addr} {fd:FuncData} {ps ks:List Str} {sp:Sp} {E:XK} {x:Str} {p pos:Pos} {kws:List Keyword} {tk:TA} {g:List Value→List Value→List Value} {gV:List V→List V→List V}
end
section
variable {X:Cx} {C:Addr} {f x:Str} {pos pos':Pos} {e o value:Expr} {ta tv:TE} {i:Int}
theorem PE.imp {t t':TE} (h:PE X e t) (g:∀ σ H Q,t' σ H Q→t σ H Q):PE X e t':=fun pins s σ H Q I q=>h pins s σ H Q I (g _ _ _ q)
theorem PS.imp {st:Stmt} {t t':TS} (h:PS X st t) (g:∀ D σ H,t' D σ H→t D σ H):PS X st t':=fun pins s σ H D I q=>h pins s σ H D I (g _ _ _ q)
end
section
variable {X:Cx} {es:List Expr} {te:TE} {t:TA} {pos:Pos}
end
end L2
namespace LZ
open PySem PyProof.Rows
open AutoSeq1 (wpAny_loadPart')
open Builtin
structure Zr where
  it:Addr
  l:Addr
  b:Bool
  xs:Array Value
noncomputable def ZIt (h:Heap) (r:Zr) (k:Nat):Prop:=if r.b=true then h.IsTupleIter r.it r.l k else h.IsListIter r.it r.l k
noncomputable def ZAt (h:Heap) (r:Zr):Prop:=if r.b=true then h.IsTuple r.l r.xs else h.IsList r.l r.xs
theorem ZIt.keep {h h':Heap} {r:Zr} {k:Nat} (a:ZIt h r k) (q:∀ o,h.get? r.it=some o→h'.get? r.it=some o):ZIt h' r k:=by
  unfold ZIt at *
  split
  · rename_i e; rw [if_pos e] at a; exact a.at fun o z=>q o z
  · rename_i e; rw [if_neg e] at a; exact a.at fun o z=>q o z
theorem ZAt.keep {h h':Heap} {r:Zr} (a:ZAt h r) (q:∀ o,h.get? r.l=some o→h'.get? r.l=some o):ZAt h' r:=by
  unfold ZAt at *
  split
  · rename_i e; rw [if_pos e] at a; obtain ⟨o,z,t⟩:=a; exact ⟨o,q o z,t⟩
  · rename_i e; rw [if_neg e] at a; obtain ⟨o,z,t⟩:=a; exact ⟨o,q o z,t⟩
theorem ZIt.lt {h:Heap} {r:Zr} {k:Nat} (a:ZIt h r k):∃ o,h.get? r.it=some o:=by
  unfold ZIt at a
  split at a
  · obtain ⟨o,z,_⟩:=a; exact ⟨o,z⟩
  · obtain ⟨o,z,_⟩:=a; exact ⟨o,z⟩
section
variable {prog:Program} {w:World} {A:Around} {E:Value→Shared→Prop} {s:Shared}
theorem aLA {r:Zr} {k:Nat} {x:Value} {Q:Value→Shared→Prop} (a:ZIt s.heap r k) (b:ZAt s.heap r) (c:r.xs[k]? =some x) (q:∀ h',ZIt h' r (k + 1)→Heap.SameBut r.it s.heap h'→Q x { s with heap:=h' }) :
    wpAny (model prog w) A (SmallTypes.nextOf (.ref r.it)) Q E s:=by
  unfold ZIt at a q
  unfold ZAt at b
  cases e:r.b with
  | true =>
    rw [e,if_pos rfl] at a b
    exact LE.aFc a b c fun h' z t=>q h' (by rw [e,if_pos rfl]; exact z) t
  | false =>
    rw [e,if_neg (by decide)] at a b
    exact wpAny_nextOf_list_item a b c fun h' z t=>q h' (by rw [e,if_neg (by decide)]; exact z) t
theorem aNm {r:Zr} {k:Nat} {Q:Value→Shared→Prop} (hh:A.handled=none) (a:ZIt s.heap r k) (b:ZAt s.heap r) (c:r.xs[k]? =none)
    (q:∀ h' e,Heap.ExtBut r.it s.heap h'→(∃ o,h'.get? e=some o∧o.cls= .type "StopIteration")→E (.ref e) { s with heap:=h' }):wpAny (model prog w) A (SmallTypes.nextOf (.ref r.it)) Q E s:=by
  unfold ZIt at a
  unfold ZAt at b
  cases e:r.b with
  | true=>rw [e,if_pos rfl] at a b; exact LE.aIn hh a b c q
  | false=>rw [e,if_neg (by decide)] at a b; exact wpAny_nextOf_list_end hh a b c q
theorem aJO {r:Zr} {Q:Value→Shared→Prop} (b:ZAt s.heap r) (q:∀ h',ZIt h' { r with it:=s.heap.objs.size } 0→h'.objs.size=s.heap.objs.size + 1→(∀ c o,s.heap.get? c=some o→h'.get? c=some o)→Q (.ref s.heap.objs.size) { s with heap:=h' }) :
    wpAny (model prog w) A (pyIter (.ref r.l)) Q E s:=by
  unfold ZIt at q
  unfold ZAt at b
  cases e:r.b with
  | true =>
    rw [e,if_pos rfl] at b
    refine wpAny_pyIter_tuple b (q _ ?_ (Heap.size_push ..) fun c o z=>Heap.get?_push_of_some _ z)
    rw [if_pos e]; exact ⟨_,Heap.get?_push_size _ rfl,rfl,rfl⟩
  | false =>
    rw [e,if_neg (by decide)] at b
    refine wpAny_pyIter_list b (q _ ?_ (Heap.size_push ..) fun c o z=>Heap.get?_push_of_some _ z)
    rw [if_neg (by rw [e]; decide)]; exact ⟨_,Heap.get?_push_size _ rfl,rfl,rfl⟩
end
theorem BD {M:Model} {A:Around} {E:Value→Shared→Prop} {α β:Type} {f:α×Nat→β→Sem (ForInStep β)} {u:β} (I:Nat→Shared→Prop):∀ (xs:List α) (j:Nat) (s:Shared) (Q:β→Shared→Prop),I j s→
    (∀ i x s,xs[i]? =some x→I (j + i) s→wpAny M A (f (x,j + i) u) (fun st s'=>st= .yield u∧I (j + i + 1) s') E s)→(∀ s',I (j + xs.length) s'→Q u s')→wpAny M A (forIn (xs.zipIdx j) u f) Q E s
  | [],j,s,Q,h,_,q=>by
    rw [List.zipIdx_nil,List.forIn_nil]
    exact wpAny_pure (q s h)
  | x :: r,j,s,Q,h,hs,q=>by
    rw [List.zipIdx_cons,List.forIn_cons]
    refine wpAny_bind (wpAny_mono (hs 0 x s rfl h) (fun st s' ⟨e,h'⟩=>?_) fun _ _ z=>z)
    subst e
    exact BD I r (j + 1) s' Q h' (fun i y s hy hi=>by
      have:=hs (i + 1) y s hy (by rw [show j + (i + 1)=j + 1 + i by omega]; exact hi)
      rw [show j + (i + 1)=j + 1 + i by omega] at this
      exact this) fun s' z=>q s' (by rw [List.length_cons,show j + (r.length + 1)=j + 1 + r.length by omega]; exact z)
structure Ap (z TI TO:Addr) (rs:List Zr):Prop where
  nd:(rs.map Zr.it).Nodup
  zi:∀ r∈rs,r.it≠z∧r.it≠TO∧r.it≠TI
  zl:∀ r∈rs,r.l≠z∧r.l≠TO
  li:∀ r∈rs,∀ t∈rs,r.l≠t.it
  zo:TO≠z
  zt:TI≠z
  ot:TI≠TO
noncomputable def IsT (h:Heap) (a:Addr) (ys:Array Value):Prop:=h.get? a=some { cls:=.type "tuple",data:=.seq ys }
structure Zs (h:Heap) (z TI TO:Addr) (rs:List Zr) (k:Nat):Prop where
  z:IsZip h z TI TO .none
  ti:IsT h TI (rs.map fun r=>Value.ref r.it).toArray
  to_:∃ ys,ys.size=rs.length∧IsT h TO ys
  it:∀ r∈rs,ZIt h r k
end LZ
namespace LZ
open PySem PyProof.Rows
open Builtin
section
variable {prog:Program} {w:World} {A:Around} {E:Value→Shared→Prop} {s:Shared}
theorem upT {a:Addr} {ys:Array Value} {k:Nat} {x:Value} {Q:Unit→Shared→Prop} (h:IsT s.heap a ys) (hz:ys.size≤64) (q:∀ h',IsT h' a (ys.setIfInBounds k x)→Heap.SameBut a s.heap h'→Q () { s with heap:=h' }) :
    wpAny (model prog w) A (updateSeq a (·.setIfInBounds k x)) Q E s:=by
  have hz':ys.size≤sizeLine:=Nat.le_trans hz (by decide)
  refine wpAny_updateSeq h rfl (q _ ?_ (Heap.SameBut.update ..)) hz' (by rw [Array.size_setIfInBounds]; omega)
  unfold IsT at *
  rw [Heap.get?_update_self _ h rfl]
  simp [Obj.mapSeq]
structure Mid (h:Heap) (z TI TO:Addr) (rs:List Zr) (k:Nat) (vs:List Value) (j:Nat) (g:Heap):Prop where
  zz:IsZip g z TI TO .ellipsis
  to_:∃ ys,ys.size=rs.length∧IsT g TO ys∧∀ i,i < j→ys[i]? =vs[i]?
  lo:∀ i r,rs[i]? =some r→i < j→ZIt g r (k + 1)
  hi:∀ i r,rs[i]? =some r→j≤i→ZIt g r k
  at_:∀ r∈rs,ZAt g r
  sz:g.objs.size=h.objs.size
  fr:∀ c o,c≠z→c≠TO→(∀ r∈rs,c≠r.it)→h.get? c=some o→g.get? c=some o
theorem aEV {rs:List Zr} (nd:(rs.map Zr.it).Nodup) {i j:Nat} {r t:Zr} (hi:rs[i]? =some r) (hj:rs[j]? =some t) (ne:i≠j):r.it≠t.it:=by
  intro e
  obtain ⟨hi1,hi2⟩:=List.getElem?_eq_some_iff.mp hi
  obtain ⟨hj1,hj2⟩:=List.getElem?_eq_some_iff.mp hj
  have hp:=List.pairwise_iff_getElem.mp nd
  rcases Nat.lt_or_gt_of_ne ne with q | q
  · exact hp i j (by rw [List.length_map]; exact hi1) (by rw [List.length_map]; exact hj1) q (by simp only [List.getElem_map]; rw [hi2,hj2]; exact e)
  · exact hp j i (by rw [List.length_map]; exact hj1) (by rw [List.length_map]; exact hi1) q (by simp only [List.getElem_map]; rw [hi2,hj2]; exact e.symm)
theorem WR {z TI TO:Addr} {rs:List Zr} {k:Nat} {vs:List Value} {Q:Value→Shared→Prop} (D:Ap z TI TO rs) (hn:rs≠ []) (hl:rs.length≤8) (S:Zs s.heap z TI TO rs k) (at_:∀ r∈rs,ZAt s.heap r) (hv:vs.length=rs.length) (hx:∀ (i:Nat) (r:Zr),rs[i]? =some r→r.xs[k]? =vs[i]?)
    (hQ:∀ h',IsZip h' z TI TO (rawInt s.heap.objs.size)→IsT h' TO vs.toArray→(∀ r∈rs,ZIt h' r (k + 1))→IsT h' s.heap.objs.size vs.toArray→h'.objs.size=s.heap.objs.size + 1→
      (∀ c o,c≠z→c≠TO→(∀ r∈rs,c≠r.it)→s.heap.get? c=some o→h'.get? c=some o)→Q (.ref s.heap.objs.size) { s with heap:=h' }) :
    wpAny (model prog w) A (Builtin.«zip.__next__» ⟨[.ref z],[]⟩) (fun fin s'=>∃ v,fin= .done (.ret v)∧Q v s') E s:=by
  obtain ⟨hz,hTI,⟨ys0,hy0,hTO⟩,hit⟩:=S
  have hl64:rs.length≤64:=Nat.le_trans hl (by decide)
  refine wpAny_bind (m:=field (.ref z) 2) (wpAny_field hz rfl (x:=.bool false) rfl ?_)
  refine wpAny_bind (m:=field (.ref z) 3) (wpAny_field hz rfl (x:=.ref TI) rfl ?_)
  refine wpAny_bind (wpAny_seqItems hTI rfl ?_)
  have ne:((rs.map fun r=>Value.ref r.it).toArray.isEmpty)=false:=by cases rs with | nil=>exact absurd rfl hn | cons a b=>rfl
  simp only [ne,Bool.false_eq_true,if_false]
  refine wpAny_bind (m:=SmallTypes.ownedTupleIsFree (.ref z)) ?_
  unfold SmallTypes.ownedTupleIsFree
  refine wpAny_bind (wpAny_field hz rfl (x:=.none) rfl (wpAny_pure ?_))
  simp only [if_true]
  refine wpAny_bind (wpAny_rule (wpAny_bind (wpAny_field hz rfl (x:=.ref TO) rfl (wpAny_bind (wpAny_setField_rec hz (by simp) fun h1 hz1 hs1=>?_)))))
  replace hz1:IsZip h1 z TI TO .ellipsis:=hz1
  have m0:Mid s.heap z TI TO rs k vs 0 h1:=⟨hz1,⟨ys0,hy0,hs1.extBut _ _ D.zo hTO,fun i hi=>absurd hi (Nat.not_lt_zero _)⟩,fun i r _ hi=>absurd hi (Nat.not_lt_zero _),
    fun i r hr _=>(hit r (List.mem_of_getElem? hr)).keep fun o q=>hs1.extBut _ _ (D.zi r (List.mem_of_getElem? hr)).1 q,fun r hr=>(at_ r hr).keep fun o q=>hs1.extBut _ _ (D.zl r hr).1 q,hs1.1,fun c o c1 _ _ q=>hs1.extBut _ _ c1 q⟩
  refine wpAny_bind (BD (fun j s'=>∃ g,s'={ s with heap:=g }∧Mid s.heap z TI TO rs k vs j g) _ 0 _ _ ⟨h1,rfl,m0⟩ ?_ ?_)
  · rintro i x _ hxi ⟨g,rfl,m⟩
    rw [Nat.zero_add] at m ⊢
    rw [List.getElem?_map] at hxi
    cases hr:rs[i]? with
    | none=>rw [hr] at hxi; cases hxi
    | some r =>
      rw [hr] at hxi
      have e:x= .ref r.it:=(Option.some.inj hxi).symm
      subst e
      have hm:=List.mem_of_getElem? hr
      have hi:i < rs.length:=(List.getElem?_eq_some_iff.mp hr).1
      have hvi:vs[i]? =some (vs[i]'(by omega)):=by simp
      refine wpAny_bind (wpAny_onRaise (wpAny_bind (m:=SmallTypes.nextOf (.ref r.it)) (aLA (m.hi i r hr (Nat.le_refl _)) (m.at_ r hm) ((hx i r hr).trans hvi) fun h2 hi2 hs2=>wpAny_pure ?_)))
      obtain ⟨ys,hy,hT,hlo⟩:=m.to_
      have hT2:IsT h2 TO ys:=hs2.extBut _ _ (Ne.symm (D.zi r hm).2.1) hT
      refine wpAny_bind (wpAny_seqItems hT2 rfl (wpAny_bind (upT hT2 (by omega) fun h3 hT3 hs3=>wpAny_bind (wpAny_letGo (wpAny_pure ⟨rfl,h3,rfl, ?_⟩)))))
      have fr3:∀ c o,c≠TO→c≠r.it→g.get? c=some o→h3.get? c=some o:=fun c o c1 c2 q=>hs3.extBut _ _ c1 (hs2.extBut _ _ c2 q)
      refine ⟨fr3 _ _ (Ne.symm D.zo) (Ne.symm (D.zi r hm).1) m.zz,⟨_,by rw [Array.size_setIfInBounds]; exact hy,hT3,fun j hj=>?_⟩,fun j t ht hj=>?_,fun j t ht hj=>?_,fun t ht=>(m.at_ t ht).keep fun o q=>fr3 _ _ (D.zl t ht).2 (D.li t ht r hm) q,by rw [hs3.1,hs2.1]; exact m.sz,fun c o c1 c2 c3 q=>fr3 c o c2 (c3 r hm) (m.fr c o c1 c2 c3 q)⟩
      · rw [Array.getElem?_setIfInBounds]
        by_cases e:i=j
        · subst e; rw [if_pos rfl,if_pos (by omega),hvi]
        · rw [if_neg e]; exact hlo j (by omega)
      · by_cases e:j=i
        · subst e
          rw [hr] at ht; cases ht
          exact hi2.keep fun o q=>hs3.extBut _ _ (D.zi r hm).2.1 q
        · exact (m.lo j t ht (by omega)).keep fun o q=>fr3 _ _ (D.zi t (List.mem_of_getElem? ht)).2.1 (aEV D.nd ht hr e) q
      · exact (m.hi j t ht (by omega)).keep fun o q=>fr3 _ _ (D.zi t (List.mem_of_getElem? ht)).2.1 (aEV D.nd ht hr (by omega)) q
  · rintro _ ⟨g,rfl,m⟩
    rw [Nat.zero_add,List.length_map] at m
    obtain ⟨ys,hy,hT,hlo⟩:=m.to_
    have ey:ys=vs.toArray:=by
      refine Array.ext' (List.ext_getElem? fun j=>?_)
      by_cases hj:j < rs.length
      · have:=hlo j hj; rw [←Array.getElem?_toList] at this; exact this
      · rw [List.getElem?_eq_none (by rw [Array.length_toList]; omega),List.getElem?_eq_none (by rw [List.toList_toArray]; omega)]
    subst ey
    refine wpAny_bind (m:=seqItems? (.ref TO)) (wpAny_seqItems hT rfl ?_)
    refine wpAny_bind (m:=newTuple _) (wpAny_newTuple ?_ (by rw [List.toList_toArray]; exact Nat.le_trans (by omega:vs.length≤8) (by decide)))
    have zlt:z < g.objs.size:=Heap.lt_size m.zz
    refine wpAny_bind (m:=SmallTypes.ownedTupleHandOut (.ref z) (.ref g.objs.size)) ?_
    unfold SmallTypes.ownedTupleHandOut
    have hz6:IsZip (g.push { cls:=.type "tuple",data:=.seq vs.toArray.toList.toArray }) z TI TO .ellipsis:=Heap.get?_push_of_some _ m.zz
    refine wpAny_bind (wpAny_setField_rec hz6 (by simp) fun h7 hz7 hs7=>wpAny_setField_rec hz7 (by simp) fun h8 hz8 hs8=>wpAny_pure ⟨_,rfl, ?_⟩)
    have up:∀ c o,c≠z→g.get? c=some o→h8.get? c=some o:=fun c o c1 q=>hs8.extBut _ _ c1 (hs7.extBut _ _ c1 (Heap.get?_push_of_some _ q))
    have gz:g.objs.size=s.heap.objs.size:=m.sz
    have hT8:IsT h8 g.objs.size vs.toArray:=hs8.extBut _ _ (Nat.ne_of_gt zlt) (hs7.extBut _ _ (Nat.ne_of_gt zlt) (Heap.get?_push_size _ rfl))
    have z8:h8.objs.size=g.objs.size + 1:=by rw [hs8.1,hs7.1,Heap.size_push]
    replace hz8:IsZip h8 z TI TO (rawInt g.objs.size):=hz8
    show Q (.ref g.objs.size) _
    rw [gz] at hz8 hT8 z8
    rw [gz]
    refine hQ h8 hz8 (up _ _ D.zo hT) (fun r hr=>?_) hT8 z8 fun c o c1 c2 c3 q=>up c o c1 (m.fr c o c1 c2 c3 q)
    obtain ⟨i,hi,er⟩:=List.getElem_of_mem hr
    exact (m.lo i r (by rw [List.getElem?_eq_getElem hi,er]) hi).keep fun o q=>up _ o (D.zi r hr).1 q
theorem aCY {z TI TO:Addr} {r:Zr} {rs:List Zr} {k:Nat} {Q:Fin→Shared→Prop} (hh:A.handled=none) (D:Ap z TI TO (r :: rs)) (S:Zs s.heap z TI TO (r :: rs) k) (at_:ZAt s.heap r) (hx:r.xs[k]? =none)
    (hE:∀ h' e,(∀ c o,c≠z→c≠r.it→s.heap.get? c=some o→h'.get? c=some o)→(∃ o,h'.get? e=some o∧o.cls= .type "StopIteration")→E (.ref e) { s with heap:=h' }) :
    wpAny (model prog w) A (Builtin.«zip.__next__» ⟨[.ref z],[]⟩) Q E s:=by
  obtain ⟨hz,hTI,⟨ys0,hy0,hTO⟩,hit⟩:=S
  refine wpAny_bind (m:=field (.ref z) 2) (wpAny_field hz rfl (x:=.bool false) rfl ?_)
  refine wpAny_bind (m:=field (.ref z) 3) (wpAny_field hz rfl (x:=.ref TI) rfl ?_)
  refine wpAny_bind (wpAny_seqItems hTI rfl ?_)
  have ne:(((r :: rs).map fun r=>Value.ref r.it).toArray.isEmpty)=false:=rfl
  simp only [ne,Bool.false_eq_true,if_false]
  refine wpAny_bind (m:=SmallTypes.ownedTupleIsFree (.ref z)) ?_
  unfold SmallTypes.ownedTupleIsFree
  refine wpAny_bind (wpAny_field hz rfl (x:=.none) rfl (wpAny_pure ?_))
  simp only [if_true]
  refine wpAny_bind (wpAny_rule (wpAny_bind (wpAny_field hz rfl (x:=.ref TO) rfl (wpAny_bind (wpAny_setField_rec hz (by simp) fun h1 hz1 hs1=>?_)))))
  replace hz1:IsZip h1 z TI TO .ellipsis:=hz1
  refine wpAny_bind ?_
  simp only [List.map_cons,List.zipIdx_cons,List.forIn_cons]
  refine wpAny_bind (wpAny_bind (wpAny_onRaise (wpAny_bind (m:=SmallTypes.nextOf (.ref r.it)) (aNm hh ((hit r (List.mem_cons_self ..)).keep fun o q=>hs1.extBut _ _ (D.zi r (List.mem_cons_self ..)).1 q) (at_.keep fun o q=>hs1.extBut _ _ (D.zl r (List.mem_cons_self ..)).1 q) hx fun h2 e hs2 he=>?_))))
  obtain ⟨oe,hoe,hce⟩:=he
  have hz2:IsZip h2 z TI TO .ellipsis:=hs2 _ _ (Ne.symm (D.zi r (List.mem_cons_self ..)).1) hz1
  have hez:e≠z:=fun x=>by subst x; rw [hz2] at hoe; cases hoe; simp at hce
  exact wpAny_setField_rec hz2 (by simp) fun h3 _ hs3=>hE h3 e (fun c o c1 c3 x=>hs3.extBut _ _ c1 (hs2 _ _ c3 (hs1.extBut _ _ c1 x))) ⟨oe,hs3.extBut _ _ hez hoe,hce⟩
theorem QU {z TI TO:Addr} {rs:List Zr} {k:Nat} {vs:List Value} {Q:Option Value→Shared→Prop} (D:Ap z TI TO rs) (hn:rs≠ []) (hl:rs.length≤8) (S:Zs s.heap z TI TO rs k) (at_:∀ r∈rs,ZAt s.heap r) (hv:vs.length=rs.length) (hx:∀ (i:Nat) (r:Zr),rs[i]? =some r→r.xs[k]? =vs[i]?)
    (hQ:∀ h',IsZip h' z TI TO (rawInt s.heap.objs.size)→IsT h' TO vs.toArray→(∀ r∈rs,ZIt h' r (k + 1))→IsT h' s.heap.objs.size vs.toArray→h'.objs.size=s.heap.objs.size + 1→
      (∀ c o,c≠z→c≠TO→(∀ r∈rs,c≠r.it)→s.heap.get? c=some o→h'.get? c=some o)→Q (some (.ref s.heap.objs.size)) { s with heap:=h' }) :
    wpAny (model prog w) A (pyNext (.ref z)) Q E s:=by
  have hT:s.TypeIs (.ref z) "zip":=⟨_,S.z,rfl⟩
  unfold pyNext
  exact wpAny_bind (wpAny_attempt (wpAny_callSpecial?_slot (name:=Str.ofString "__next__") hT F.slot_zip_next (wpAny_call_entry F.slot_zip_next hT F.entry_zip_next (WR D hn hl S at_ hv hx fun h' a1 a2 a3 a4 a5 a6=>wpAny_pure (hQ h' a1 a2 a3 a4 a5 a6)) (F.args_zip_next_1 _))))
theorem VU {z TI TO:Addr} {r:Zr} {rs:List Zr} {k:Nat} {Q:Option Value→Shared→Prop} (hh:A.handled=none) (D:Ap z TI TO (r :: rs)) (S:Zs s.heap z TI TO (r :: rs) k) (at_:ZAt s.heap r) (hx:r.xs[k]? =none)
    (hQ:∀ h',(∀ c o,c≠z→c≠r.it→s.heap.get? c=some o→h'.get? c=some o)→Q none { s with heap:=h' }):wpAny (model prog w) A (pyNext (.ref z)) Q E s:=by
  have hT:s.TypeIs (.ref z) "zip":=⟨_,S.z,rfl⟩
  unfold pyNext
  refine wpAny_bind (wpAny_attempt (wpAny_callSpecial?_slot (name:=Str.ofString "__next__") hT F.slot_zip_next (wpAny_call_entry F.slot_zip_next hT F.entry_zip_next (aCY hh D S at_ hx fun h' e hk ⟨o,ho,hc⟩=>?_) (F.args_zip_next_1 _))))
  exact wpAny_bind (wpAny_isInstance (T:="StopIteration") (b:=true) ⟨o,ho,hc⟩ isSubtype_stop (wpAny_pure (hQ _ hk)))
end
end LZ
namespace LZ
open PySem PyProof.Rows
open Builtin
section
variable {prog:Program} {w:World} {A:Around} {E:Value→Shared→Prop}
theorem GF {f:Value→Array Value→Sem (ForInStep (Array Value))} (hf:∀ x acc,f x acc=(do let v ←holding acc.toList (pyIter x); pure (.yield (acc.push v)))):∀ (rs:List Zr) (acc:Array Value) (s:Shared) (Q:Array Value→Shared→Prop),
    (∀ r∈rs,ZAt s.heap r)→(∀ (j:Nat) (r:Zr),rs[j]? =some r→r.it=s.heap.objs.size + j)→
    (∀ h',h'.objs.size=s.heap.objs.size + rs.length→(∀ r∈rs,ZIt h' r 0)→(∀ c o,s.heap.get? c=some o→h'.get? c=some o)→Q (acc ++ (rs.map fun r=>Value.ref r.it).toArray) { s with heap:=h' })→
    wpAny (model prog w) A (forIn (rs.map fun r=>Value.ref r.l) acc f) Q E s
  | [],acc,s,Q,_,_,q=>by
    rw [List.map_nil,List.forIn_nil]
    refine wpAny_pure ?_
    have:=q s.heap rfl (fun _ z=>nomatch z) (fun _ _ z=>z)
    simpa using this
  | r :: rs,acc,s,Q,hat,hid,q=>by
    rw [List.map_cons,List.forIn_cons,hf]
    have e0:r.it=s.heap.objs.size:=hid 0 r rfl
    refine wpAny_bind (wpAny_bind (wpAny_holding (aJO (r:=r) (hat r (List.mem_cons_self ..)) fun h' hi hz hk=>wpAny_pure ?_)))
    have e1:({ r with it:=s.heap.objs.size }:Zr)=r:=by rw [←e0]
    rw [e1] at hi
    refine GF hf rs _ _ Q (fun t ht=>(hat t (List.mem_cons_of_mem _ ht)).keep fun o z=>hk _ o z) (fun j t ht=>?_) fun h2 hz2 hi2 hk2=>?_
    · rw [hid (j + 1) t ht]; show _=h'.objs.size + j; rw [hz]; omega
    · have:=q h2 (by rw [List.length_cons,hz2]; show h'.objs.size + _=_; rw [hz]; omega) (fun t ht=>?_) (fun c o z=>hk2 c o (hk c o z))
      · rw [←e0]; simpa using this
      · rcases List.mem_cons.mp ht with z | z
        · subst z; exact hi.keep fun o z=>hk2 _ o z
        · exact hi2 t z
theorem QR (rs:List Zr) (hl:rs.length≤8):Meets (Builtin.«zip.__new__» ⟨.type "zip" :: (rs.map fun r=>Value.ref r.l),[]⟩) (fun _ R s=>(∀ r∈rs,ZAt s.heap r)∧(∀ (j:Nat) (r:Zr),rs[j]? =some r→r.it=s.heap.objs.size + j)∧
      ∀ h',IsZip h' (s.heap.objs.size + rs.length + 2) (s.heap.objs.size + rs.length) (s.heap.objs.size + rs.length + 1) .none→IsT h' (s.heap.objs.size + rs.length) (rs.map fun r=>Value.ref r.it).toArray→IsT h' (s.heap.objs.size + rs.length + 1) (rs.map fun _=>Value.none).toArray→
        (∀ r∈rs,ZIt h' r 0)→h'.objs.size=s.heap.objs.size + rs.length + 3→(∀ c o,s.heap.get? c=some o→h'.get? c=some o)→R (.ok (.ret (.ref (s.heap.objs.size + rs.length + 2)))) { s with heap:=h' }) :=
  .of_wp fun prog w A R s ⟨hat,hid,h⟩=>by
    have hl':rs.length≤sizeLine:=Nat.le_trans hl (by decide)
    have fin:∀ h1,h1.objs.size=s.heap.objs.size + rs.length→(∀ r∈rs,ZIt h1 r 0)→(∀ c o,s.heap.get? c=some o→h1.get? c=some o)→
        R (.ok (.ret (.ref ((h1.push { cls:=.type "tuple",data:=.seq (rs.map fun r=>Value.ref r.it).toArray }).push { cls:=.type "tuple",data:=.seq (rs.map fun _=>Value.none).toArray }).objs.size)))
          { s with heap:=((h1.push { cls:=.type "tuple",data:=.seq (rs.map fun r=>Value.ref r.it).toArray }).push { cls:=.type "tuple",data:=.seq (rs.map fun _=>Value.none).toArray }).push { cls:=.type "zip",data:=.fields #[.none,.bool false,.bool false,.ref h1.objs.size,.ref (h1.push { cls:=.type "tuple",data:=.seq (rs.map fun r=>Value.ref r.it).toArray }).objs.size] } }:=by
      intro h1 hz1 hi1 hk1
      have z2:(h1.push { cls:=.type "tuple",data:=.seq (rs.map fun r=>Value.ref r.it).toArray }).objs.size=s.heap.objs.size + rs.length + 1:=by rw [Heap.size_push,hz1]
      have z3:((h1.push { cls:=.type "tuple",data:=.seq (rs.map fun r=>Value.ref r.it).toArray }).push { cls:=.type "tuple",data:=.seq (rs.map fun _=>Value.none).toArray }).objs.size=s.heap.objs.size + rs.length + 2:=by rw [Heap.size_push,z2]
      rw [z3]
      refine h _ ?_ ?_ ?_ (fun r hr=>(hi1 r hr).keep fun o z=>Heap.get?_push_of_some _ (Heap.get?_push_of_some _ (Heap.get?_push_of_some _ z))) (by rw [Heap.size_push,z3]) fun c o z=>Heap.get?_push_of_some _ (Heap.get?_push_of_some _ (Heap.get?_push_of_some _ (hk1 c o z)))
      · rw [←z3,z2,hz1]; exact Heap.get?_push_size _ rfl
      · unfold IsT; rw [←hz1]; exact Heap.get?_push_of_some _ (Heap.get?_push_of_some _ (Heap.get?_push_size _ rfl))
      · unfold IsT; rw [←z2]; exact Heap.get?_push_of_some _ (Heap.get?_push_size _ rfl)
    have e0:∀ xs,SmallTypes.newClass "zip" ⟨.type "zip" :: xs,[]⟩=pure (.type "zip",xs):=fun xs=>by
      unfold SmallTypes.newClass
      show (isType (.type "zip") >>= _)=_
      have e1:isType (.type "zip")=pure true:=rfl
      rw [e1,pure_bind]
      show (isSubtype (.type "zip") (.type "zip") >>= _)=_
      rw [sub_zip,pure_bind]
      rfl
    unfold Builtin.«zip.__new__»
    rw [e0,pure_bind]
    show wpAny _ _ (SmallTypes.iterAll _ >>= _) _ _ _
    refine wpAny_bind (wpAny_bind (GF (fun _ _=>rfl) rs #[] s _ hat hid fun h1 hz1 hi1 hk1=>wpAny_pure ?_))
    have en:(#[] ++ (rs.map fun r=>Value.ref r.it).toArray:Array Value).toList=rs.map fun r=>Value.ref r.it:=by simp
    rw [en]
    refine wpAny_bind (wpAny_newTuple (wpAny_bind (wpAny_newTuple ?_ (by simpa using hl'))) (by simpa using hl'))
    have em:(List.map (fun _=>Value.none) (rs.map fun r=>Value.ref r.it))=rs.map fun _=>Value.none:=by rw [List.map_map]; rfl
    rw [em]
    show wpAny _ _ (newObj (.type "zip") (.fields #[.none,.bool false,.bool false,.ref h1.objs.size,.ref (h1.push { cls:=.type "tuple",data:=.seq (rs.map fun r=>Value.ref r.it).toArray }).objs.size]) none >>= _) _ _ _
    refine wpAny_bind (wpAny_newObj_type ?_ (by size_fits))
    exact wpAny_pure ⟨_,rfl,fin h1 hz1 hi1 hk1⟩
theorem TR (a b c:Value):checkTypeCall "zip" ⟨[a,b,c],[]⟩=pure ():=by kernel_rfl
theorem VZ (a b c:Value):checkBuiltinCall "zip.__new__" ⟨[.type "zip",a,b,c],[]⟩=pure ():=by kernel_rfl
theorem aJ7 (a b c d:Value):argsOk "object.__init__" ⟨[a,b,c,d],[]⟩:=by
  unfold argsOk
  rw [signature?_of (id:="object.__init__") (n:="__tini__".toList) (o:="tcejbo".toList) (by kernel_rfl) F.owner_object]
  kernel_rfl
theorem OT {s:Shared} {rs:List Zr} {Q:Value→Shared→Prop} (hl:rs.length≤8) (hat:∀ r∈rs,ZAt s.heap r) (hid:∀ (j:Nat) (r:Zr),rs[j]? =some r→r.it=s.heap.objs.size + j)
    (ct:checkTypeCall "zip" ⟨rs.map fun r=>Value.ref r.l,[]⟩=pure ()) (cn:checkBuiltinCall "zip.__new__" ⟨.type "zip" :: (rs.map fun r=>Value.ref r.l),[]⟩=pure ()) (ok:∀ obj,argsOk "object.__init__" ⟨obj :: (rs.map fun r=>Value.ref r.l),[]⟩)
    (h:∀ h',Zs h' (s.heap.objs.size + rs.length + 2) (s.heap.objs.size + rs.length) (s.heap.objs.size + rs.length + 1) rs 0→h'.objs.size=s.heap.objs.size + rs.length + 3→(∀ c o,s.heap.get? c=some o→h'.get? c=some o)→Q (.ref (s.heap.objs.size + rs.length + 2)) { s with heap:=h' }) :
    wpAny (model prog w) A (call (.type "zip") (rs.map fun r=>Value.ref r.l)) Q E s:=by
  refine callType_new F.called_zip (by decide) ct cn ok F.entry_zip_new (QR rs hl) ⟨hat,hid,fun h' a b c d e f=>?_⟩
  exact ⟨⟨_,a,rfl⟩,h h' ⟨a,b,⟨_,by simp,c⟩,d⟩ e f⟩
theorem aAq {s:Shared} {rs:List Zr} {Q:Value→Shared→Prop} (hl:rs.length=2∨rs.length=3) (hat:∀ r∈rs,ZAt s.heap r) (hid:∀ (j:Nat) (r:Zr),rs[j]? =some r→r.it=s.heap.objs.size + j)
    (h:∀ h',Zs h' (s.heap.objs.size + rs.length + 2) (s.heap.objs.size + rs.length) (s.heap.objs.size + rs.length + 1) rs 0→h'.objs.size=s.heap.objs.size + rs.length + 3→(∀ c o,s.heap.get? c=some o→h'.get? c=some o)→Q (.ref (s.heap.objs.size + rs.length + 2)) { s with heap:=h' }) :
    wpAny (model prog w) A (call (.type "zip") (rs.map fun r=>Value.ref r.l)) Q E s:=by
  match rs,hl,hat,hid,h with
  | [a,b],_,hat,hid,h =>
    have ct:=F.typeCall_zip_2 (.ref a.l) (.ref b.l)
    have cn:=F.newCall_zip_2 (.ref a.l) (.ref b.l)
    have ok:=fun obj=>F.args_object_init_3 obj (.ref a.l) (.ref b.l)
    exact OT (rs:=[a,b]) (by show 2≤8; decide) hat hid ct cn ok h
  | [a,b,c],_,hat,hid,h =>
    have ct:=TR (.ref a.l) (.ref b.l) (.ref c.l)
    have cn:=VZ (.ref a.l) (.ref b.l) (.ref c.l)
    have ok:=fun obj=>aJ7 obj (.ref a.l) (.ref b.l) (.ref c.l)
    exact OT (rs:=[a,b,c]) (by show 3≤8; decide) hat hid ct cn ok h
end
end LZ
namespace L2
open PySem PySem.Spec PyProof.Rows LZ
section
variable {X:Cx} {pins:List (Addr×Obj)} {σ:St} {H:Hp} {s:Shared} {h':Heap}
theorem Inv.turns {t':Nat} {ch:List Addr} (I:Inv X pins σ H s)
    (hch:∀ b∈ch,(b∈X.ex∨X.s₀.heap.objs.size≤b)∧b≠X.env.locals∧(∀ x c,X.env.cells.lookup x=some c→c≠b)∧∀ p∈X.pn ++ pins,p.1≠b) (hn:∀ b∈ch,H b=none)
    (k:∀ b o,b∉ ch→s.heap.get? b=some o→h'.get? b=some o):Inv X pins σ H { s with heap:=h',toks:=t' }:=by
  have nit:∀ b u,H b=some u→b∉ ch:=fun b u e z=>by rw [hn b z] at e; cases e
  refine I.step (g':=s.gens) (d':=s.drawn) (ch:=ch) hch (fun b o _ _ hc e _=>k b o hc e) (fun b o _ _ hc e _=>⟨o.slots,k b o hc e⟩) (fun _ _ _ _ n=>n) (fun b o hc e=>⟨o,k b o hc e⟩) (fun _ _ e=>e) (fun _ _ _ e=>e) (fun b ps e=>⟨#[],by rw [e]; simp⟩) (fun m hm=>?_) (fun b u e=>?_) I.bare
  · obtain ⟨o,es,ep,ho,r⟩:=hm
    exact ⟨o,es,ep,k _ o (fun z=>(hch _ z).2.1 rfl) ho,r⟩
  · refine (I.hok b u e).stay (fun c v hc q=>k c v ?_ q) (fun c q=>q) fun c xs q=>q
    rcases hc with z | z
    · rw [z]; exact nit b _ e
    · exact nit c _ z
noncomputable def nR (h:Heap) (l:Addr):Array Value:=match h.get? l with
  | some o=>(match o.data with | .seq a _=>a | _=> #[])
  | none=> #[]
theorem aBv {h:Heap} {l:Addr} {a:Array Value} (q:h.IsTuple l a):nR h l=a:=by
  obtain ⟨o,ho,_,n,hd⟩:=q
  unfold nR; rw [ho]; dsimp only; rw [hd]
theorem ZP {h:Heap} {l:Addr} {a:Array Value} (q:h.IsList l a):nR h l=a:=by
  obtain ⟨o,ho,_,n,hd⟩:=q
  unfold nR; rw [ho]; dsimp only; rw [hd]
noncomputable def uG (K:W.Frag) (H:Hp) (b:Bool) (l:Addr) (xs:List V):Prop:=if b=true then SqT K H l xs else SqL K H l xs
noncomputable def BN (K:W.Frag) (H:Hp) (rs:List Zr) (xss:List (List V)):Prop:=xss.length=rs.length∧∀ (j:Nat) (r:Zr) (xs:List V),rs[j]? =some r→xss[j]? =some xs→uG K H r.b r.l xs
theorem sG {b:Bool} {l:Addr} {xs:List V} (I:Inv X pins σ H s) (h:uG X.K H b l xs):∃ its:List Value,aG xs its∧nR s.heap l=its.toArray∧∀ it,ZAt s.heap ⟨it,l,b,its.toArray⟩:=by
  unfold uG at h
  cases b with
  | true =>
    rw [if_pos rfl] at h
    obtain ⟨its,rv,p,_⟩:=I.tuple h
    have p':s.heap.IsTuple l its.toArray:=p
    exact ⟨its,rv,aBv p',fun it=>by unfold ZAt; rw [if_pos rfl]; exact p'⟩
  | false =>
    rw [if_neg (by decide)] at h
    obtain ⟨its,rv,p,_⟩:=I.list h
    exact ⟨its,rv,ZP p.isList,fun it=>by unfold ZAt; rw [if_neg Bool.false_ne_true]; exact p.isList⟩
noncomputable def pG (h:Heap) (rs:List Zr):List Zr:=rs.map fun r=>{ r with xs:=nR h r.l }
theorem aBh {h g:Heap} {z TI TO:Addr} {rs:List Zr} {k:Nat} (S:Zs h z TI TO rs k):Zs h z TI TO (pG g rs) k:=by
  refine ⟨S.z, ?_, ?_,fun r hr=>?_⟩
  · unfold pG; rw [List.map_map]; exact S.ti
  · obtain ⟨ys,a,b⟩:=S.to_; exact ⟨ys,by unfold pG; rw [List.length_map]; exact a,b⟩
  · obtain ⟨t,ht,rfl⟩:=List.mem_map.mp hr
    exact S.it t ht
theorem aAW {g:Heap} {z TI TO:Addr} {rs:List Zr} (D:Ap z TI TO rs):Ap z TI TO (pG g rs):=by
  refine ⟨by unfold pG; rw [List.map_map]; exact D.nd,fun r hr=>?_,fun r hr=>?_,fun r hr t ht=>?_,D.zo,D.zt,D.ot⟩
  · obtain ⟨t,ht,rfl⟩:=List.mem_map.mp hr; exact D.zi t ht
  · obtain ⟨t,ht,rfl⟩:=List.mem_map.mp hr; exact D.zl t ht
  · obtain ⟨u,hu,rfl⟩:=List.mem_map.mp hr; obtain ⟨v,hv,rfl⟩:=List.mem_map.mp ht; exact D.li u hu v hv
noncomputable def Itz (K:W.Frag) (rs:List Zr):It :=
  ⟨fun i H=>∃ (xss:List (List V)) (vs:List V),BN K H rs xss∧vs.length=rs.length∧∀ (j:Nat) (xs:List V),xss[j]? =some xs→xs[i]? =vs[j]?,
   fun i H x H'=>∃ (T:Addr) (vs:List V),x= .ref T∧H T=none∧H'=upd H T (.tup vs)∧vs.length=rs.length∧∀ xss,BN K H rs xss→∀ (j:Nat) (xs:List V),xss[j]? =some xs→xs[i]? =vs[j]?,
   fun i H=>∃ xs t,BN K H rs (xs :: t)∧xs.length≤i⟩
theorem aG.mk {f:Nat→Option Value}:∀ {vs:List V},(∀ (j:Nat) (v:V),vs[j]? =some v→∃ u,f j=some u∧aL v u)→∃ us,aG vs us∧us.length=vs.length∧∀ (j:Nat),j < vs.length→us[j]? =f j
  | [],_=>⟨[],.nil,rfl,fun j hj=>absurd hj (Nat.not_lt_zero _)⟩
  | v :: vs,h=>by
    obtain ⟨u,e,r⟩:=h 0 v rfl
    obtain ⟨us,a,b,c⟩:=aG.mk (f:=fun j=>f (j + 1)) (vs:=vs) fun j w hw=>h (j + 1) w hw
    refine ⟨u :: us,.cons r a,by rw [List.length_cons,List.length_cons,b],fun j hj=>?_⟩
    cases j with
    | zero=>exact e.symm
    | succ j=>exact c j (by simpa using hj)
theorem TX {b:Bool} {l:Addr} {xs ys:List V} (I:Inv X pins σ H s) (h:uG X.K H b l xs) (h2:uG X.K H b l ys):xs=ys:=by
  obtain ⟨a1,r1,e1,_⟩:=sG I h
  obtain ⟨a2,r2,e2,_⟩:=sG I h2
  have:a1=a2:=by have:=e1.symm.trans e2; simpa using this
  subst this
  exact r1.inj r2
theorem aAx {P:Program} {w:World} {K:W.Frag} {es:List Expr} {x1} {tp:Pos} {z TI TO:Addr} {rs:List Zr} (D:Ap z TI TO rs) (hn:rs≠ []) (hl:rs.length≤8) :
    LI P w K (.Tuple es x1 tp) (Itz K rs) (z :: TO :: TI :: rs.map Zr.it) z (fun i h=>Zs h z TI TO rs i) where
  mem:=by simp
  obj :=fun i h st b hb=>by
    rcases List.mem_cons.mp hb with rfl | hb
    · exact ⟨_,st.z,fun v q=>by have q':Data.fields _=Data.cell v:=q; cases q'⟩
    rcases List.mem_cons.mp hb with rfl | hb
    · obtain ⟨ys,_,q⟩:=st.to_; exact ⟨_,q,fun v q=>by have q':Data.seq _ _=Data.cell v:=q; cases q'⟩
    rcases List.mem_cons.mp hb with rfl | hb
    · exact ⟨_,st.ti,fun v q=>by have q':Data.seq _ _=Data.cell v:=q; cases q'⟩
    · obtain ⟨r,hr,rfl⟩:=List.mem_map.mp hb
      have q:=st.it r hr
      unfold ZIt at q
      split at q
      · obtain ⟨o,a,_,d⟩:=q; exact ⟨o,a,fun v z=>by rw [d] at z; cases z⟩
      · obtain ⟨o,a,_,d⟩:=q; exact ⟨o,a,fun v z=>by rw [d] at z; cases z⟩
  keep:=fun i h h' st k=>by
    refine ⟨k z (by simp) _ st.z,k TI (by simp) _ st.ti, ?_,fun r hr=>(st.it r hr).keep fun o q=>k r.it (by simp; exact .inr (.inr (.inr ⟨r,hr,rfl⟩))) o q⟩
    obtain ⟨ys,a,b⟩:=st.to_
    exact ⟨ys,a,k TO (by simp) _ b⟩
  item := by
    intro X hP hw hK hc i pins s σ H E I hf st hg
    subst hP hw hK
    obtain ⟨xss,vs,hr,hvl,hx⟩:=hg
    have hxl:xss.length=rs.length:=hr.1
    have at_:∀ r∈pG s.heap rs,ZAt s.heap r:=fun r hr'=>by
      obtain ⟨t,ht,rfl⟩:=List.mem_map.mp hr'
      obtain ⟨j,hj,ej⟩:=List.getElem_of_mem ht
      obtain ⟨its,_,e,q⟩:=sG I (hr.2 j t (xss[j]'(by omega)) (by rw [List.getElem?_eq_getElem hj,ej]) (by simp))
      have:=q t.it
      rw [←e] at this; exact this
    obtain ⟨us,rv,ul,hu⟩:=aG.mk (f:=fun j=>(rs[j]?).bind fun r=>(nR s.heap r.l)[i]?) (vs:=vs) fun j v hv=>by
      have hj:j < rs.length:=by have:=(List.getElem?_eq_some_iff.mp hv).1; omega
      have er:rs[j]? =some rs[j]:=List.getElem?_eq_getElem hj
      have ex:xss[j]? =some (xss[j]'(by omega)):=by simp
      obtain ⟨its,rvs,e,_⟩:=sG I (hr.2 j _ _ er ex)
      obtain ⟨u,hu,ru⟩:=rvs.get ((hx j _ ex).trans hv)
      refine ⟨u, ?_,ru⟩
      show (rs[j]?).bind _=_
      rw [er,Option.bind_some,e]
      simpa using hu
    refine QU (vs:=us) (aAW D) (by unfold pG; simpa using hn) (by unfold pG; rw [List.length_map]; exact hl) (aBh st) at_ (by unfold pG; rw [List.length_map,ul,hvl]) (fun j r hr'=>?_) fun h1 hz1 hT1 hi1 hN hsz hk=>?_
    · unfold pG at hr'
      rw [List.getElem?_map] at hr'
      cases er:rs[j]? with
      | none=>rw [er] at hr'; cases hr'
      | some t =>
        rw [er] at hr'
        have:r={ t with xs:=nR s.heap t.l }:=(Option.some.inj hr').symm
        subst this
        have hj:j < rs.length:=(List.getElem?_eq_some_iff.mp er).1
        rw [hu j (by omega)]
        show _=(rs[j]?).bind _
        rw [er]; rfl
    · refine ⟨_,rfl,wpAny_letOwnedTupleGo_zip hz1 fun h2 hz2 sb=>?_⟩
      have mem_it:∀ r∈rs,∃ t∈pG s.heap rs,t.it=r.it:=fun r hr=>⟨_,List.mem_map.mpr ⟨r,hr,rfl⟩,rfl⟩
      have it_mem:∀ t∈pG s.heap rs,∃ r∈rs,r.it=t.it:=fun t ht=>by obtain ⟨r,hr,rfl⟩:=List.mem_map.mp ht; exact ⟨r,hr,rfl⟩
      have hTz:s.heap.objs.size≠z:=Nat.ne_of_gt (Heap.lt_size st.z)
      have gT:IsT h2 s.heap.objs.size us.toArray:=(sb.2 _ hTz).trans hN
      have lt:∀ b∈z :: TO :: TI :: rs.map Zr.it,b≠s.heap.objs.size:=fun b hb=>by
        have:∃ o,s.heap.get? b=some o:=by
          rcases List.mem_cons.mp hb with rfl | hb
          · exact ⟨_,st.z⟩
          rcases List.mem_cons.mp hb with rfl | hb
          · obtain ⟨ys,_,q⟩:=st.to_; exact ⟨_,q⟩
          rcases List.mem_cons.mp hb with rfl | hb
          · exact ⟨_,st.ti⟩
          · obtain ⟨r,hr,rfl⟩:=List.mem_map.mp hb; exact (st.it r hr).lt
        obtain ⟨o,q⟩:=this
        exact Nat.ne_of_lt (Heap.lt_size q)
      refine ⟨.ref s.heap.objs.size,upd H s.heap.objs.size (.tup vs),I.turnNew (ch:=z :: TO :: TI :: rs.map Zr.it) (h':=h2) (fun b hb=>?_) (fun b hb=>(hf b hb).1) (fun b o hb q=>?_) (Nat.le_refl _) ?_,rfl,⟨_,vs,rfl,I.hok.fresh (Nat.le_refl _),rfl,hvl,fun yss hy j xs hxs=>?_⟩, ?_,fun b hb=>?_⟩
      · obtain ⟨f0,f1,f2,f3,f4,f5⟩:=hf b hb
        exact ⟨f3,f1,f4,f5⟩
      · have n1:b≠z:=fun e=>hb (by simp [e])
        have n2:b≠TO:=fun e=>hb (by simp [e])
        exact (sb.2 b n1).trans (hk b o n1 n2 (fun t ht e=>by obtain ⟨r,hr,er⟩:=it_mem t ht; exact hb (by rw [e,←er]; simp; exact .inr (.inr (.inr ⟨r,hr,rfl⟩)))) q)
      · exact ⟨by show vs.length≤sizeLine; rw [hvl]; exact Nat.le_trans hl (by decide),us,rv,gC.at gT⟩
      · have hj:j < rs.length:=by have:=(List.getElem?_eq_some_iff.mp hxs).1; have:=hy.1; omega
        have er:rs[j]? =some rs[j]:=List.getElem?_eq_getElem hj
        have ex:xss[j]? =some (xss[j]'(by omega)):=by simp
        rw [TX I (hy.2 j _ _ er hxs) (hr.2 j _ _ er ex)]
        exact hx j _ ex
      · refine ⟨hz2,(sb.2 _ D.zt).trans (hk _ _ D.zt D.ot (fun t ht e=>?_) st.ti),⟨us.toArray,by simp; omega,(sb.2 _ D.zo).trans hT1⟩,fun r hr=>?_⟩
        · obtain ⟨r,hr,er⟩:=it_mem t ht; exact (D.zi r hr).2.2 (er.trans e.symm)
        · obtain ⟨t,ht,et⟩:∃ t∈pG s.heap rs,t={ r with xs:=nR s.heap r.l }:=⟨_,List.mem_map.mpr ⟨r,hr,rfl⟩,rfl⟩
          have q:=hi1 t ht
          subst et
          have q':ZIt h1 r (i + 1):=q
          exact q'.keep fun o z=>(sb.2 _ (D.zi r hr).1).trans z
      · rw [aF (lt b hb)]
        exact (hf b hb).1
  done :=by
    intro X hP hw hK hc i pins s σ H E I hf st hg
    subst hP hw hK
    obtain ⟨xs,t,hr,hx⟩:=hg
    match rs,hn,D,st,hr,hf with
    | r :: dM,_,D,st,hr,hf =>
      obtain ⟨its,rv,e,q⟩:=sG I (hr.2 0 r xs rfl rfl)
      have hl:=rv.length
      have hx':(its.toArray)[i]? =none:=by simp; omega
      have a0:ZAt s.heap { r with xs:=nR s.heap r.l }:=by have:=q r.it; rw [←e] at this; exact this
      refine VU (r:={ r with xs:=nR s.heap r.l }) (rs:=pG s.heap dM) (I.ok.hd hc) (aAW (g:=s.heap) D) (aBh (g:=s.heap) st) a0 (by show (nR s.heap r.l)[i]? =none; rw [e]; exact hx') fun h1 hk=>⟨rfl,I.turns (t':=s.toks) (ch:=[z,r.it]) (fun b hb=>?_) (fun b hb=>?_) fun b o hb q=>hk b o (fun z=>hb (by simp [z])) (fun z=>hb (by simp [z])) q⟩
      · have hb':b∈z :: TO :: TI :: (r :: dM).map Zr.it:=by simp at hb ⊢; rcases hb with z | z <;> simp [z]
        obtain ⟨f0,f1,f2,f3,f4,f5⟩:=hf b hb'
        exact ⟨f3,f1,f4,f5⟩
      · have hb':b∈z :: TO :: TI :: (r :: dM).map Zr.it:=by simp at hb ⊢; rcases hb with z | z <;> simp [z]
        exact (hf b hb').1
  self:=fun _ _ _ _ _ st h=>wpAny_pyIter_zip st.z h
end
section
variable {X:Cx} {pins:List (Addr×Obj)} {σ:St} {H:Hp} {s:Shared} {h':Heap}
noncomputable def aMc (K:W.Frag) (ta:TA):TI:=fun σ H R=>ta σ H fun vs H1=>∃ ls:List (Bool×Addr),vs=ls.map (fun p=>V.ref p.2)∧(ls.length=2∨ls.length=3)∧
  (∃ xss:List (List V),xss.length=ls.length∧∀ (j:Nat) (p:Bool×Addr) (xs:List V),ls[j]? =some p→xss[j]? =some xs→uG K H1 p.1 p.2 xs)∧∀ rs:List Zr,rs.map (fun r=>(r.b,r.l))=ls→R (Itz K rs) H1
theorem BG:∀ {ls:List (Bool×Addr)} {us:List Value},aG (ls.map fun p=>V.ref p.2) us→us=ls.map fun p=>Value.ref p.2
  | [],_,.nil=>rfl
  | p :: r,_,.cons a b=>by
    have e:=BG (ls:=r) b
    cases a
    rw [e]; rfl
theorem aHc {es0:List Expr} {x1} {tp:Pos} {e:Expr} {es:List Expr} {ta:TA} {p pos:Pos} (hg:Gl X "zip") (hm:X.mg "zip"=none) (ha:PA X (e :: es) ta) (hs:starEach (e :: es) X.env=(false,eval e X.env) :: starEach es X.env) (hpl:(backTo pos (starEach es X.env)).any (·.1)=false) :
    PI X (.Tuple es0 x1 tp) (.Call (.Name "zip" p) (e :: es) [] pos) (aMc X.K ta):=by
  intro pins s σ H R I h
  refine Call_ (nK I hg hm boot_zip (PyProof.Rows.callWith_type1 (thn (ha pos pins s σ H _ I h) fun us s1 ⟨vs,H1,I1,r1,q1⟩=>?_) hs hpl))
  obtain ⟨ls,e,hl,⟨xss,hxl,hx⟩,q⟩:=q1
  subst e
  have eu:=BG r1
  subst eu
  obtain ⟨rs,ers⟩:∃ rs:List Zr,rs=ls.zipIdx.map fun p=>⟨s1.heap.objs.size + p.2,p.1.2,p.1.1,nR s1.heap p.1.2⟩:=⟨_,rfl⟩
  have rlen:rs.length=ls.length:=by rw [ers,List.length_map,List.length_zipIdx]
  have rget:∀ (j:Nat) (r:Zr),rs[j]? =some r→∃ p,ls[j]? =some p∧r=⟨s1.heap.objs.size + j,p.2,p.1,nR s1.heap p.2⟩:=fun j r hr=>by
    rw [ers,List.getElem?_map,List.getElem?_zipIdx] at hr
    cases ep:ls[j]? with
    | none=>rw [ep] at hr; cases hr
    | some p =>
      rw [ep] at hr
      have:=Option.some.inj hr
      exact ⟨p,rfl,by rw [←this]; simp⟩
  have rmem:∀ r∈rs,∃ (j:Nat) (p:Bool×Addr),ls[j]? =some p∧r=⟨s1.heap.objs.size + j,p.2,p.1,nR s1.heap p.2⟩∧j < ls.length:=fun r hr=>by
    obtain ⟨j,hj,ej⟩:=List.getElem_of_mem hr
    obtain ⟨p,a,b⟩:=rget j r (by rw [List.getElem?_eq_getElem hj,ej])
    exact ⟨j,p,a,b,by omega⟩
  have e1:rs.map (fun r=>(r.b,r.l))=ls:=by
    refine List.ext_getElem? fun j=>?_
    rw [ers,List.map_map,List.getElem?_map,List.getElem?_zipIdx]
    cases ls[j]? <;> rfl
  have e2:(ls.map fun p=>Value.ref p.2)=rs.map fun r=>Value.ref r.l:=by rw [←e1,List.map_map]; rfl
  have at_:∀ r∈rs,ZAt s1.heap r:=fun r hr=>by
    obtain ⟨j,p,a,rfl,hj⟩:=rmem r hr
    obtain ⟨its,_,e,q⟩:=sG I1 (hx j p (xss[j]'(by omega)) a (by simp))
    rw [e]; exact q _
  have lt_:∀ r∈rs,r.l < s1.heap.objs.size:=fun r hr=>by
    have:=at_ r hr
    unfold ZAt at this
    split at this
    · obtain ⟨o,z,_⟩:=this; exact Heap.lt_size z
    · obtain ⟨o,z,_⟩:=this; exact Heap.lt_size z
  rw [e2]
  refine aAq (by rw [rlen]; exact hl) at_ (fun j r hr=>by obtain ⟨p,_,rfl⟩:=rget j r hr; rfl) fun h2 S hsz hk=>?_
  have I2:Inv X pins σ H1 { s1 with heap:=h2 }:=I1.kept (t':=s1.toks) hk
  refine wpAny_pyIter_zip (s:={ s1 with heap:=h2 }) S.z ?_
  have nn:∀ {m n:Nat},m < n→m≠n:=fun h=>Nat.ne_of_lt h
  have D:Ap (s1.heap.objs.size + rs.length + 2) (s1.heap.objs.size + rs.length) (s1.heap.objs.size + rs.length + 1) rs:=by
    refine ⟨?_,fun r hr=>?_,fun r hr=>?_,fun r hr t ht=>?_,Nat.ne_of_lt (by omega),Nat.ne_of_lt (by omega),Nat.ne_of_lt (by omega)⟩
    · rw [ers,List.map_map]
      refine List.pairwise_iff_getElem.mpr fun i j hi hj hij=>?_
      simp only [List.getElem_map,Function.comp,List.getElem_zipIdx]
      exact Nat.ne_of_lt (by omega)
    · obtain ⟨j,p,a,rfl,hj⟩:=rmem r hr
      exact ⟨Nat.ne_of_lt (by show s1.heap.objs.size + j < _; omega),Nat.ne_of_lt (by show s1.heap.objs.size + j < _; omega),Nat.ne_of_lt (by show s1.heap.objs.size + j < _; omega)⟩
    · have:=lt_ r hr
      exact ⟨Nat.ne_of_lt (Nat.lt_of_lt_of_le this (by omega)),Nat.ne_of_lt (Nat.lt_of_lt_of_le this (by omega))⟩
    · have:=lt_ r hr
      obtain ⟨j,p,a,rfl,hj⟩:=rmem t ht
      exact Nat.ne_of_lt (Nat.lt_of_lt_of_le this (Nat.le_add_right _ _))
  refine ⟨s1.heap.objs.size + rs.length + 2,_,_,_,H1,rfl,I2,aAx D (by intro z; rw [z] at rlen; simp at rlen; omega) (by omega),S,fun b hb=>?_,q rs e1⟩
  have hb':s1.heap.objs.size≤b:=by
    simp only [List.mem_cons,List.mem_map] at hb
    rcases hb with rfl | rfl | rfl | ⟨r,hr,rfl⟩
    · exact Nat.le_trans (Nat.le_add_right _ rs.length) (Nat.le_add_right _ 2)
    · exact Nat.le_trans (Nat.le_add_right _ rs.length) (Nat.le_add_right _ 1)
    · exact Nat.le_add_right _ _
    · obtain ⟨j,p,a,rfl,hj⟩:=rmem r hr; exact Nat.le_add_right _ _
  exact I1.fpOk hb' (I1.hok.fresh hb')
end
end L2
namespace L2
open PySem PySem.Spec PyProof.Rows
section
variable {X:Cx}
theorem GP:∀ {bs:List Bool} {us:List Value} {i:Nat} {v:Value},aG (bs.map V.bl) us→us[i]? =some v→∃ b,bs[i]? =some b∧v= .bool b
  | [],_,_,_,r,h=>by cases r; simp at h
  | b :: bs,_,0,v,r,h=>by
    cases r with
    | cons r1 r2 =>
      simp at h; subst h
      exact ⟨b,rfl,r1⟩
  | b :: bs,_,i + 1,v,r,h=>by
    cases r with
    | cons r1 r2 =>
      obtain ⟨c,e,q⟩:=GP (i:=i) r2 (by simpa using h)
      exact ⟨c,by simpa using e,q⟩
theorem OO {s:Shared} {h':Heap} {o:Obj} (hk:∀ b x,b∉ [s.heap.objs.size]→(s.heap.push o).get? b=some x→h'.get? b=some x):∀ b x,s.heap.get? b=some x→h'.get? b=some x :=
  fun b x e=>hk b x (fun hm=>by rw [List.mem_singleton.mp hm] at e; exact Nat.lt_irrefl _ (Heap.lt_size e)) (Heap.get?_push_of_some _ e)
theorem PJ (bs:List Bool):((List.range bs.length).all fun i=>(bs[i]?).getD true)=bs.all id:=by
  rw [Bool.eq_iff_iff,List.all_eq_true,List.all_eq_true]
  constructor
  · intro h b hb
    obtain ⟨i,hi,rfl⟩:=List.getElem_of_mem hb
    have:=h i (List.mem_range.mpr hi)
    simp only [List.getElem?_eq_getElem hi,Option.getD_some] at this
    exact this
  · intro h i hi
    have hi':=List.mem_range.mp hi
    simp only [List.getElem?_eq_getElem hi',Option.getD_some]
    exact h _ (List.getElem_mem hi')
theorem TC (hc:X.calm=true):bL X (.builtin "all") (fun xs H Q=>∃ (p:Addr) (bs:List Bool),xs=[.ref p]∧H p=some (.lst (bs.map V.bl))∧Q (.bl (bs.all id)) H):=by
  intro pins s σ H xs us Q I r ⟨p,bs,e,hp,q⟩
  subst e
  obtain ⟨u,rfl,ru⟩:=lG r
  cases ru
  obtain ⟨_,its,n,rv,ho⟩:=I.hok _ _ hp
  have hl:s.heap.IsList p its.toArray:=⟨_,ho,rfl,n,rfl⟩
  have hlt:p < s.heap.objs.size:=Heap.lt_size ho
  refine call_all_walk (wpAny_pyIter_list hl ?_)
  refine ⟨s.heap.objs.size,[s.heap.objs.size,p],[s.heap.objs.size],its.toArray.size,_,_,fun i=>(bs[i]?).getD true,rfl,Walks.list (A:=X.A.in1) (I.ok.hd hc) _ p (Nat.ne_of_lt hlt) its.toArray,
    ⟨⟨_,Heap.get?_push_size _ rfl,rfl,rfl⟩,hl.push _⟩,fun i v s' Q' E' hP hQ=>?_,fun h' tk hk=>?_⟩
  · obtain ⟨b,e,rfl⟩:=GP rv (i:=i) (v:=v) (by simpa using hP)
    simp only [e,Option.getD_some] at hQ
    exact wpAny_truthy_bool hQ
  · have e:((List.range its.toArray.size).all fun i=>(bs[i]?).getD true)=bs.all id:=by
      have:=rv.length
      rw [List.length_map] at this
      rw [List.size_toArray,←this]; exact PJ bs
    rw [e]
    exact ⟨.bl _,H,I.kept (t':=tk) (OO hk),rfl,q⟩
theorem SJ (hc:X.calm=true):bL X (.builtin "sum") (fun xs H Q=>∃ (p:Addr) (ns:List Int),xs=[.ref p]∧H p=some (.lst (ns.map V.int))∧Q (.int ns.sum) H):=by
  intro pins s σ H xs us Q I r ⟨p,ns,e,hp,q⟩
  subst e
  obtain ⟨u,rfl,ru⟩:=lG r
  cases ru
  obtain ⟨_,its,n,rv,ho⟩:=I.hok _ _ hp
  have hl:s.heap.IsList p its.toArray:=⟨_,ho,rfl,n,rfl⟩
  have hi:IntsAre its ns:=nS rv
  obtain ⟨xs,hx⟩:=hi.allInts.items
  have hl':s.heap.IsList p (intItems xs):=hx▸hl
  refine sum_intListG (I.ok.hd hc) hl' fun h' tk t' hk=>?_
  have e1:ns=xs.toList.map (·.1):=by
    rw [←nums_intItems,←hx]
    exact (show numsOf its.toArray.toList=ns from hi.numsOf).symm
  have e2:preSum (numAt xs) xs.size=ns.sum:=by
    rw [preSum_eq,List.take_of_length_le (by simp),e1]
  rw [e2]
  exact ⟨.int _,H,I.kept (t':=tk) hk,⟨_,rfl⟩,q⟩
end
end L2
namespace LX
open PySem PyProof.Rows
section
variable {prog:Program} {w:World} {A:Around} {E:Value→Shared→Prop} {s:Shared}
theorem aFx {it t:Addr} {items:Array Value} (hne:t≠it):∀ (n i:Nat) (s:Shared) (Q:List Value→Shared→Prop),s.heap.IsListIter it t i→s.heap.IsList t items→i + n≤items.size→
    (∀ h',h'.IsListIter it t (i + n)→Heap.SameBut it s.heap h'→Q ((items.toList.drop i).take n) { s with heap:=h' })→wpAny (model prog w) A (draw (.ref it) n) Q E s
  | 0,i,s,Q,hit,_,_,hQ=>by
    show wpAny _ _ (pure []) Q E s
    exact wpAny_pure (by simpa using hQ s.heap hit (Heap.SameBut.refl ..))
  | n + 1,i,s,Q,hit,ht,hle,hQ=>by
    have hlt:i < items.size:=by omega
    show wpAny _ _ (pyNext (.ref it) >>= _) Q E s
    refine wpAny_bind (wpAny_pyNext_list_item hit ht (x:=items[i]) (by simp [hlt]) fun h1 hit1 hs1=>?_)
    refine wpAny_bind (wpAny_holding (aFx hne n (i + 1) _ _ hit1 (ht.extBut hs1.extBut hne) (by omega) fun h2 hit2 hs2=>wpAny_pure ?_))
    have hd:items.toList.drop i=items[i] :: items.toList.drop (i + 1):=by simp [List.drop_eq_getElem_cons,hlt]
    have:=hQ h2 (by rw [show i + (n + 1)=i + 1 + n by omega]; exact hit2) (hs1.trans hs2)
    rw [hd,List.take_succ_cons] at this
    exact this
theorem aBJ {t:Addr} {items:Array Value} {Q:List Value→Shared→Prop} (hh:A.handled=none) (ht:s.heap.IsList t items)
    (hQ:∀ h',Heap.ExtBut s.heap.objs.size s.heap h'→Q items.toList { s with heap:=h' }):wpAny (model prog w) A (unpackItems (.ref t) items.size none) Q E s:=by
  have hlt:t≠s.heap.objs.size:=by obtain ⟨o,ho,_⟩:=ht; exact Nat.ne_of_lt (Heap.lt_size ho)
  unfold unpackItems
  refine wpAny_bind ?_
  unfold notIterableAtAll
  refine wpAny_bind (wpAny_specialOf ht.typeIs slot_list_iter.lookup ?_)
  refine wpAny_pure ?_
  simp only [Bool.false_eq_true,if_false]
  refine wpAny_bind (wpAny_holding (wpAny_pyIter_list ht ?_))
  refine wpAny_bind (wpAny_holding (aFx hlt items.size 0 _ _ ⟨_,Heap.get?_push_size _ rfl,rfl,rfl⟩ (ht.push _) (by omega) fun h1 hit1 hs1=>?_))
  have hall:List.take items.size (List.drop 0 items.toList)=items.toList:=by
    rw [List.drop_zero]; exact List.take_of_length_le (by simp)
  rw [hall]
  rw [if_neg (by simp)]
  have ht1:h1.IsList t items:=(ht.push _).extBut hs1.extBut hlt
  refine wpAny_bind (wpAny_holding (wpAny_pyNext_list_end hh hit1 ht1 (by simp) fun h2 he2=>?_))
  simp only [Option.isSome_none,Bool.false_eq_true,if_false]
  refine wpAny_pure (hQ h2 fun b o hb e=>he2 b o hb (hs1.extBut b o hb (Heap.get?_push_of_some _ e)))
theorem aMP {env:Env} {elts:List Expr} {x1:Nat} {pos:Pos} {t:Addr} {items:Array Value} {Q:Unit→Shared→Prop} (hh:A.handled=none) (ht:s.heap.IsList t items)
    (hn:(assignEach elts env).length=items.size) (hstar:(assignEach elts env).findIdx? (·.1)=none)
    (h:∀ h',Heap.ExtBut s.heap.objs.size s.heap h'→wpAny (model prog w) A (assignInOrder ((assignEach elts env).map (·.2)) items.toList) Q E { s with heap:=h' }) :
    wpAny (model prog w) A (assign (.Tuple elts x1 pos) env (.ref t)) Q E s:=by
  rw [assign_Tuple]
  refine wpAny_bind (wpAny_standAt ?_)
  unfold unpack
  rw [hn,hstar]
  exact wpAny_bind (wpAny_holding (aBJ hh ht h))
end
end LX
namespace L2
open PySem PySem.Spec PyProof.Rows
section
variable {X:Cx} {pos:Pos}
noncomputable def aM3 (n:Nat) (t:TGs):TG:=fun v σ H Q=>∃ a xs,v= .ref a∧H a=some (.lst xs)∧xs.length=n∧t xs σ H Q
theorem aHL {es:List Expr} {k:Nat} {t:TGs} {n:Nat} (hc:X.calm=true) (h:PGs X es t)
    (hn:(assignEach es X.env).length=n) (hst:(assignEach es X.env).findIdx? (·.1)=none):PG X (.Tuple es k pos) (aM3 n t):=by
  intro pins s σ H v u Q I r hw
  obtain ⟨a,xs,e1,hq,hl,hw⟩:=hw
  subst e1
  cases r
  obtain ⟨_,its,nn,rv,ho⟩:=I.hok _ _ hq
  have ht:s.heap.IsList a its.toArray:=⟨_,ho,rfl,nn,rfl⟩
  refine LX.aMP (I.ok.hd hc) ht (by simp [hn,←hl,rv.length]) hst fun h' hx=>?_
  have I1:Inv X pins σ H { s with heap:=h' }:=I.kept (t':=s.toks) fun b o e=>hx b o (Nat.ne_of_lt (Heap.lt_size e)) e
  exact h pins _ σ H xs _ Q I1 (by simpa using rv) hw
noncomputable def aMk (C:Addr) (sp:Sp):R2:=fun x y H Q=>∃ p dx fs p' dx' fs',x= .ref p∧y= .ref p'∧H p=some (.ins C dx fs)∧H p'=some (.ins C dx' fs')∧sp [.ref p,.ref p'] H (fun v H'=>∃ b,v= .bl b∧Q (.bl b) H') E0
theorem aGC {k:Nat} {f C:Addr} {fd:FuncData} {sp:Sp} (M:zZ X.K C "__eq__" f) (F:cJ X.prog X.w X.K X.mg X.base CX0 k f fd ["self","other"] sp) (hr:bS k X.A) (hb:aE X.K fd ["self","other"] []) :
    OpR X (compareOp .Eq) (aMk C sp):=by
  intro pins s σ H x y v u Q I rx ry ⟨p,dx,fs,p',dx',fs',e1,e2,ea,eb,q⟩
  subst e1 e2
  cases rx
  cases ry
  obtain ⟨od,J⟩:=NV I ea
  obtain ⟨od',J'⟩:=NV I eb
  obtain ⟨m,Fm⟩:=I.fr
  refine W.cmp_ofEq (W.cmp_K hr.units0 Fm I.ok.mod.kin J J'.type (by unfold W.notFirst; simp) M.at_ M.fn
    (thn (aH4 (dvs:=[]) (ds:=[]) (vs:=[.ref p,.ref p']) F hr I.env0 hb .nil VP I (.cons rfl (.cons rfl .nil)) q) fun v s' ⟨x,H',I',rx,b,e,q'⟩=>?_))
  subst e
  cases rx
  exact ⟨.bl b,H',I',rfl,q'⟩
variable {a b c d:Expr} {ta tb tc td:TE}
theorem TV (hc:X.calm=true):bL X (.builtin "max") (fun xs H Q=>∃ (p:Addr) (ns:List Int),xs=[.ref p]∧SqT X.K H p (ns.map V.int)∧ns≠ []∧∀ m,m∈ns→(∀ x∈ns,x≤m)→Q (.int m) H):=by
  intro pins s σ H xs us Q I r ⟨p,ns,e,hp,hne,q⟩
  subst e
  obtain ⟨u,rfl,ru⟩:=lG r
  cases ru
  obtain ⟨its,rv,ht,_⟩:=I.tuple hp
  have hl:s.heap.IsTuple p its.toArray:=ht
  have hi:IntsAre its ns:=nS rv
  obtain ⟨xs,hx⟩:=hi.allInts.items
  have hl':s.heap.IsTuple p (intItems xs):=hx▸hl
  obtain ⟨o,ho,hcl,n,hd⟩:=id hl'
  have hlt:p < s.heap.objs.size:=Heap.lt_size ho
  have e1:ns=xs.toList.map (·.1):=by
    rw [←nums_intItems,←hx]
    exact (show numsOf its.toArray.toList=ns from hi.numsOf).symm
  have hsz:ns.length=xs.size:=by rw [e1]; simp
  have hpos:0 < xs.size:=by
    rw [←hsz]; exact List.length_pos_iff.mpr hne
  refine call_max_walk (wpAny_pyIter_tuple hl' ?_)
  refine ⟨s.heap.objs.size,[s.heap.objs.size,p],[s.heap.objs.size],_,_,_,_,rfl,Walks.tuple (A:=X.A.in1) (I.ok.hd hc) _ p (Nat.ne_of_lt hlt) (intItems xs),
    ⟨⟨_,Heap.get?_push_size _ rfl,rfl,rfl⟩,hl'.push _⟩,fun d hd=>?_,by simpa [intItems] using hpos,CmpOf.ints_gt (numAt xs) (fun _ _=>intItems_at),fun v h' tk hP hk=>?_⟩
  · rcases List.mem_cons.mp hd with rfl | hd
    · exact Heap.lt_size (Heap.get?_push_size _ rfl)
    · obtain rfl:=List.mem_singleton.mp hd
      exact Heap.lt_size (Heap.get?_push_of_some _ ho)
  · have hP':(intItems xs)[argBest (fun i j=>decide (numAt xs i > numAt xs j)) (xs.size - 1)]? =some v:=by simpa [intItems] using hP
    obtain ⟨t,rfl⟩:=intItems_at hP'
    obtain ⟨b1,b2⟩:=argBest_gt (numAt xs) (xs.size - 1)
    have num:∀ j (hj:j < xs.size),∃ h:j < ns.length,numAt xs j=ns[j]:=fun j hj=>⟨by omega,by subst e1; simp [numAt,hj]⟩
    refine ⟨.int _,H,I.kept (t':=tk) (OO hk),⟨_,rfl⟩,q _ ?_ fun x hx'=>?_⟩
    · obtain ⟨h1,h2⟩:=num _ (show argBest (fun i j=>decide (numAt xs i > numAt xs j)) (xs.size - 1) < xs.size by omega)
      rw [h2]; exact List.getElem_mem h1
    · obtain ⟨j,hj,rfl⟩:=List.getElem_of_mem hx'
      obtain ⟨h1,h2⟩:=num j (by omega)
      rw [←h2]; exact b2 j (by omega)
theorem PP (hc:X.calm=true):bL X (.builtin "sum") (fun xs H Q=>∃ (p:Addr) (ns:List Int),xs=[.ref p]∧SqT X.K H p (ns.map V.int)∧Q (.int ns.sum) H):=by
  intro pins s σ H xs us Q I r ⟨p,ns,e,hp,q⟩
  subst e
  obtain ⟨u,rfl,ru⟩:=lG r
  cases ru
  obtain ⟨its,rv,ht,_⟩:=I.tuple hp
  have hl:s.heap.IsTuple p its.toArray:=ht
  have hi:IntsAre its ns:=nS rv
  obtain ⟨xs,hx⟩:=hi.allInts.items
  have hl':s.heap.IsTuple p (intItems xs):=hx▸hl
  refine W.ktm_sumG (I.ok.hd hc) hl' fun h' tk t' hk=>?_
  have e1:ns=xs.toList.map (·.1):=by
    rw [←nums_intItems,←hx]
    exact (show numsOf its.toArray.toList=ns from hi.numsOf).symm
  have e2:preSum (numAt xs) xs.size=ns.sum:=by
    rw [preSum_eq,List.take_of_length_le (by simp),e1]
  rw [e2]
  exact ⟨.int _,H,I.kept (t':=tk) hk,⟨_,rfl⟩,q⟩
end
section
variable {X:Cx}
end
section
variable {X:Cx} {pos:Pos}
end
end L2
namespace LE
open PySem PyProof.Rows
open AutoSeq1 (wpAny_loadPart')
open MeetsSeq MeetsSeq2 MeetsSeq3 SeqRoads2
theorem LJ (l:Addr) (o:Obj) (items:Array Value) (n:Nat) (hc:o.cls= .type "tuple") (hd:o.data= .seq items n) (u:Tok) :
    Meets (Builtin.«tuple.__mul__» ⟨[.ref l,.int 1 u],[]⟩) (fun _ R s=>s.heap.get? l=some o∧R (.ok (.ret (.ref l))) s) :=
  .of_wp fun prog w A R s h=>by
    obtain ⟨hp,g,d,tk,os⟩:=s
    obtain ⟨oc,od,dt,sl⟩:=o
    replace hc:oc= .type "tuple":=hc
    replace hd:dt= .seq items n:=hd
    subst hc hd
    obtain ⟨hl,h⟩:=h
    wp_walk using wpAny_loadPart' hl
    exact ⟨_,rfl,h⟩
end LE
namespace L2
open PySem PySem.Spec PyProof.Rows
section
variable {X:Cx}
noncomputable def aI6 (K:W.Frag):R2:=fun x y H Q=>∃ l k xs,x= .ref l∧y= .int k∧SqT K H l xs∧xs≠ []∧1≤k∧xs.length * k.toNat≤10000∧(k=1→Q (.ref l) H)∧∀ p,H p=none→Q (.ref p) (upd H p (.tup (List.replicate k.toNat xs).flatten))
theorem aDt:OpR X (binaryOp .Mult) (aI6 X.K):=by
  intro pins s σ H x y v u Q I rx ry ⟨l,k,xs,e1,e2,hH,hne,hk,hz,q1,q⟩
  subst e1 e2
  cases rx
  obtain ⟨t,rfl⟩:=ry
  obtain ⟨its,r,⟨o,ho,hc,n,hd⟩,z⟩:=I.tuple hH
  have hlen:=r.length
  have ne:its.toArray.isEmpty=false:=by
    cases its with
    | nil=>cases xs with
      | nil=>exact absurd rfl hne
      | cons a b=>cases hlen
    | cons a b=>rfl
  by_cases e1:k=1
  · subst e1
    exact wpAny_binaryOp_repeat_ref (T:="tuple") (U:="int") (by decide) ⟨o,ho,hc⟩ (fun s'=>typeIs_int s' 1 t) LE.jF F.fills_int_mul F.slot_int_rmul LE.pX F.slot_int_index.lookup
      (call_meets F.slot_int_rmul (typeIs_int s 1 t) F.entry_int_rmul (F.args_int_rmul_2 _ _) (LE.lX 1 t l o hc hd)
        ⟨ho,rfl,⟨o,ho,hc⟩,call_meets F.slot_tuple_mul ⟨o,ho,hc⟩ F.entry_tuple_mul (F.args_tuple_mul_2 _ _) (LE.LJ l o its.toArray n hc hd t) ⟨ho,⟨.ref l,H,I,rfl,q1 rfl⟩⟩⟩)
  have hz':its.length * k.toNat≤10000:=by rw [←hlen]; exact hz
  have kz:((its.length:Nat):Int) * k=((its.length * k.toNat:Nat):Int):=by
    rw [Int.natCast_mul]; congr 1; omega
  have hnew:List.foldl (fun x1 x2=>x1 ++ x2) #[] (List.replicate k.toNat its.toArray)=(List.replicate k.toNat its).flatten.toArray:=by
    have:=AU its k.toNat []
    rw [List.nil_append] at this
    exact this
  have hfl:(List.replicate k.toNat its).flatten.length=k.toNat * its.length:=NJ its k.toNat
  have k63:k < 20000:=by
    have h1:1≤its.length:=by
      cases its with
      | nil=>cases ne
      | cons a b=>simp
    have h2:k.toNat≤its.length * k.toNat:=Nat.le_mul_of_pos_left _ h1
    omega
  refine wpAny_binaryOp_repeat_ref (T:="tuple") (U:="int") (by decide) ⟨o,ho,hc⟩ (fun s'=>typeIs_int s' k t) LE.jF F.fills_int_mul F.slot_int_rmul LE.pX F.slot_int_index.lookup
    (call_meets F.slot_int_rmul (typeIs_int s k t) F.entry_int_rmul (F.args_int_rmul_2 _ _) (LE.lX k t l o hc hd)
      ⟨ho,rfl,⟨o,ho,hc⟩,call_meets F.slot_tuple_mul ⟨o,ho,hc⟩ F.entry_tuple_mul (F.args_tuple_mul_2 _ _) (LE.SZ l o its.toArray n hc hd k t ?_ ?_ ?_ ?_ ?_ ?_) ⟨ho, ?_⟩⟩)
  · simp only [Bool.or_eq_true,decide_eq_true_eq]; omega
  · rw [ne,Bool.false_or]; simp only [beq_iff_eq]; omega
  · rw [ne,Bool.or_false]; simp only [decide_eq_true_eq]; omega
  · rw [List.size_toArray,kz]; omega
  · rw [List.size_toArray,kz]; unfold Builtin.Tuple.tupleTooMany; simp only [decide_eq_true_eq]; have:(10000:Nat)≤sizeLine:=by decide
    omega
  · rw [hnew,List.size_toArray,hfl,Nat.mul_comm]; exact Nat.le_trans hz' (by decide)
  · rw [hnew]
    refine ⟨.ref _,_,I.laid (t':=s.toks) (o:=.tup (List.replicate k.toNat xs).flatten) (fun b ob q=>Heap.get?_push_of_some _ q) (Nat.le_refl _) ?_,rfl,q _ (I.hok.fresh (Nat.le_refl _))⟩
    exact ⟨by rw [NJ,Nat.mul_comm]; exact Nat.le_trans hz (by decide),_,r.rep k.toNat,gC.new _ _⟩
end
section
variable {κ:Type} [DecidableEq κ]
noncomputable def valV (kvs:List (κ×V)) (k:κ):Option V:=(kvs.find? fun kv=>decide (kv.1=k)).map (·.2)
noncomputable def aBK (kvs:List (κ×V)) (k:κ) (v:V):List (κ×V) :=
  if (kvs.any fun kv=>decide (kv.1=k))=true then kvs.map (fun kv=>if kv.1=k then (kv.1,v) else kv) else kvs ++ [(k,v)]
noncomputable def aE4 (kvs:List (κ×V)) (k:κ):List (κ×V):=kvs.filter fun kv=>decide (kv.1≠k)
theorem aJ1 {k:κ}:valV ([]:List (κ×V)) k=none:=rfl
theorem wQ {p:κ×V} {r:List (κ×V)} {k:κ} (e:p.1=k):valV (p :: r) k=some p.2:=by simp [valV,List.find?_cons,e]
theorem wE {p:κ×V} {r:List (κ×V)} {k:κ} (e:¬p.1=k):valV (p :: r) k=valV r k:=by simp [valV,List.find?_cons,e]
theorem tI.getD {o:Option V} {u:Option Value} {d:V} {d':Value} (r:tI o u) (rd:aL d d'):aL (o.getD d) (u.getD d'):=by
  cases o with
  | none=>cases u with
    | none=>exact rd
    | some _=>exact (show False from r).elim
  | some _=>cases u with
    | none=>exact (show False from r).elim
    | some _=>exact r
theorem KV.val {kvs:List (κ×V)} {vs:List (κ×Value)} (r:KV kvs vs) (k:κ):tI (valV kvs k) (valueAt vs k):=by
  unfold KV at r
  induction r with
  | nil=>exact True.intro
  | @cons p q ps qs h t ih =>
    obtain ⟨h1,h2⟩:=h
    by_cases e:p.1=k
    · have e':q.1=k:=h1.symm.trans e
      have b:valueAt (q :: qs) k=some q.2:=by simp [valueAt,List.find?_cons,e']
      rw [wQ e,b]; exact h2
    · have e':¬q.1=k:=fun z=>e (h1.trans z)
      have b:valueAt (q :: qs) k=valueAt qs k:=by simp [valueAt,List.find?_cons,e']
      rw [wE e,b]; exact ih
theorem KV.any {kvs:List (κ×V)} {vs:List (κ×Value)} (r:KV kvs vs) (k:κ):(kvs.any fun kv=>decide (kv.1=k))=vs.any fun kv=>decide (kv.1=k):=by
  unfold KV at r
  induction r with
  | nil=>rfl
  | cons h t ih=>rw [List.any_cons,List.any_cons,ih,h.1]
theorem KV.drop {kvs:List (κ×V)} {vs:List (κ×Value)} (r:KV kvs vs) (k:κ):KV (aE4 kvs k) (without vs k):=by
  unfold KV at r ⊢
  unfold aE4 without
  induction r with
  | nil=>exact .nil
  | @cons p q ps qs h t ih =>
    obtain ⟨h1,h2⟩:=h
    rw [List.filter_cons,List.filter_cons]
    by_cases e:p.1=k
    · have a:¬decide (p.1≠k)=true:=by simp [e]
      have b:¬decide (q.1≠k)=true:=by simp [h1.symm.trans e]
      rw [if_neg a,if_neg b]; exact ih
    · have e':¬q.1=k:=fun z=>e (h1.trans z)
      have a:decide (p.1≠k)=true:=by simp [e]
      have b:decide (q.1≠k)=true:=by simp [e']
      rw [if_pos a,if_pos b]; exact .cons ⟨h1,h2⟩ ih
theorem KV.keys {kvs:List (κ×V)} {vs:List (κ×Value)} (r:KV kvs vs):kvs.map (·.1)=vs.map (·.1):=by
  unfold KV at r
  induction r with
  | nil=>rfl
  | cons h t ih=>rw [List.map_cons,List.map_cons,ih,h.1]
theorem KV.length {kvs:List (κ×V)} {vs:List (κ×Value)} (r:KV kvs vs):kvs.length=vs.length:=Paired.length r
end
theorem aFG {P:Program} {w:World} {k:Key} {u:Value} (r:aL (kV k) u):(dS P w).is k u=true:=by
  cases k with
  | inl i=>obtain ⟨t,e⟩:=(show ∃ t,u=Value.int i t from r); subst e; exact ID P w i t
  | inr x=>obtain ⟨t,e⟩:=(show ∃ t,u=Value.str x t from r); subst e; exact GL P w x t
theorem AK {P:Program} {w:World}:∀ {ks:List Key} {us:List Value},aG (ks.map kV) us→ItemsAre (dS P w) ks us
  | [],_,r=>by rw [List.map_nil] at r; cases r; exact .nil
  | k :: ks,_,r=>by
    rw [List.map_cons] at r
    cases r with
    | cons h t=>exact .cons (aFG h) (AK t)
noncomputable abbrev KT (H:Hp):List (List Key×V)→List (List Key×Addr×Value)→Prop:=Paired fun p q=>p.1=q.1∧H q.2.1=some (.tup (p.1.map kV))∧aL p.2 q.2.2
theorem KT.val {H:Hp} {kvs:List (List Key×V)} {xs:List (List Key×Addr×Value)} (r:KT H kvs xs) (k:List Key):tI (valV kvs k) ((atKey xs k).map (·.2)):=by
  induction r with
  | nil=>exact True.intro
  | @cons p q ps qs h t ih =>
    obtain ⟨h1,_,h2⟩:=h
    by_cases e:p.1=k
    · have e':q.1=k:=h1.symm.trans e
      have b:atKey (q :: qs) k=some q.2:=by simp [atKey,List.find?_cons,e']
      rw [wQ e,b]; exact h2
    · have e':¬q.1=k:=fun z=>e (h1.trans z)
      have b:atKey (q :: qs) k=atKey qs k:=by simp [atKey,List.find?_cons,e']
      rw [wE e,b]; exact ih
theorem KT.keeps {H H':Hp} {kvs:List (List Key×V)} {xs:List (List Key×Addr×Value)} (r:KT H kvs xs) (ht:∀ b ys,H b=some (.tup ys)→H' b=some (.tup ys)):KT H' kvs xs :=
  Paired.mapP r fun _ _ z=>⟨z.1,ht _ _ z.2.1,z.2.2⟩
section
variable {P:Program} {w:World} {H:Hp} {h:Heap} {a:Addr}
theorem aEL {u:HO} (ok:HOk P w H h) (e:Rd H a u):cU P w H h a u:=e.ok ok
theorem aEm {kvs:List (Key×V)} (ok:HOk P w H h) (e:Rd H a (.dK kvs)):kvs.length≤sizeLine∧(a == sysModules)=false∧∃ vs,KV kvs vs∧h.DictOf (dS P w) a vs :=
  show cU P w H h a (.dK kvs) from aEL ok e
theorem ZM {ks:List Key} (ok:HOk P w H h) (e:H a=some (.tup (ks.map kV))):(tupleKind (dS P w)).is h ks a:=by
  obtain ⟨_,its,r,⟨o,h1,h2,n,h3⟩,_⟩:=(show cU P w H h a (.tup (ks.map kV)) from ok a _ e)
  exact ⟨o,its.toArray,n,h1,h2,h3,by simpa using AK r⟩
theorem aEJ {kvs:List (List Key×V)} (ok:HOk P w H h) (e:Rd H a (.dT kvs)):kvs.length≤sizeLine∧(a == sysModules)=false∧
    ∃ xs,KT H kvs xs∧h.DictOfH (tupleKind (dS P w)) a xs:=by
  obtain ⟨z,y,xs,r,o,es,ep,h1,h2,h3,h4,h5⟩:=(show cU P w H h a (.dT kvs) from aEL ok e)
  refine ⟨z,y,xs,r,o,es,ep,h1,h2,h3,h4,fun x hx=>?_,h5⟩
  have all:∀ {l:List (List Key×V)} {m:List (List Key×Addr×Value)},KT H l m→∀ x∈m,(tupleKind (dS P w)).is h x.1 x.2.1:=by
    intro l m q
    induction q with
    | nil=>intro x hx; exact nomatch hx
    | @cons p q ps qs hq t ih =>
      intro x hx
      rcases List.mem_cons.mp hx with e | hx
      · subst e
        exact ZM ok (by rw [←hq.1]; exact hq.2.1)
      · exact ih x hx
  exact all r x hx
end
noncomputable def JN (H:Hp) (a:Addr) (y:V) (r:Option V):Prop :=
  (∃ kvs k,Rd H a (.dK kvs)∧y=kV k∧r=valV kvs k)∨∃ kvs k b,Rd H a (.dT kvs)∧y= .ref b∧H b=some (.tup (k.map kV))∧r=valV kvs k
noncomputable def aDz (H:Hp) (a:Addr) (y v:V) (H':Hp):Prop :=
  (∃ kvs k,H a=some (.dK kvs)∧y=kV k∧kvs.length < sizeLine∧H'=upd H a (.dK (aBK kvs k v)))∨
  ∃ kvs k b,H a=some (.dT kvs)∧y= .ref b∧H b=some (.tup (k.map kV))∧kvs.length < sizeLine∧H'=upd H a (.dT (aBK kvs k v))
theorem JN.k {H:Hp} {a:Addr} {kvs:List (Key×V)} {k:Key} (e:H a=some (.dK kvs)):JN H a (kV k) (valV kvs k):=.inl ⟨kvs,k,.inl e,rfl,rfl⟩
theorem JN.t {H:Hp} {a b:Addr} {kvs:List (List Key×V)} {k:List Key} (e:H a=some (.dT kvs)) (eb:H b=some (.tup (k.map kV))):JN H a (.ref b) (valV kvs k):=.inr ⟨kvs,k,b,.inl e,rfl,eb,rfl⟩
theorem aDz.k {H:Hp} {a:Addr} {kvs:List (Key×V)} {k:Key} {v:V} (e:H a=some (.dK kvs)) (hl:kvs.length < sizeLine):aDz H a (kV k) v (upd H a (.dK (aBK kvs k v))):=.inl ⟨kvs,k,e,rfl,hl,rfl⟩
theorem aDz.t {H:Hp} {a b:Addr} {kvs:List (List Key×V)} {k:List Key} {v:V} (e:H a=some (.dT kvs)) (eb:H b=some (.tup (k.map kV))) (hl:kvs.length < sizeLine) :
    aDz H a (.ref b) v (upd H a (.dT (aBK kvs k v))):=.inr ⟨kvs,k,b,e,rfl,eb,hl,rfl⟩
section
variable {X:Cx} {pins:List (Addr×Obj)} {σ:St} {H:Hp} {s:Shared} {a:Addr} {y v:V} {u r:Value} {o:Option V} {A:Around} {E:Value→Shared→Prop}
theorem PM {Q:Value→Shared→Prop} (hu:A.units + 1 < cLine) (I:Inv X pins σ H s) (g:JN H a y (some v)) (ry:aL y u) (h:∀ w' s',Inv X pins σ H s'→aL v w'→Q w' s') :
    wpAny (model X.prog X.w) A (getItem (.ref a) u) Q E s:=by
  rcases g with ⟨kvs,k,e,ey,l⟩ | ⟨kvs,k,b,e,ey,eb,l⟩
  · subst ey
    obtain ⟨z,hd,vs,rel,dd⟩:=aEm I.hok e
    obtain ⟨w',hw,rw'⟩:=tI.some_of (v:=v) (o:=valueAt vs k) (by rw [l]; exact rel.val k)
    exact wpAny_getItem_of (aFG ry) dd.mapOf hw (h w' _ (I.tok _) rw')
  · subst ey
    cases (show u=Value.ref b from ry)
    obtain ⟨z,hd,xs,rel,dd⟩:=aEJ I.hok e
    obtain ⟨w',hw,rw'⟩:=tI.some_of (v:=v) (o:=(atKey xs k).map (·.2)) (by rw [l]; exact rel.val k)
    obtain ⟨p,hp,hp2⟩:=Option.map_eq_some_iff.mp hw
    refine wpAny_getItem_heap (tupleKind_room_in1 hu) (ZM I.hok eb) dd hp ?_
    rw [hp2]
    exact h w' _ (I.tok _) rw'
end
section
variable {X:Cx} {pins:List (Addr×Obj)} {σ:St} {H:Hp} {s:Shared} {a:Addr} {kvs:List (Key×V)} {k:Key} {u:Value} {A:Around} {E:Value→Shared→Prop}
end
theorem IA {X:Cx} {pins:List (Addr×Obj)} {σ:St} {H:Hp} {s:Shared} {a:Addr} {y:V} {o:Option V} (I:Inv X pins σ H s) (g:JN H a y o):s.TypeIs (.ref a) "dict":=by
  rcases g with ⟨kvs,k,e,_,_⟩ | ⟨kvs,k,b,e,_,_,_⟩
  · obtain ⟨_,_,vs,_,dd⟩:=aEm I.hok e
    exact dd.typeIs
  · obtain ⟨_,_,xs,_,dd⟩:=aEJ I.hok e
    exact dd.typeIs
section
variable {X:Cx} {o i e value:Expr} {pos pos' tpos:Pos} {td ty tv:TE}
end
section
variable {X:Cx} {pos:Pos}
end
noncomputable abbrev VV:List (V×V)→List (Value×Value)→Prop:=Paired fun p q=>aL p.1 q.1∧aL p.2 q.2
noncomputable abbrev TD:=St→Hp→(List (V×V)→Hp→Prop)→Prop
noncomputable def PD (X:Cx) (pos:Pos) (keys:List (Option Expr)) (values:List Expr) (t:TD):Prop :=
  ∀ (pins:List (Addr×Obj)) (s:Shared) (σ:St) (H:Hp) (Q:List (V×V)→Hp→Prop),Inv X pins σ H s→t σ H Q→
    wpAny (model X.prog X.w) X.A (evalPairs (pairTrees keys values X.env pos)) (fun vs s'=>∃ ps H',Inv X pins σ H' s'∧VV ps vs∧Q ps H') X.xe s
theorem PD.imp {X:Cx} {pos:Pos} {ks:List (Option Expr)} {vs:List Expr} {t t':TD} (h:PD X pos ks vs t) (g:∀ σ H Q,t' σ H Q→t σ H Q):PD X pos ks vs t':=fun pins s σ H Q I q=>h pins s σ H Q I (g _ _ _ q)
noncomputable def aNv:R2:=fun x y H Q=>∃ a v,x= .ref a∧JN H a y (some v)∧Q v H
theorem aDr {X:Cx} {k:Nat} (hr:bS k X.A):IxR X aNv:=by
  intro value slice pins s σ H x y v u Q I rx ry ⟨a,z,ex,g,q⟩ hs
  subst ex
  cases rx
  exact tail_any (IA I g) slot_dict_getitem.lookup (PM (by have:=hr.units; omega) I g ry fun w' s' I' r'=>⟨z,H,I',r',q⟩) hs
end L2
namespace LE
open PySem PySem.W PySem.Calls PyProof.Rows Builtin
section
variable {prog:Program} {w:World} {A:Around} {E:Value→Shared→Prop} {s:Shared} {K:Frag} {x C L f:Addr} {h₀:Heap} {m:Str→Option Value} {ox:Obj} {od:Option Obj} {b tb:Value}
end
end LE
namespace L2
open PySem PySem.Spec PyProof.Rows
section
variable {X:Cx}
structure NeC (K:W.Frag) (C:Addr):Prop where
  ne:W.findIn K (.ref C) "__ne__"=some (some (.builtin "object.__ne__"))
  ob:W.subIn K (.ref C) (.type "object")=some true
  bo:W.findIn K (.ref C) "__bool__"=some none
end
end L2
namespace LE
open PySem PyProof.Rows
open AutoSeq1 (wpAny_loadPart')
open MeetsSeq MeetsSeq2 MeetsSeq3 SeqRoads2 SeqAt
end LE
namespace HT
open PySem PySem.Spec PyProof.Rows
section
variable {prog:Program} {w:World} {A:Around} {E:Value→Shared→Prop} {s:Shared}
end
end HT
namespace L2
open PySem PySem.Spec PyProof.Rows
section
variable {X:Cx} {pins:List (Addr×Obj)} {σ:St} {H:Hp} {s:Shared} {a:Addr} {xs:List V}
end
section
variable {X:Cx} {o e:Expr} {to te:TE} {pos apos:Pos}
end
section
variable {X:Cx} {a:Addr} {es:Array DictEntry} {n:Nat}
noncomputable def aMf (a:Addr) (es:Array DictEntry):R2:=fun x y H Q=>∃ z w v,x= .ref a∧y= .str z∧findBy Value.isStrOf es z=some w∧aL v w∧Q v H
theorem aLx (hl:X.K.lookup a=some ⟨.type "dict",none,.dict es n, #[]⟩) (hk:W.KeysLit X.w.params es.toList):IxR X (aMf a es):=by
  intro value slice pins s σ H x y v u Q I rx ry ⟨z,w,v',ex,ey,ef,rv,q⟩ hs
  subst ex ey
  cases rx
  obtain ⟨t,rfl⟩:=ry
  have hm:=W.mapOf_K (prog:=X.prog) I.kIn hl hk
  exact tail_any hm.typeIs slot_dict_getitem.lookup (wpAny_getItem_of (strKind_is X.prog X.w z t) hm ef ⟨v',H,I.tok _,rv,q⟩) hs
noncomputable def aIo (a:Addr) (es:Array DictEntry) (neg:Bool):R2:=fun x y H Q=>∃ z,x= .str z∧y= .ref a∧Q (.bl (if neg then !(findBy Value.isStrOf es z).isSome else (findBy Value.isStrOf es z).isSome)) H
theorem aGM (hl:X.K.lookup a=some ⟨.type "dict",none,.dict es n, #[]⟩) (hk:W.KeysLit X.w.params es.toList) (hn:(a == sysModules)=false):OpR X (compareOp .In) (aIo a es false):=by
  intro pins s σ H x y v u Q I rx ry ⟨z,ex,ey,q⟩
  subst ex ey
  cases ry
  obtain ⟨t,rfl⟩:=rx
  exact wpAny_in_of (strKind_is X.prog X.w z t) hn (W.mapOf_K (prog:=X.prog) I.kIn hl hk) ⟨.bl _,H,I.tok _,rfl,q⟩
theorem QQ (hl:X.K.lookup a=some ⟨.type "dict",none,.dict es n, #[]⟩) (hk:W.KeysLit X.w.params es.toList) (hn:(a == sysModules)=false):OpR X (compareOp .NotIn) (aIo a es true):=by
  intro pins s σ H x y v u Q I rx ry ⟨z,ex,ey,q⟩
  subst ex ey
  cases ry
  obtain ⟨t,rfl⟩:=rx
  exact wpAny_notIn_of (strKind_is X.prog X.w z t) hn (W.mapOf_K (prog:=X.prog) I.kIn hl hk) ⟨.bl _,H,I.tok _,rfl,q⟩
theorem HQ {P:Params} (l:List (Str×Tok×Value)) (x:Str):findBy Value.isStrOf (l.map fun p=>(⟨PyData.keyHash P p.1,.str p.1 p.2.1,p.2.2⟩:DictEntry)).toArray x=(l.find? fun p=>p.1 == x).map (·.2.2):=by
  unfold findBy
  rw [List.find?_toArray,List.find?_map]
  have e:((fun e:DictEntry=>Value.isStrOf x e.key) ∘ fun p:Str×Tok×Value=>(⟨PyData.keyHash P p.1,.str p.1 p.2.1,p.2.2⟩:DictEntry))=fun p=>p.1 == x:=by
    funext p
    show Value.isStrOf x (.str p.1 p.2.1)=_
    unfold Value.isStrOf
    first
      | rfl
      | (dsimp only; rw [Bool.eq_iff_iff]; simp [eq_comm])
  rw [e]
  cases l.find? fun p=>p.1 == x <;> rfl
theorem xX {P:Params}:∀ (l:List (Str×Tok×Value)),W.KeysLit P (l.map fun p=>(⟨PyData.keyHash P p.1,.str p.1 p.2.1,p.2.2⟩:DictEntry))
  | []=>trivial
  | p :: r=>⟨⟨p.1,p.2.1,rfl,rfl⟩,xX r⟩
theorem OC {ks:List (Str×Str)} {g:Str→Addr} {l:List (Str×Tok×Value)} (z:Str) (e:(l.map fun p=>(p.1,p.2.2))=ks.map fun q=>(q.1,Value.ref (g q.2))):(l.find? fun p=>p.1 == z).map (·.2.2)=(ks.lookup z).map fun f=>.ref (g f):=by
  induction l generalizing ks with
  | nil =>
    cases ks with
    | nil=>rfl
    | cons q r=>cases e
  | cons p l ih =>
    cases ks with
    | nil=>cases e
    | cons q r =>
      rw [List.map_cons,List.map_cons] at e
      injection e with e1 e2
      injection e1 with e3 e4
      rw [List.find?_cons,List.lookup_cons,e3]
      by_cases h:q.1=z
      · rw [show (q.1 == z)=true from beq_iff_eq.mpr h,show (z == q.1)=true from beq_iff_eq.mpr h.symm]
        simp only [Option.map_some,e4]
      · rw [show (q.1 == z)=false from beq_eq_false_iff_ne.mpr h,show (z == q.1)=false from beq_eq_false_iff_ne.mpr (Ne.symm h)]
        exact ih e2
end
section
variable {X:Cx} {pos:Pos}
noncomputable def aKo (i j l:Nat) (ta:TA):TS:=fun D σ H=>ta σ H fun vs H1=>∃ v w u,vs=[v,w,u]∧D.nx (((σ.set i (some v)).set j (some w)).set l (some u)) H1
theorem aCo {i j l:Nat} {x y z:Str} {a b c:Expr} {ta:TA} {px py pz pt:Pos} {kt k2 pt2} (hc:X.calm=true) (hN:X.N.Nodup) (hi:X.N[i]? =some x) (hj:X.N[j]? =some y) (hl:X.N[l]? =some z) (hij:i≠j) (hil:i≠l) (hjl:j≠l)
    (hx:X.env.scope.names.lookup x=some .local) (hy:X.env.scope.names.lookup y=some .local) (hz:X.env.scope.names.lookup z=some .local) (ha:PA X [a,b,c] ta)
    (hw:swappedStores [.Tuple [.Name x px,.Name y py,.Name z pz] kt pt] (.Tuple [a,b,c] k2 pt2) X.env=pure (some [x,y,z]))
    (hs:swapsWithSole [.Tuple [.Name x px,.Name y py,.Name z pz] kt pt] (.Tuple [a,b,c] k2 pt2) pos.line X.env=pure false:=by rfl) :
    PS X (.Assign [.Tuple [.Name x px,.Name y py,.Name z pz] kt pt] (.Tuple [a,b,c] k2 pt2) pos) (aKo i j l ta):=by
  intro pins s σ H D I h
  rw [exec_Assign_arm]
  refine wpAny_bind (wpAny_standAt ?_)
  rw [hs]
  refine wpAny_bind (wpAny_pure ?_)
  rw [if_neg (by decide)]
  refine wpAny_bind (Tuple_ (thn (ha _ pins s σ H _ I h) fun us s1 ⟨vs,H1,I1,r1,q1⟩=>?_))
  obtain ⟨v,w,v3,e1,q1⟩:=q1
  subst e1
  obtain ⟨u1,u2,u3,rfl,rv,rw',ru⟩:∃ u1 u2 u3,us=[u1,u2,u3]∧aL v u1∧aL w u2∧aL v3 u3:=by
    cases r1 with
    | cons p q =>
      cases q with
      | cons p' q' =>
        cases q' with
        | cons p2 q2 =>
          cases q2
          exact ⟨_,_,_,rfl,p,p',p2⟩
  refine wpAny_newObj_type ?_ (by show 3≤sizeLine; decide)
  have I2:Inv X pins σ H1 { s1 with heap:=s1.heap.push { cls:=.type "tuple",data:=.seq [u1,u2,u3].toArray } }:=I1.kept (t':=s1.toks) fun b o e=>Heap.get?_push_of_some _ e
  rw [hw]
  refine wpAny_bind (wpAny_pure ?_)
  show wpAny (model X.prog X.w) X.A (do rule "assign.swapped-stores"; let items ←unpackItems (.ref s1.heap.objs.size) 3 none; assignInOrder [fun v=>bindName X.env z v,fun v=>bindName X.env y v,fun v=>bindName X.env x v] items.reverse; pure Flow.next) _ _ _
  refine wpAny_bind (wpAny_rule (wpAny_bind (unpackItems_tuple (items:= #[u1,u2,u3]) (I.ok.hd hc) (IsTup.new s1.heap _) fun h' hx'=>?_)))
  have I3:=I2.kept (h':=h') (t':=s1.toks) fun b o e=>hx' b o (Nat.ne_of_lt (Heap.lt_size e)) e
  show wpAny _ _ (assignInOrder [fun v=>bindName X.env z v,fun v=>bindName X.env y v,fun v=>bindName X.env x v] [u3,u2,u1] >>= fun _=>pure Flow.next) _ _ _
  refine wpAny_bind (assignInOrder_cons (wpAny_bindName (jJ I3 hN hl (.inl hz) ru (fun s2 I4=>?_) (.inr hz))))
  refine assignInOrder_cons (wpAny_bindName (jJ I4 hN hj (.inl hy) rw' (fun s2 I4=>?_) (.inr hy)))
  refine assignInOrder_cons (wpAny_bindName (jJ I4 hN hi (.inl hx) rv (fun s3 I5=>assignInOrder_nil (wpAny_pure ?_)) (.inr hx)))
  rw [List.set_comm _ _ (Ne.symm hij),List.set_comm _ _ (Ne.symm hil),List.set_comm _ _ (Ne.symm hjl)] at I5
  exact ⟨_,H1,I5,q1⟩
end
end L2
namespace L3
open PySem PySem.Spec
open PyProof.Rows hiding St
open L2
inductive PV where
  | non | bl (b:Bool) | int (i:Int) | str (x:Str) | tup (xs:List PV) | lst (xs:List PV) | scr (ns:List Int)
  | ob (c:String) (ns:List Str) (xs:List PV) | ref (a:Addr) | ty (n:String) | cl (c:String) | fn (f:Str) | emp | dct (ks:List Key) (xs:List PV)
structure Ev where
  K:W.Frag
  cls:String→Addr
  fna:Str→Addr:=fun _=>0
mutual
noncomputable def RP (E:Ev) (Z:Hp):PV→V→Prop
  | .non=>fun v=>v= .non
  | .bl b=>fun v=>v= .bl b
  | .int i=>fun v=>v= .int i
  | .str x=>fun v=>v= .str x
  | .ty n=>fun v=>v= .ty n
  | .ref a=>fun v=>v= .ref a
  | .cl c=>fun v=>v= .ref (E.cls c)
  | .fn f=>fun v=>v= .ref (E.fna f)
  | .emp=>fun v=>∃ a,v= .ref a∧Z a=some (.dK [])
  | .scr ns=>fun v=>∃ a,v= .ref a∧SqL E.K Z a (ns.map V.int)
  | .tup xs=>fun v=>∃ a vs,v= .ref a∧SqT E.K Z a vs∧RPs E Z xs vs
  | .lst xs=>fun v=>∃ a vs,v= .ref a∧Z a=some (.lst vs)∧RPs E Z xs vs
  | .dct ks xs=>fun v=>∃ a vs,v= .ref a∧Z a=some (.dK (ks.zip vs))∧ks.length=vs.length∧RPs E Z xs vs
  | .ob c ns xs=>fun v=>∃ a dx vs,v= .ref a∧Z a=some (.ins (E.cls c) dx (ns.zip vs))∧ns.length=vs.length∧RPs E Z xs vs
noncomputable def RPs (E:Ev) (Z:Hp):List PV→List V→Prop
  | []=>fun vs=>vs=[]
  | x :: xs=>fun vs=>∃ v r,vs=v :: r∧RP E Z x v∧RPs E Z xs r
end
theorem dQ {K:W.Frag} {Z Z':Hp} {a:Addr} {xs:List V} (e:aR Z Z') (h:SqT K Z a xs):SqT K Z' a xs:=by
  rcases h with (h | ⟨o,h⟩) | h
  · exact .inl (.inl (e _ _ h))
  · exact .inl (.inr ⟨o,e _ _ h⟩)
  · exact .inr h
section
variable {E:Ev} {Z Z' Z1 Z2 H H':Hp}
mutual
theorem RP.mono (e:aR Z Z'):∀ {x:PV} {v:V},RP E Z x v→RP E Z' x v
  | .non,_,h=>h
  | .bl _,_,h=>h
  | .int _,_,h=>h
  | .str _,_,h=>h
  | .ty _,_,h=>h
  | .ref _,_,h=>h
  | .cl _,_,h=>h
  | .fn _,_,h=>h
  | .emp,_,⟨a,e1,h⟩=>⟨a,e1,e _ _ h⟩
  | .scr _,_,⟨a,e1,h⟩=>⟨a,e1,e.seq h⟩
  | .tup _,_,⟨a,vs,e1,h,r⟩=>⟨a,vs,e1,dQ e h,RPs.mono e r⟩
  | .lst _,_,⟨a,vs,e1,h,r⟩=>⟨a,vs,e1,e _ _ h,RPs.mono e r⟩
  | .dct _ _,_,⟨a,vs,e1,h,l,r⟩=>⟨a,vs,e1,e _ _ h,l,RPs.mono e r⟩
  | .ob _ _ _,_,⟨a,dx,vs,e1,h,l,r⟩=>⟨a,dx,vs,e1,e _ _ h,l,RPs.mono e r⟩
theorem RPs.mono (e:aR Z Z'):∀ {xs:List PV} {vs:List V},RPs E Z xs vs→RPs E Z' xs vs
  | [],_,h=>h
  | _ :: _,_,⟨v,r,e1,h,t⟩=>⟨v,r,e1,RP.mono e h,RPs.mono e t⟩
end
theorem RPs.length:∀ {xs:List PV} {vs:List V},RPs E Z xs vs→xs.length=vs.length
  | [],_,h=>by cases h; rfl
  | _ :: _,_,⟨v,r,e1,_,t⟩=>by subst e1; rw [List.length_cons,List.length_cons,RPs.length t]
theorem RPs.get:∀ {xs:List PV} {vs:List V} {i:Nat} {x:PV},RPs E Z xs vs→xs[i]? =some x→∃ v,vs[i]? =some v∧RP E Z x v
  | [],_,_,_,_,e=>by simp at e
  | y :: _,_,0,x,⟨v,r,e1,h,t⟩,e=>by
    subst e1
    have:y=x:=by simpa using e
    subst this
    exact ⟨v,rfl,h⟩
  | _ :: _,_,i + 1,x,⟨v,r,e1,h,t⟩,e=>by
    subst e1
    obtain ⟨u,a,b⟩:=RPs.get (i:=i) t (by simpa using e)
    exact ⟨u,by simpa using a,b⟩
theorem RPs.append:∀ {xs ys:List PV} {vs us:List V},RPs E Z xs vs→RPs E Z ys us→RPs E Z (xs ++ ys) (vs ++ us)
  | [],_,_,_,h,q=>by cases h; exact q
  | _ :: _,_,_,us,⟨v,r,e1,h,t⟩,q=>by subst e1; exact ⟨v,r ++ us,rfl,h,RPs.append t q⟩
theorem RPs.set {y:PV} {u:V} (q:RP E Z y u):∀ {xs:List PV} {vs:List V} (i:Nat),RPs E Z xs vs→RPs E Z (xs.set i y) (vs.set i u)
  | [],_,_,h=>by cases h; exact rfl
  | _ :: _,_,0,⟨v,r,e1,h,t⟩=>by subst e1; exact ⟨u,r,rfl,q,t⟩
  | _ :: _,_,i + 1,⟨v,r,e1,h,t⟩=>by subst e1; exact ⟨v,r.set i u,rfl,h,RPs.set q i t⟩
theorem RPs.take:∀ {xs:List PV} {vs:List V} (n:Nat),RPs E Z xs vs→RPs E Z (xs.take n) (vs.take n)
  | _,_,0,_=>rfl
  | [],_,_ + 1,h=>by cases h; exact rfl
  | _ :: _,_,n + 1,⟨v,r,e1,h,t⟩=>by subst e1; exact ⟨v,r.take n,rfl,h,RPs.take n t⟩
theorem RPs.drop:∀ {xs:List PV} {vs:List V} (n:Nat),RPs E Z xs vs→RPs E Z (xs.drop n) (vs.drop n)
  | _,_,0,h=>h
  | [],_,_ + 1,h=>by cases h; exact rfl
  | _ :: _,_,n + 1,⟨v,r,e1,h,t⟩=>by subst e1; exact RPs.drop n t
theorem RPs.ints:∀ {ns:List Int} {vs:List V},RPs E Z (ns.map PV.int) vs→vs=ns.map V.int
  | [],_,h=>h
  | _ :: _,_,⟨v,r,e1,h,t⟩=>by
    have h':v=V.int _:=h
    subst e1 h'; rw [RPs.ints t]; rfl
theorem RPs.ofInts:∀ (ns:List Int),RPs E Z (ns.map PV.int) (ns.map V.int)
  | []=>rfl
  | n :: r=>⟨.int n,r.map V.int,rfl,rfl,RPs.ofInts r⟩
theorem RPs.reverse:∀ {xs:List PV} {vs:List V},RPs E Z xs vs→RPs E Z xs.reverse vs.reverse
  | [],_,h=>by cases h; exact rfl
  | x :: xs,_,⟨v,r,e1,h,t⟩=>by
    subst e1
    rw [List.reverse_cons,List.reverse_cons]
    exact RPs.append (RPs.reverse t) ⟨v,[],rfl,h,rfl⟩
end
inductive GO where
  | lst (xs:List PV) | ins (c:String) (ns:List Str) (xs:List PV)
noncomputable abbrev Gh:=Addr→Option GO
noncomputable def gup (G:Gh) (a:Addr) (o:GO):Gh:=fun b=>if b=a then some o else G b
noncomputable def QW (G:Gh) (a:Addr):Gh:=fun b=>if b=a then none else G b
theorem bA {G:Gh} {a:Addr} {o:GO}:gup G a o a=some o:=if_pos rfl
theorem eC {G:Gh} {a b:Addr} {o:GO} (h:b≠a):gup G a o b=G b:=if_neg h
theorem vM {G:Gh} {a:Addr} {o u:GO}:gup (gup G a o) a u=gup G a u:=by funext b; unfold gup; split <;> rfl
theorem EJ {G:Gh} {a b:Addr} (h:b≠a):QW G a b=G b:=if_neg h
theorem RS {G:Gh} {a:Addr}:QW G a a=none:=if_pos rfl
theorem aAu {G:Gh} {a:Addr} {o:GO} (h:G a=none):QW (gup G a o) a=G:=by
  funext b; unfold QW gup
  split
  · rename_i e; rw [e]; exact h.symm
  · rfl
noncomputable def RO (E:Ev) (Z:Hp):GO→HO→Prop
  | .lst xs,o=>∃ vs,o= .lst vs∧RPs E Z xs vs
  | .ins c ns xs,o=>∃ dx vs,o= .ins (E.cls c) dx (ns.zip vs)∧ns.length=vs.length∧RPs E Z xs vs
theorem RO.mono {E:Ev} {Z Z':Hp} (e:aR Z Z'):∀ {o:GO} {o':HO},RO E Z o o'→RO E Z' o o'
  | .lst _,_,⟨vs,a,b⟩=>⟨vs,a,b.mono e⟩
  | .ins _ _ _,_,⟨dx,vs,a,l,b⟩=>⟨dx,vs,a,l,b.mono e⟩
structure Sim (E:Ev) (F H Z:Hp) (G:Gh):Prop where
  z:aR Z H
  f:∀ a o,F a=some o→H a=some o∧Z a=none∧G a=none
  g:∀ a o,G a=some o→Z a=none∧∃ o',H a=some o'∧RO E Z o o'
section
variable {E:Ev} {F H Z:Hp} {G G':Gh} {p:Addr} {o:HO} {go:GO}
theorem Sim.zn (S:Sim E F H Z G) (n:H p=none):Z p=none:=by
  cases e:Z p with
  | none=>rfl
  | some u=>rw [S.z _ _ e] at n; cases n
theorem Sim.gn (S:Sim E F H Z G) (n:H p=none):G p=none:=by
  cases e:G p with
  | none=>rfl
  | some u=>obtain ⟨_,o',e',_⟩:=S.g _ _ e; rw [e'] at n; cases n
theorem Sim.fn (S:Sim E F H Z G) (n:H p=none):F p=none:=by
  cases e:F p with
  | none=>rfl
  | some u=>rw [(S.f _ _ e).1] at n; cases n
theorem Sim.fz (S:Sim E F H Z G) (n:H p=none):Sim E F (upd H p o) (upd Z p o) G:=by
  have zn:=S.zn n
  have sub:aR Z (upd Z p o):=cM zn o
  refine ⟨fun a u q=>?_,fun a u q=>?_,fun a u q=>?_⟩
  · by_cases e:a=p
    · subst e; rw [aW] at q ⊢; exact q
    · rw [aF e] at q ⊢; exact S.z _ _ q
  · obtain ⟨h1,h2,h3⟩:=S.f a u q
    have e:a≠p:=aN h1 n
    exact ⟨by rw [aF e]; exact h1,by rw [aF e]; exact h2,h3⟩
  · obtain ⟨a1,o',a2,r⟩:=S.g a u q
    have e:a≠p:=aN a2 n
    exact ⟨by rw [aF e]; exact a1,o',by rw [aF e]; exact a2,r.mono sub⟩
theorem Sim.new (S:Sim E F H Z G) (n:H p=none) (r:RO E Z go o):Sim E F (upd H p o) Z (gup G p go):=by
  refine ⟨fun a u q=>gR (S.z _ _ q) n,fun a u q=>?_,fun a u q=>?_⟩
  · obtain ⟨h1,h2,h3⟩:=S.f a u q
    have e:a≠p:=aN h1 n
    exact ⟨by rw [aF e]; exact h1,h2,by rw [eC e]; exact h3⟩
  by_cases e:a=p
  · subst e; rw [bA] at q; cases q; exact ⟨S.zn n,o,aW,r⟩
  · rw [eC e] at q
    obtain ⟨a1,o',a2,r'⟩:=S.g a u q
    exact ⟨a1,o',by rw [aF e]; exact a2,r'⟩
theorem Sim.other (S:Sim E F H Z G) (n:H p=none):Sim E F (upd H p o) Z G:=by
  refine ⟨fun a u q=>gR (S.z _ _ q) n,fun a u q=>⟨gR (S.f a u q).1 n,(S.f a u q).2⟩,fun a u q=>?_⟩
  obtain ⟨a1,o',a2,r'⟩:=S.g a u q
  exact ⟨a1,o',gR a2 n,r'⟩
theorem Sim.set {u:GO} (S:Sim E F H Z G) (n:G p=some u) (r:RO E Z go o):Sim E F (upd H p o) Z (gup G p go):=by
  obtain ⟨z,_,_,_⟩:=S.g _ _ n
  refine ⟨fun a u q=>?_,fun a u' q=>?_,fun a u q=>?_⟩
  · have e:a≠p:=aN q z
    rw [aF e]; exact S.z _ _ q
  · obtain ⟨h1,h2,h3⟩:=S.f a u' q
    have e:a≠p:=fun e=>by subst e; rw [n] at h3; cases h3
    exact ⟨by rw [aF e]; exact h1,h2,by rw [eC e]; exact h3⟩
  · by_cases e:a=p
    · subst e; rw [bA] at q; cases q; exact ⟨z,o,aW,r⟩
    · rw [eC e] at q
      obtain ⟨a1,o',a2,r'⟩:=S.g a u q
      exact ⟨a1,o',by rw [aF e]; exact a2,r'⟩
theorem Sim.frz {u:GO} (S:Sim E F H Z G) (n:G p=some u) (h:H p=some o):Sim E F H (upd Z p o) (QW G p):=by
  obtain ⟨z,_,_,_⟩:=S.g _ _ n
  refine ⟨fun a u q=>?_,fun a u' q=>?_,fun a u q=>?_⟩
  · by_cases e:a=p
    · subst e; rw [aW] at q; rw [←q]; exact h
    · rw [aF e] at q; exact S.z _ _ q
  · obtain ⟨h1,h2,h3⟩:=S.f a u' q
    have e:a≠p:=fun e=>by subst e; rw [n] at h3; cases h3
    exact ⟨h1,by rw [aF e]; exact h2,by rw [EJ e]; exact h3⟩
  · by_cases e:a=p
    · subst e; rw [RS] at q; cases q
    · rw [EJ e] at q
      obtain ⟨a1,o',a2,r'⟩:=S.g a u q
      exact ⟨by rw [aF e]; exact a1,o',a2,r'.mono (cM z o)⟩
theorem Sim.weak (S:Sim E F H Z G) (h:∀ a o,G' a=some o→G a=some o):Sim E F H Z G':=⟨S.z,fun a o q=>⟨(S.f a o q).1,(S.f a o q).2.1,by
  cases e:G' a with
  | none=>rfl
  | some u=>exact absurd (h _ _ e) (by rw [(S.f a o q).2.2]; intro z; cases z)⟩,fun a o q=>S.g a o (h a o q)⟩
theorem Sim.mine (S:Sim E F H Z G) (n:H p=none):Sim E (upd F p o) (upd H p o) Z G:=by
  refine ⟨fun a u q=>gR (S.z _ _ q) n,fun a u q=>?_,fun a u q=>?_⟩
  · by_cases e:a=p
    · subst e; rw [aW] at q ⊢; exact ⟨q,S.zn n,S.gn n⟩
    · rw [aF e] at q ⊢; exact S.f a u q
  · obtain ⟨a1,o',a2,r'⟩:=S.g a u q
    exact ⟨a1,o',gR a2 n,r'⟩
theorem Sim.turn {u:HO} (S:Sim E (upd F p u) H Z G):Sim E (upd F p o) (upd H p o) Z G:=by
  obtain ⟨h1,h2,h3⟩:=S.f p u aW
  refine ⟨fun a v q=>?_,fun a v q=>?_,fun a v q=>?_⟩
  · have e:a≠p:=aN q h2
    rw [aF e]; exact S.z _ _ q
  · by_cases e:a=p
    · subst e; rw [aW] at q ⊢; exact ⟨q,h2,h3⟩
    · rw [aF e] at q ⊢
      exact S.f a v (by rw [aF e]; exact q)
  · obtain ⟨a1,o',a2,r'⟩:=S.g a v q
    have e:a≠p:=fun e=>by subst e; rw [h3] at q; cases q
    exact ⟨a1,o',by rw [aF e]; exact a2,r'⟩
theorem Sim.mineZ (S:Sim E (upd F p o) H Z G) (n:F p=none):Sim E F H (upd Z p o) G:=by
  obtain ⟨h1,h2,h3⟩:=S.f p o aW
  have sub:aR Z (upd Z p o):=cM h2 o
  refine ⟨fun a v q=>?_,fun a v q=>?_,fun a v q=>?_⟩
  · by_cases e:a=p
    · subst e; rw [aW] at q; rw [←q]; exact h1
    · rw [aF e] at q; exact S.z _ _ q
  · have e:a≠p:=aN q n
    obtain ⟨b1,b2,b3⟩:=S.f a v (by rw [aF e]; exact q)
    exact ⟨b1,by rw [aF e]; exact b2,b3⟩
  · obtain ⟨a1,o',a2,r'⟩:=S.g a v q
    have e:a≠p:=fun e=>by subst e; rw [h3] at q; cases q
    exact ⟨by rw [aF e]; exact a1,o',a2,r'.mono sub⟩
theorem Sim.mineG (S:Sim E (upd F p o) H Z G) (n:F p=none) (r:RO E Z go o):Sim E F H Z (gup G p go):=by
  obtain ⟨h1,h2,h3⟩:=S.f p o aW
  refine ⟨S.z,fun a v q=>?_,fun a v q=>?_⟩
  · have e:a≠p:=aN q n
    obtain ⟨b1,b2,b3⟩:=S.f a v (by rw [aF e]; exact q)
    exact ⟨b1,b2,by rw [eC e]; exact b3⟩
  · by_cases e:a=p
    · subst e; rw [bA] at q; cases q; exact ⟨h2,o,h1,r⟩
    · rw [eC e] at q; exact S.g a v q
end
noncomputable abbrev PSt:=List (Option PV)
noncomputable def RSl (E:Ev) (Z:Hp):Option PV→Option V→Prop
  | none,_=>True
  | some x,o=>∃ v,o=some v∧RP E Z x v
inductive RSt (E:Ev) (Z:Hp):PSt→St→Prop
  | nil:RSt E Z [] []
  | cons {o:Option PV} {u:Option V} {σ':PSt} {σ:St}:RSl E Z o u→RSt E Z σ' σ→RSt E Z (o :: σ') (u :: σ)
section
variable {E:Ev} {Z Z':Hp}
theorem RSl.mono (e:aR Z Z'):∀ {o:Option PV} {u:Option V},RSl E Z o u→RSl E Z' o u
  | none,_,_=>trivial
  | some _,_,⟨v,a,r⟩=>⟨v,a,r.mono e⟩
theorem RSt.mono (e:aR Z Z'):∀ {σ':PSt} {σ:St},RSt E Z σ' σ→RSt E Z' σ' σ
  | _,_,.nil=>.nil
  | _,_,.cons a b=>.cons (a.mono e) (RSt.mono e b)
theorem RSt.get:∀ {σ':PSt} {σ:St} {i:Nat} {x:PV},RSt E Z σ' σ→σ'[i]? =some (some x)→∃ v,σ[i]? =some (some v)∧RP E Z x v
  | _,_,_,_,.nil,e=>by simp at e
  | _,_,0,x,.cons a _,e=>by
    simp at e; subst e
    obtain ⟨v,e1,r⟩:=a
    subst e1
    exact ⟨v,rfl,r⟩
  | _,_,i + 1,x,.cons _ b,e=>by
    obtain ⟨v,e1,r⟩:=RSt.get (i:=i) b (by simpa using e)
    exact ⟨v,by simpa using e1,r⟩
theorem RSt.set {x:PV} {v:V} (r:RP E Z x v):∀ {σ':PSt} {σ:St} (i:Nat),RSt E Z σ' σ→RSt E Z (σ'.set i (some x)) (σ.set i (some v))
  | _,_,_,.nil=>.nil
  | _,_,0,.cons _ b=>.cons ⟨v,rfl,r⟩ b
  | _,_,i + 1,.cons a b=>.cons a (RSt.set r i b)
theorem RSt.nones:∀ (n:Nat),RSt E Z (List.replicate n none) (List.replicate n none)
  | 0=>.nil
  | n + 1=>.cons trivial (RSt.nones n)
theorem RSt.append:∀ {a b:PSt} {c d:St},RSt E Z a c→RSt E Z b d→RSt E Z (a ++ b) (c ++ d)
  | _,_,_,_,.nil,h=>h
  | _,_,_,_,.cons r t,h=>.cons r (RSt.append t h)
theorem RSt.vals:∀ {xs:List PV} {vs:List V},RPs E Z xs vs→RSt E Z (xs.map some) (vs.map some)
  | [],_,h=>by cases h; exact .nil
  | _ :: _,_,⟨v,r,e,h,t⟩=>by subst e; exact .cons ⟨v,rfl,h⟩ (RSt.vals t)
noncomputable def aC (n:Nat) (xs:List PV):PSt:=xs.map some ++ List.replicate (n - xs.length) none
theorem RSt.start {N:List Str} {xs:List PV} {vs:List V} (r:RPs E Z xs vs):RSt E Z (aC N.length xs) (L2.start N vs):=by
  unfold aC L2.start
  rw [r.length]
  exact RSt.append (RSt.vals r) (RSt.nones _)
end
noncomputable abbrev PK1:=PV→Gh→Prop
noncomputable abbrev PTE:=PSt→Gh→PK1→Prop
noncomputable abbrev PTT:=PSt→Gh→(Bool→Gh→Prop)→Prop
noncomputable abbrev PTA:=PSt→Gh→(List PV→Gh→Prop)→Prop
structure hJ where
  nx:PSt→Gh→Prop
  rt:PK1
  bk:PSt→Gh→Prop
  ct:PSt→Gh→Prop
noncomputable abbrev PTS:=hJ→PSt→Gh→Prop
noncomputable def Kq (E:Ev) (F Z:Hp) (Q':PK1) (Q:VK):Prop:= ∀ x v Z1 G1 H1,aR Z Z1→Sim E F H1 Z1 G1→RP E Z1 x v→Q' x G1→Q v H1
noncomputable def KA (E:Ev) (F:Hp) (n:Nat) (Z:Hp) (Q':List PV→Gh→Prop) (Q:List V→Hp→Prop):Prop:= ∀ xs vs Z1 G1 H1,xs.length=n→aR Z Z1→Sim E F H1 Z1 G1→RPs E Z1 xs vs→Q' xs G1→Q vs H1
noncomputable def KT (E:Ev) (F Z:Hp) (Q':Bool→Gh→Prop) (Q:Bool→Hp→Prop):Prop:= ∀ b Z1 G1 H1,aR Z Z1→Sim E F H1 Z1 G1→Q' b G1→Q b H1
noncomputable def KSt (E:Ev) (F Z:Hp) (Q':PSt→Gh→Prop) (Q:St→Hp→Prop):Prop:= ∀ σ' σ Z1 G1 H1,aR Z Z1→Sim E F H1 Z1 G1→RSt E Z1 σ' σ→Q' σ' G1→Q σ H1
structure KD (E:Ev) (F Z:Hp) (D':hJ) (D:FY):Prop where
  nx:KSt E F Z D'.nx D.nx
  rt:Kq E F Z D'.rt D.rt
  bk:KSt E F Z D'.bk D.bk
  ct:KSt E F Z D'.ct D.ct
theorem Kq.mono {E:Ev} {F Z Z2:Hp} {Q':PK1} {Q:VK} (e:aR Z Z2) (k:Kq E F Z Q' Q):Kq E F Z2 Q' Q:=fun x v Z1 G1 H1 s=>k x v Z1 G1 H1 (e.trans s)
theorem KA.mono {E:Ev} {F Z Z2:Hp} {n:Nat} {Q':List PV→Gh→Prop} {Q:List V→Hp→Prop} (e:aR Z Z2) (k:KA E F n Z Q' Q):KA E F n Z2 Q' Q:=fun x v Z1 G1 H1 l s=>k x v Z1 G1 H1 l (e.trans s)
theorem KT.mono {E:Ev} {F Z Z2:Hp} {Q':Bool→Gh→Prop} {Q:Bool→Hp→Prop} (e:aR Z Z2) (k:KT E F Z Q' Q):KT E F Z2 Q' Q:=fun x Z1 G1 H1 s=>k x Z1 G1 H1 (e.trans s)
theorem KSt.mono {E:Ev} {F Z Z2:Hp} {Q':PSt→Gh→Prop} {Q:St→Hp→Prop} (e:aR Z Z2) (k:KSt E F Z Q' Q):KSt E F Z2 Q' Q:=fun x v Z1 G1 H1 s=>k x v Z1 G1 H1 (e.trans s)
theorem KD.mono {E:Ev} {F Z Z2:Hp} {D':hJ} {D:FY} (e:aR Z Z2) (k:KD E F Z D' D):KD E F Z2 D' D:=⟨k.nx.mono e,k.rt.mono e,k.bk.mono e,k.ct.mono e⟩
noncomputable def low (E:Ev) (F:Hp) (t:PTE):TE:=fun σ H Q=>∃ σ' Z G Q',RSt E Z σ' σ∧Sim E F H Z G∧t σ' G Q'∧Kq E F Z Q' Q
noncomputable def BY (E:Ev) (F:Hp) (t:PTT):TT:=fun σ H Q=>∃ σ' Z G Q',RSt E Z σ' σ∧Sim E F H Z G∧t σ' G Q'∧KT E F Z Q' Q
noncomputable def MX (E:Ev) (F:Hp) (n:Nat) (t:PTA):TA:=fun σ H Q=>∃ σ' Z G Q',RSt E Z σ' σ∧Sim E F H Z G∧t σ' G Q'∧KA E F n Z Q' Q
noncomputable def aG1 (E:Ev) (F:Hp) (t:PTS):TS:=fun D σ H=>∃ σ' Z G D',RSt E Z σ' σ∧Sim E F H Z G∧t D' σ' G∧KD E F Z D' D
noncomputable def dR (G:Gh):PV→Option (List PV)
  | .lst xs=>some xs
  | .ref a=>match G a with
    | some (.lst xs)=>some xs
    | _=>none
  | _=>none
section
variable {E:Ev} {F H Z:Hp} {G:Gh} {x:PV} {v:V} {xs:List PV}
theorem fG (S:Sim E F H Z G) (r:RP E Z x v) (h:dR G x=some xs):∃ a vs,v= .ref a∧H a=some (.lst vs)∧RPs E Z xs vs:=by
  cases x with
  | lst ys =>
    cases h
    obtain ⟨a,vs,e,q,t⟩:=r
    exact ⟨a,vs,e,S.z _ _ q,t⟩
  | ref a =>
    have e:v= .ref a:=r
    subst e
    unfold dR at h
    dsimp only at h
    split at h
    · rename_i ys e
      cases h
      obtain ⟨_,o',q,vs,e',t⟩:=S.g _ _ e
      subst e'
      exact ⟨a,vs,rfl,q,t⟩
    · cases h
  | _=>cases h
theorem eZ (S:Sim E F H Z G) (r:RP E Z (.tup xs) v):∃ a vs,v= .ref a∧SqT E.K H a vs∧RPs E Z xs vs:=by
  obtain ⟨a,vs,e,q,t⟩:=r
  exact ⟨a,vs,e,dQ S.z q,t⟩
theorem Kq.here {Q':PK1} {Q:VK} (k:Kq E F Z Q' Q) (S:Sim E F H Z G) (q:Q' x G) (r:RP E Z x v):Q v H:=k x v Z G H (aR.refl Z) S r q
theorem bE {i:Int}:RP E Z (.int i) (.int i):=rfl
theorem CL {i:Str}:RP E Z (.str i) (.str i):=rfl
theorem cP {i:Bool}:RP E Z (.bl i) (.bl i):=rfl
theorem xK:RP E Z .non .non:=rfl
theorem Kq.newZ {Q':PK1} {Q:VK} {p:Addr} {o:HO} (k:Kq E F Z Q' Q) (S:Sim E F H Z G) (n:H p=none) (r:RP E (upd Z p o) x (.ref p)) (q:Q' x G):Q (.ref p) (upd H p o) :=
  k x (.ref p) (upd Z p o) G _ (cM (S.zn n) o) (S.fz n) r q
theorem kW {vs:List V} {p:Addr} (n:Z p=none) (r:RPs E Z xs vs):RP E (upd Z p (.tup vs)) (.tup xs) (.ref p):=⟨p,vs,rfl,SqT.of aW,r.mono (cM n _)⟩
theorem mJ {vs:List V} {p:Addr} (n:Z p=none) (r:RPs E Z xs vs):RP E (upd Z p (.lst vs)) (.lst xs) (.ref p):=⟨p,vs,rfl,aW,r.mono (cM n _)⟩
end
noncomputable abbrev P2:=PV→PV→Gh→PK1→Prop
noncomputable def iK (E:Ev) (F:Hp) (p:P2):R2:=fun v u H Q=>∃ x y Z G Q',RP E Z x v∧RP E Z y u∧Sim E F H Z G∧p x y G Q'∧Kq E F Z Q' Q
noncomputable def pI (C:Int→Int→Prop) (g:Int→Int→PV):P2:=fun x y G Q=>match x,y with
  | .int i,.int j=>C i j∧Q (g i j) G
  | _,_=>False
theorem kD {E:Ev} {F:Hp} {C:Int→Int→Prop} {g:Int→Int→V} {g':Int→Int→PV} (hg:∀ Z i j,RP E Z (g' i j) (g i j)) {v u:V} {H:Hp} {Q:VK} (h:iK E F (pI C g') v u H Q):rI C g v u H Q:=by
  obtain ⟨x,y,Z,G,Q',r1,r2,S,q,k⟩:=h
  unfold pI at q
  split at q
  · obtain ⟨c,q⟩:=q
    exact ⟨_,_,r1,r2,c,k.here S q (hg _ _ _)⟩
  · exact q.elim
noncomputable def LC (x y:PV) (G:Gh) (Q:PK1):Prop:=match x,y with
  | .int i,.int j=>Q (.int (i + j)) G
  | .str i,.str j=>i.length + j.length≤sizeLine∧Q (.str (i ++ j)) G
  | .tup xs,.tup ys=>xs≠ []∧ys≠ []∧xs.length + ys.length≤sizeLine∧Q (.tup (xs ++ ys)) G
  | x,y=>∃ xs ys,dR G x=some xs∧dR G y=some ys∧xs.length + ys.length≤sizeLine∧Q (.lst (xs ++ ys)) G
theorem aCD {E:Ev} {x y:PV} {xs ys:List PV} {v u:V} {F H Z:Hp} {G:Gh} {Q':PK1} {Q:VK} (r1:RP E Z x v) (r2:RP E Z y u) (S:Sim E F H Z G) (hx:dR G x=some xs) (hy:dR G y=some ys) (hz:xs.length + ys.length≤sizeLine) (q:Q' (.lst (xs ++ ys)) G) (k:Kq E F Z Q' Q):aJS v u H Q:=by
  obtain ⟨a,vs,rfl,ha,ta⟩:=fG S r1 hx
  obtain ⟨b,us,rfl,hb,tb⟩:=fG S r2 hy
  exact ⟨a,b,vs,us,rfl,rfl,ha,hb,by rw [←ta.length,←tb.length]; exact hz,fun p n=>k.newZ S n (mJ (S.zn n) (ta.append tb)) q⟩
section
variable {X:Cx} {E:Ev} {F:Hp}
theorem aC3 (hK:E.K=X.K):OpR X (binaryOp .Add) (iK E F LC):=by
  refine (aHU.or (LH.or (aDo.or aIr))).imp fun v u H Q h=>?_
  obtain ⟨x,y,Z,G,Q',r1,r2,S,q,k⟩:=h
  unfold LC at q
  split at q
  · exact .inl ⟨_,_,r1,r2,k.here S q bE⟩
  · exact .inr (.inl ⟨_,_,r1,r2,q.1,k.here S q.2 CL⟩)
  · obtain ⟨a,vs,rfl,ha,ta⟩:=eZ S r1
    obtain ⟨b,us,rfl,hb,tb⟩:=eZ S r2
    obtain ⟨ne,ne2,hz,q⟩:=q
    refine .inr (.inr (.inl ⟨a,b,vs,us,rfl,rfl,hK▸ha,hK▸hb, ?_,by rw [←ta.length,←tb.length]; exact hz,fun e=>?_,fun _ p n=>k.newZ S n (kW (S.zn n) (ta.append tb)) q⟩))
    · intro e
      subst e
      have:=ta.length
      exact ne (List.eq_nil_of_length_eq_zero this)
    · subst e
      have:=tb.length
      exact absurd (List.eq_nil_of_length_eq_zero this) ne2
  · obtain ⟨xs,ys,hx,hy,hz,q⟩:=q
    exact .inr (.inr (.inr (aCD r1 r2 S hx hy hz q k)))
noncomputable def OA (_ j:Int):Prop:=0 < j
noncomputable def aHz (x y:PV) (G:Gh) (Q:PK1):Prop:=match x,y with
  | .int i,.int j=>BB i j∧Q (.int (i * j)) G
  | .tup xs,.int k=>xs≠ []∧1≤k∧xs.length * k.toNat≤10000∧Q (.tup (List.replicate k.toNat xs).flatten) G
  | _,_=>False
noncomputable def EZ:Operator→P2
  | .Add=>LC
  | .Sub=>pI (fun _ _=>True) fun i j=>.int (i - j)
  | .Mult=>aHz
  | .FloorDiv=>pI AW fun i j=>.int (i / j)
  | .Mod=>pI OA fun i j=>.int (i % j)
  | .Pow=>pI VO fun i j=>.int (i ^ j.toNat)
  | .LShift=>pI VO fun i j=>.int (i * 2 ^ j.toNat)
  | _=>fun _ _ _ _=>False
theorem RPs.rep {E:Ev} {Z:Hp} {xs:List PV} {vs:List V} (r:RPs E Z xs vs):∀ n:Nat,RPs E Z (List.replicate n xs).flatten (List.replicate n vs).flatten
  | 0=>rfl
  | n + 1=>by rw [List.replicate_succ,List.replicate_succ,List.flatten_cons,List.flatten_cons]; exact r.append (RPs.rep r n)
theorem wH {g:Int→Int→V} {v u:V} {H:Hp} {Q:VK} (h:rI (fun _ _=>True) g v u H Q):rI0 g v u H Q:=by
  obtain ⟨i,j,a,b,_,q⟩:=h
  exact ⟨i,j,a,b,q⟩
theorem aDc (hK:E.K=X.K):∀ (op:Operator),OpR X (binaryOp op) (iK E F (EZ op))
  | .Add=>aC3 hK
  | .Sub=>aGP.imp fun _ _ _ _ h=>wH (kD (fun _ _ _=>bE) h)
  | .Mult=>(aDd.or aDt).imp fun v u H Q h=>by
    obtain ⟨x,y,Z,G,Q',r1,r2,S,q,k⟩:=h
    replace q:aHz x y G Q':=q
    unfold aHz at q
    split at q
    · exact .inl ⟨_,_,r1,r2,q.1,k.here S q.2 bE⟩
    · obtain ⟨a,vs,rfl,ha,ta⟩:=eZ S r1
      obtain ⟨ne,h1,hz,q⟩:=q
      refine .inr ⟨a,_,vs,rfl,r2,hK▸ha,fun e=>?_,h1,by rw [←ta.length]; exact hz,fun e=>?_,fun p n=>k.newZ S n (kW (S.zn n) (ta.rep _)) q⟩
      · subst e; exact ne (List.eq_nil_of_length_eq_zero ta.length)
      · subst e
        refine k.here S q ?_
        simpa [List.replicate] using r1
    · exact q.elim
  | .FloorDiv=>UK.imp fun _ _ _ _ h=>kD (fun _ _ _=>bE) h
  | .Mod=>aHa.imp fun _ _ _ _ h=>kD (fun _ _ _=>bE) h
  | .Pow=>aIk.imp fun _ _ _ _ h=>kD (fun _ _ _=>bE) h
  | .LShift=>aG6.imp fun _ _ _ _ h=>kD (fun _ _ _=>bE) h
  | .Div=>fun _ _ _ _ _ _ _ _ _ _ _ _ h=>(by obtain ⟨_,_,_,_,_,_,_,_,q,_⟩:=h; exact q.elim)
  | .RShift=>fun _ _ _ _ _ _ _ _ _ _ _ _ h=>(by obtain ⟨_,_,_,_,_,_,_,_,q,_⟩:=h; exact q.elim)
  | .BitOr=>fun _ _ _ _ _ _ _ _ _ _ _ _ h=>(by obtain ⟨_,_,_,_,_,_,_,_,q,_⟩:=h; exact q.elim)
  | .BitXor=>fun _ _ _ _ _ _ _ _ _ _ _ _ h=>(by obtain ⟨_,_,_,_,_,_,_,_,q,_⟩:=h; exact q.elim)
  | .BitAnd=>fun _ _ _ _ _ _ _ _ _ _ _ _ h=>(by obtain ⟨_,_,_,_,_,_,_,_,q,_⟩:=h; exact q.elim)
  | .MatMult=>fun _ _ _ _ _ _ _ _ _ _ _ _ h=>(by obtain ⟨_,_,_,_,_,_,_,_,q,_⟩:=h; exact q.elim)
end
mutual
noncomputable def peq:PV→PV→Bool
  | .non,y=>match y with | .non=>true | _=>false
  | .bl a,y=>match y with | .bl b=>a == b | .int j=>(if a then 1 else 0) == j | _=>false
  | .int i,y=>match y with | .int j=>i == j | .bl b=>i == (if b then 1 else 0) | _=>false
  | .str a,y=>match y with | .str b=>a == b | _=>false
  | .tup xs,y=>match y with | .tup ys=>oG xs ys | _=>false
  | .lst xs,y=>match y with | .lst ys=>oG xs ys | _=>false
  | _,_=>false
noncomputable def oG:List PV→List PV→Bool
  | [],ys=>match ys with | []=>true | _=>false
  | x :: xs,ys=>match ys with | y :: r=>peq x y && oG xs r | []=>false
end
mutual
noncomputable def dat:PV→Option PyData
  | .non=>some .none
  | .bl b=>some (.bool b)
  | .int i=>some (.int i)
  | .str x=>some (.str x)
  | .tup xs=>match uK xs with | some ds=>some (.tuple ds) | none=>none
  | .lst xs=>match uK xs with | some ds=>some (.list ds) | none=>none
  | _=>none
noncomputable def uK:List PV→Option (List PyData)
  | []=>some []
  | x :: xs=>match dat x,uK xs with | some d,some ds=>some (d :: ds) | _,_=>none
end
mutual
theorem LY:∀ {x y:PV} {d e:PyData},dat x=some d→dat y=some e→PyData.eqv d e=peq x y
  | .non,y,d,e,h,q=>by
    simp only [dat] at h; cases h
    cases y <;> simp only [dat] at q <;> (try split at q) <;> cases q <;> simp only [PyData.eqv,peq]
  | .bl _,y,d,e,h,q=>by
    simp only [dat] at h; cases h
    cases y <;> simp only [dat] at q <;> (try split at q) <;> cases q <;> simp only [PyData.eqv,peq]
  | .int _,y,d,e,h,q=>by
    simp only [dat] at h; cases h
    cases y <;> simp only [dat] at q <;> (try split at q) <;> cases q <;> simp only [PyData.eqv,peq]
  | .str _,y,d,e,h,q=>by
    simp only [dat] at h; cases h
    cases y <;> simp only [dat] at q <;> (try split at q) <;> cases q <;> simp only [PyData.eqv,peq]
  | .tup xs,y,d,e,h,q=>by
    simp only [dat] at h
    split at h
    · rename_i ds hd
      cases h
      cases y with
      | tup ys =>
        simp only [dat] at q
        split at q
        · rename_i es he
          cases q
          simp only [PyData.eqv,peq]; exact peqs_ok hd he
        · cases q
      | _=>simp only [dat] at q <;> (try split at q) <;> cases q <;> simp only [PyData.eqv,peq]
    · cases h
  | .lst xs,y,d,e,h,q=>by
    simp only [dat] at h
    split at h
    · rename_i ds hd
      cases h
      cases y with
      | lst ys =>
        simp only [dat] at q
        split at q
        · rename_i es he
          cases q
          simp only [PyData.eqv,peq]; exact peqs_ok hd he
        · cases q
      | _=>simp only [dat] at q <;> (try split at q) <;> cases q <;> simp only [PyData.eqv,peq]
    · cases h
  | .scr _,y,d,e,h,q=>by simp [dat] at h
  | .ob _ _ _,y,d,e,h,q=>by simp [dat] at h
  | .ref _,y,d,e,h,q=>by simp [dat] at h
  | .ty _,y,d,e,h,q=>by simp [dat] at h
  | .cl _,y,d,e,h,q=>by simp [dat] at h
  | .fn _,y,d,e,h,q=>by simp [dat] at h
  | .emp,y,d,e,h,q=>by simp [dat] at h
  | .dct _ _,y,d,e,h,q=>by simp [dat] at h
theorem peqs_ok:∀ {xs ys:List PV} {ds es:List PyData},uK xs=some ds→uK ys=some es→PyData.eqvAll ds es=oG xs ys
  | [],[],_,_,h,q=>by simp only [uK] at h q; cases h; cases q; simp only [PyData.eqvAll,oG]
  | [],y :: ys,_,_,h,q=>by
    simp only [uK] at h q; cases h
    split at q <;> cases q
    simp only [PyData.eqvAll,oG]
  | x :: xs,[],_,_,h,q=>by
    simp only [uK] at h q; cases q
    split at h <;> cases h
    simp only [PyData.eqvAll,oG]
  | x :: xs,y :: ys,_,_,h,q=>by
    simp only [uK] at h q
    split at h <;> cases h
    rename_i hd hds
    split at q <;> cases q
    rename_i he hes
    simp only [PyData.eqvAll,oG]
    rw [LY hd he,peqs_ok hds hes]
end
section
variable {X:Cx} {E:Ev} {pins:List (Addr×Obj)} {σ:L2.St} {F H Z:Hp} {s:Shared}
mutual
theorem BA (I:Inv X pins σ H s) (hK:E.K=X.K) (hz:aR Z H):∀ {x:PV} {v:V} {u:Value} {d:PyData},RP E Z x v→aL v u→dat x=some d→∃ as,Reads s.heap u d as
  | .non,v,u,d,r,rv,h=>by
    simp only [dat] at h; cases h
    cases (show v= .non from r); cases rv; exact ⟨[],.none⟩
  | .bl b,v,u,d,r,rv,h=>by
    simp only [dat] at h; cases h
    cases (show v= .bl b from r); cases rv; exact ⟨[],.bool b⟩
  | .int i,v,u,d,r,rv,h=>by
    simp only [dat] at h; cases h
    cases (show v= .int i from r); obtain ⟨t,rfl⟩:=rv; exact ⟨[],.int i t⟩
  | .str x,v,u,d,r,rv,h=>by
    simp only [dat] at h; cases h
    cases (show v= .str x from r); obtain ⟨t,rfl⟩:=rv; exact ⟨[],.str x t⟩
  | .tup xs,v,u,d,r,rv,h=>by
    simp only [dat] at h
    split at h <;> cases h
    rename_i ds hd
    obtain ⟨a,vs,rfl,q,t⟩:=r
    cases rv
    obtain ⟨its,rv,ht,_⟩:=I.tuple (hK▸dQ hz q)
    obtain ⟨o,ho,hc,n,hd'⟩:=ht
    obtain ⟨as,q'⟩:=dats_reads I hK hz t rv hd
    exact ⟨as,.tuple ho hc hd' (by simpa using q')⟩
  | .lst xs,v,u,d,r,rv,h=>by
    simp only [dat] at h
    split at h <;> cases h
    rename_i ds hd
    obtain ⟨a,vs,rfl,q,t⟩:=r
    cases rv
    obtain ⟨_,its,n,rv,ho⟩:=I.hok _ _ (hz _ _ q)
    obtain ⟨as,q'⟩:=dats_reads I hK hz t rv hd
    exact ⟨_ :: as,.list ho rfl rfl (by simpa using q')⟩
  | .scr _,v,u,d,r,rv,h=>by simp [dat] at h
  | .ob _ _ _,v,u,d,r,rv,h=>by simp [dat] at h
  | .ref _,v,u,d,r,rv,h=>by simp [dat] at h
  | .ty _,v,u,d,r,rv,h=>by simp [dat] at h
  | .cl _,v,u,d,r,rv,h=>by simp [dat] at h
  | .fn _,v,u,d,r,rv,h=>by simp [dat] at h
  | .emp,v,u,d,r,rv,h=>by simp [dat] at h
  | .dct _ _,v,u,d,r,rv,h=>by simp [dat] at h
theorem dats_reads (I:Inv X pins σ H s) (hK:E.K=X.K) (hz:aR Z H):∀ {xs:List PV} {vs:List V} {us:List Value} {ds:List PyData},RPs E Z xs vs→aG vs us→uK xs=some ds→∃ as,ReadsAll s.heap us ds as
  | [],_,_,_,r,rv,h=>by
    simp only [uK] at h; cases h
    cases r; cases rv; exact ⟨[],.nil⟩
  | x :: xs,_,_,_,r,rv,h=>by
    simp only [uK] at h
    split at h <;> cases h
    rename_i hd hds
    obtain ⟨v,r',rfl,r1,r2⟩:=r
    cases rv with
    | cons q1 q2 =>
      obtain ⟨as,a⟩:=BA I hK hz r1 q1 hd
      obtain ⟨bs,b⟩:=dats_reads I hK hz r2 q2 hds
      exact ⟨as ++ bs,.cons a b⟩
end
noncomputable def pur (G:Gh):PV→PV
  | .ref a=>match G a with
    | some (.lst xs)=>.lst xs
    | _=>.ref a
  | x=>x
noncomputable def shp (x:PV):Bool:=match dat x with | some d=>SeqAt.shaped d | none=>false
theorem mL {G:Gh} (I:Inv X pins σ H s) (hK:E.K=X.K) (S:Sim E F H Z G) {x:PV} {v:V} {u:Value} {d:PyData} (r:RP E Z x v) (rv:aL v u) (h:dat (pur G x)=some d):∃ as,Reads s.heap u d as:=by
  by_cases hx:∃ a,x= .ref a
  · obtain ⟨a,rfl⟩:=hx
    have e:v= .ref a:=r
    subst e
    cases rv
    unfold pur at h
    dsimp only at h
    split at h
    · rename_i xs e
      obtain ⟨_,o',q,vs,e',t⟩:=S.g _ _ e
      subst e'
      simp only [dat] at h
      split at h <;> cases h
      rename_i ds hd
      obtain ⟨_,its,n,rv,ho⟩:=I.hok _ _ q
      obtain ⟨as,q'⟩:=dats_reads I hK S.z t rv hd
      exact ⟨_ :: as,.list ho rfl rfl (by simpa using q')⟩
    · simp [dat] at h
  · have e:pur G x=x:=by
      unfold pur
      split
      · rename_i a; exact absurd ⟨a,rfl⟩ hx
      · rfl
    rw [e] at h
    exact BA I hK S.z r rv h
noncomputable def pEq (neg:Bool) (x y:PV) (G:Gh) (Q:PK1):Prop:=shp (pur G x)=true∧shp (pur G y)=true∧Q (.bl (if neg then !peq (pur G x) (pur G y) else peq (pur G x) (pur G y))) G
theorem CY {x:PV} (h:shp x=true):∃ d,dat x=some d∧SeqAt.shaped d=true:=by
  unfold shp at h
  split at h
  · rename_i d e; exact ⟨d,e,h⟩
  · cases h
theorem YZ {k:Nat} (hr:bS k X.A) (hK:E.K=X.K):OpR X (compareOp .Eq) (iK E F (pEq false)):=by
  intro pins s σ H v w u u' Q I rx ry ⟨x,y,Z,G,Q',r1,r2,S,⟨hx,hy,q⟩,kq⟩
  obtain ⟨d,e1,a1⟩:=CY hx
  obtain ⟨e,e2,a2⟩:=CY hy
  obtain ⟨as,q1⟩:=mL I hK S r1 rx e1
  obtain ⟨bs,q2⟩:=mL I hK S r2 ry e2
  refine eq_dataH q1 q2 a1 a2 hr.units ⟨.bl _,H,I,rfl, ?_⟩
  rw [LY e1 e2]
  exact kq.here S q cP
theorem aIh {k:Nat} (hr:bS k X.A) (hK:E.K=X.K):OpR X (compareOp .NotEq) (iK E F (pEq true)):=by
  intro pins s σ H v w u u' Q I rx ry ⟨x,y,Z,G,Q',r1,r2,S,⟨hx,hy,q⟩,kq⟩
  obtain ⟨d,e1,a1⟩:=CY hx
  obtain ⟨e,e2,a2⟩:=CY hy
  obtain ⟨as,q1⟩:=mL I hK S r1 rx e1
  obtain ⟨bs,q2⟩:=mL I hK S r2 ry e2
  refine ne_dataH q1 q2 a1 a2 hr.units ⟨.bl _,H,I,rfl, ?_⟩
  rw [LY e1 e2]
  exact kq.here S q cP
end
section
variable {E:Ev} {F H Z:Hp} {G:Gh} {X:Cx}
theorem ZX {xs:List PV} {vs:List V} {i:Int} {x:PV} (r:RPs E Z xs vs) (h:atI xs i=some x):∃ v,atI vs i=some v∧RP E Z x v:=by
  unfold atI at *
  rw [←r.length]
  cases e:ixN xs.length i with
  | none=>rw [e] at h; cases h
  | some j=>rw [e] at h; exact r.get h
noncomputable def BK:List Key→List PV→Key→Option PV
  | j :: ks,x :: xs,k=>if j=k then some x else BK ks xs k
  | _,_,_=>none
noncomputable def xB (x y:PV) (G:Gh) (Q:PK1):Prop:=match x,y with
  | .tup xs,.int i=>∃ v,atI xs i=some v∧Q v G
  | .scr ns,.int i=>∃ n,atI ns i=some n∧Q (.int n) G
  | .str z,.int i=>z.length≤sizeLine∧∃ c,atI z.cps.toList i=some c∧Q (.str ⟨#[c]⟩) G
  | .dct ks xs,.int i=>∃ v,BK ks xs (.inl i)=some v∧Q v G
  | .dct ks xs,.str z=>∃ v,BK ks xs (.inr z)=some v∧Q v G
  | x,.int i=>∃ xs v,dR G x=some xs∧atI xs i=some v∧Q v G
  | _,_=>False
theorem xN {k:Key} {x:PV}:∀ {ks:List Key} {xs:List PV} {vs:List V},RPs E Z xs vs→BK ks xs k=some x→∃ v,valV (ks.zip vs) k=some v∧RP E Z x v
  | [],_,_,_,h=>by cases h
  | _ :: _,[],_,_,h=>by cases h
  | j :: ks,y :: ys,_,⟨v,r,e,r1,r2⟩,h=>by
    subst e
    unfold BK at h
    rw [List.zip_cons_cons]
    split at h
    · rename_i ej; cases h; exact ⟨v,wQ ej,r1⟩
    · rename_i ej
      rw [wE ej]
      exact xN (ks:=ks) r2 h
theorem aCn {α β:Type} {f:α→β} {xs:List α} {i:Int} {x:α} (h:atI xs i=some x):atI (xs.map f) i=some (f x):=by
  unfold atI at *
  rw [List.length_map]
  cases e:ixN xs.length i with
  | none=>rw [e] at h; cases h
  | some j =>
    rw [e] at h
    have h':xs[j]? =some x:=h
    show (xs.map f)[j]? =some (f x)
    rw [List.getElem?_map,h']; rfl
theorem aGf {k:Nat} (hr:bS k X.A) (hK:E.K=X.K):IxR X (iK E F xB):=by
  refine (aHx.or (aDr hr)).imp fun v u H Q h=>?_
  obtain ⟨x,y,Z,G,Q',r1,r2,S,q,k⟩:=h
  unfold xB at q
  split at q
  · obtain ⟨y,e,q⟩:=q
    obtain ⟨a,vs,rfl,ha,ta⟩:=eZ S r1
    obtain ⟨w,e',rw'⟩:=ZX ta e
    exact .inl (.inr (.inl ⟨a,vs,_,w,rfl,r2,hK▸ha,e',k.here S q rw'⟩))
  · obtain ⟨n,e,q⟩:=q
    obtain ⟨a,rfl,ha⟩:=r1
    exact .inl (.inl ⟨a,_,_,_,rfl,r2,hK▸S.z.seq ha,aCn e,k.here S q bE⟩)
  · obtain ⟨hz,c,e,q⟩:=q
    exact .inl (.inr (.inr ⟨_,_,c,r1,r2,hz,e,k.here S q CL⟩))
  · obtain ⟨y,e,q⟩:=q
    obtain ⟨a,vs,rfl,ha,_,ta⟩:=r1
    obtain ⟨w,e',rw'⟩:=xN ta e
    have r2:u=kV (.inl _):=r2
    rw [r2]
    refine .inr ⟨a,w,rfl, ?_,k.here S q rw'⟩
    rw [←e']; exact .k (S.z _ _ ha)
  · obtain ⟨y,e,q⟩:=q
    obtain ⟨a,vs,rfl,ha,_,ta⟩:=r1
    obtain ⟨w,e',rw'⟩:=xN ta e
    have r2:u=kV (.inr _):=r2
    rw [r2]
    refine .inr ⟨a,w,rfl, ?_,k.here S q rw'⟩
    rw [←e']; exact .k (S.z _ _ ha)
  · obtain ⟨xs,y,e0,e,q⟩:=q
    obtain ⟨a,vs,rfl,ha,ta⟩:=fG S r1 e0
    obtain ⟨w,e',rw'⟩:=ZX ta e
    exact .inl (.inl ⟨a,vs,_,w,rfl,r2,SqL.of ha,e',k.here S q rw'⟩)
  · exact q.elim
noncomputable def aB4 (o i v:PV) (G:Gh) (Q:Gh→Prop):Prop:= ∃ a xs k j,o= .ref a∧i= .int k∧G a=some (.lst xs)∧ixN xs.length k=some j∧Q (gup G a (.lst (xs.set j v)))
noncomputable def aIv (E:Ev) (F:Hp) (p:PV→PV→PV→Gh→(Gh→Prop)→Prop):aCU:=fun o i v H Q=>∃ o' i' v' Z G Q',RP E Z o' o∧RP E Z i' i∧RP E Z v' v∧Sim E F H Z G∧p o' i' v' G Q'∧∀ G1 H1,Sim E F H1 Z G1→Q' G1→Q H1
theorem aDm:aHy X (aIv E F aB4):=by
  intro pins s σ H o i v ov iv u Q I ro ri rv ⟨o',i',v',Z,G,Q',r1,r2,r3,S,⟨a,xs,k,j,e1,e2,hG,ix,q⟩,kq⟩
  subst e1 e2
  have e1:o= .ref a:=r1
  have e2:i= .int k:=r2
  subst e1 e2
  obtain ⟨_,o',hH,vs,e,t⟩:=S.g _ _ hG
  subst e
  exact YX pins s σ H (.ref a) (.int k) v ov iv u Q I ro ri rv ⟨a,vs,k,j,rfl,rfl,hH,by rw [←t.length]; exact ix,kq _ _ (S.set (go:=.lst (xs.set j v')) hG ⟨_,rfl,t.set r3 j⟩) q⟩
noncomputable def yM (xs:List PV) (lo hi:Option Int):List PV:=(xs.drop (HT.sIx xs.length 0 lo)).take (HT.sIx xs.length xs.length hi - HT.sIx xs.length 0 lo)
theorem MR {xs:List PV} {vs:List V} {lo hi:Option Int} (r:RPs E Z xs vs):RPs E Z (yM xs lo hi) (FU vs lo hi):=by
  unfold yM FU
  rw [r.length]
  exact (r.drop _).take _
noncomputable def aAi (x:PV) (lo hi:Option Int) (G:Gh) (Q:PK1):Prop:=match x with
  | .tup xs=>¬(HT.sIx xs.length 0 lo=0∧HT.sIx xs.length xs.length hi=xs.length)∧Q (.tup (yM xs lo hi)) G
  | .scr ns=>Q (.lst (yM (ns.map .int) lo hi)) G
  | x=>∃ xs,dR G x=some xs∧Q (.lst (yM xs lo hi)) G
noncomputable def aIO (E:Ev) (F:Hp) (p:PV→Option Int→Option Int→Gh→PK1→Prop):V→Option Int→Option Int→Hp→VK→Prop:=fun v lo hi H Q=>∃ x Z G Q',RP E Z x v∧Sim E F H Z G∧p x lo hi G Q'∧Kq E F Z Q' Q
theorem SlR.imp {r r':V→Option Int→Option Int→Hp→VK→Prop} (h:SlR X r) (f:∀ x l u H Q,r' x l u H Q→r x l u H Q):SlR X r':=fun pins s σ H x v vl vu lo hi sl Q I rx hs pl pu q=>h pins s σ H x v vl vu lo hi sl Q I rx hs pl pu (f _ _ _ _ _ q)
theorem aHb (hK:E.K=X.K):SlR X (aIO E F aAi):=by
  refine SlR.imp (SlR.or aIx aCZ) fun v lo hi H Q h=>?_
  obtain ⟨x,Z,G,Q',r1,S,q,k⟩:=h
  unfold aAi at q
  split at q
  · obtain ⟨nw,q⟩:=q
    obtain ⟨a,vs,rfl,ha,ta⟩:=eZ S r1
    exact .inl ⟨a,vs,rfl,hK▸ha,by rw [←ta.length]; exact nw,fun p n=>k.newZ S n (kW (S.zn n) (MR ta)) q⟩
  · obtain ⟨a,rfl,ha⟩:=r1
    exact .inr ⟨a,_,rfl,hK▸S.z.seq ha,fun p n=>k.newZ S n (mJ (S.zn n) (MR (RPs.ofInts _))) q⟩
  · obtain ⟨xs,e0,q⟩:=q
    obtain ⟨a,vs,rfl,ha,ta⟩:=fG S r1 e0
    exact .inr ⟨a,vs,rfl,SqL.of ha,fun p n=>k.newZ S n (mJ (S.zn n) (MR ta)) q⟩
noncomputable def BQ (x:PV) (G:Gh) (Q:Bool→Gh→Prop):Prop:=match x with
  | .non=>Q false G
  | .bl b=>Q b G
  | .int i=>Q (i != 0) G
  | .str y=>y.length≤sizeLine∧Q ((y.length:Int) != 0) G
  | .tup xs=>Q (!xs.isEmpty) G
  | x=>∃ xs,dR G x=some xs∧Q (!xs.isEmpty) G
theorem AC {xs:List PV} {vs:List V} (r:RPs E Z xs vs):xs.isEmpty=vs.isEmpty:=by
  cases xs with
  | nil=>cases r; rfl
  | cons x xs=>obtain ⟨_,_,e,_,_⟩:=r; subst e; rfl
theorem uZ {x:PV} {v:V} {Q':Bool→Gh→Prop} (hK:E.K=X.K) (S:Sim E F H Z G) (r:RP E Z x v) (q:BQ x G Q'):∃ b,TF X.K v H b∧Q' b G:=by
  unfold BQ at q
  split at q
  · cases (show v= .non from r); exact ⟨_,rfl,q⟩
  · cases (show v= .bl _ from r); exact ⟨_,rfl,q⟩
  · cases (show v= .int _ from r); exact ⟨_,rfl,q⟩
  · cases (show v= .str _ from r); exact ⟨_,⟨q.1,rfl⟩,q.2⟩
  · obtain ⟨a,vs,rfl,ha,ta⟩:=eZ S r
    exact ⟨_,.inr (.inl ⟨vs,hK▸ha,by rw [AC ta]⟩),q⟩
  · obtain ⟨xs,e0,q⟩:=q
    obtain ⟨a,vs,rfl,ha,ta⟩:=fG S r e0
    exact ⟨_,.inl ⟨vs,SqL.of ha,by rw [AC ta]⟩,q⟩
inductive Bn where
  | len | abs | max | min | int | str | isi | tuple | list | all | any | sum | bool | repr | divmod
  deriving DecidableEq
noncomputable abbrev Sp3:=List PV→Gh→PK1→Prop
noncomputable def aGt (E:Ev) (F:Hp) (p:List PV→Gh→PK1→Prop):List V→Hp→VK→Prop:=fun vs H Q=>∃ xs Z G Q',RPs E Z xs vs∧Sim E F H Z G∧p xs G Q'∧Kq E F Z Q' Q
noncomputable def sQ:PV→Gh→Option String
  | .non,_=>some "NoneType"
  | .bl _,_=>some "bool"
  | .int _,_=>some "int"
  | .str _,_=>some "str"
  | .tup _,_=>some "tuple"
  | .lst _,_=>some "list"
  | .emp,_=>some "dict"
  | .dct _ _,_=>some "dict"
  | .ref a,G=>match G a with
    | some (.lst _)=>some "list"
    | _=>none
  | _,_=>none
noncomputable def TN:PV→Gh→Option String
  | .ob c _ _,_=>some c
  | .ref a,G=>match G a with
    | some (.ins c _ _)=>some c
    | _=>none
  | _,_=>none
structure UU (E:Ev) (cs:List String):Prop where
  own:∀ c∈cs,aB9 E.K (E.cls c)
  plain:∀ c∈cs,∀ n∈aAy,W.kitOne E.K (.type n) (.ref (E.cls c))=some false
  other:∀ c∈cs,∀ T∈pA,W.kitOne E.K (.ref (E.cls c)) (.type T)=some false
  apart:∀ c∈cs,∀ c'∈cs,c≠c'→W.kitOne E.K (.ref (E.cls c)) (.ref (E.cls c'))=some false
noncomputable def HF:List PV→Option Bool
  | []=>some true
  | .bl b :: r=>(HF r).map (b && ·)
  | _ :: _=>none
noncomputable def LS:List PV→Option Int
  | []=>some 0
  | .int i :: r=>(LS r).map (i + ·)
  | _ :: _=>none
theorem OW:∀ {xs:List PV} {b:Bool},HF xs=some b→∃ bs:List Bool,xs=bs.map PV.bl∧b=bs.all id
  | [],b,h=>by cases h; exact ⟨[],rfl,rfl⟩
  | x :: r,b,h=>by
    cases x with
    | bl c =>
      unfold HF at h
      cases e:HF r with
      | none=>rw [e] at h; cases h
      | some d =>
        rw [e] at h; cases h
        obtain ⟨bs,e1,e2⟩:=OW e
        exact ⟨c :: bs,by rw [e1]; rfl,by rw [e2]; rfl⟩
    | _=>cases h
theorem OB:∀ {xs:List PV} {b:Int},LS xs=some b→∃ bs:List Int,xs=bs.map PV.int∧b=bs.sum
  | [],b,h=>by cases h; exact ⟨[],rfl,rfl⟩
  | x :: r,b,h=>by
    cases x with
    | int c =>
      unfold LS at h
      cases e:LS r with
      | none=>rw [e] at h; cases h
      | some d =>
        rw [e] at h; cases h
        obtain ⟨bs,e1,e2⟩:=OB e
        exact ⟨c :: bs,by rw [e1]; rfl,by rw [e2]; rfl⟩
    | _=>cases h
theorem RPs.bools:∀ {bs:List Bool} {vs:List V},RPs E Z (bs.map PV.bl) vs→vs=bs.map V.bl
  | [],_,h=>h
  | _ :: _,_,⟨v,r,e1,h,t⟩=>by
    have h':v=V.bl _:=h
    subst e1 h'; rw [RPs.bools t]; rfl
noncomputable def eW (cs:List String):Bn→List PV→Gh→PK1→Prop
  | .len,[x],G,Q=>(∃ xs,x= .tup xs∧Q (.int xs.length) G)∨(∃ ns,x= .scr ns∧Q (.int ns.length) G)∨(∃ z,x= .str z∧z.length≤sizeLine∧Q (.int z.length) G)∨∃ xs,dR G x=some xs∧Q (.int xs.length) G
  | .abs,[.int i],G,Q=>Q (.int (i.natAbs:Int)) G
  | .max,[.int i,.int j],G,Q=>Q (.int (max i j)) G
  | .max,[.tup xs],G,Q=>∃ ns:List Int,xs=ns.map PV.int∧ns≠ []∧∀ m,m∈ns→(∀ x∈ns,x≤m)→Q (.int m) G
  | .min,[.int i,.int j],G,Q=>Q (.int (min i j)) G
  | .int,[.int i],G,Q=>Q (.int i) G
  | .int,[.bl b],G,Q=>Q (.int (if b then 1 else 0)) G
  | .isi,[x,.ty T],G,Q=>T∈pA∧((∃ n,sQ x G=some n∧Q (.bl (zM n T)) G)∨∃ c,TN x G=some c∧c∈cs∧Q (.bl false) G)
  | .isi,[x,.cl c],G,Q=>c∈cs∧((∃ n,sQ x G=some n∧Q (.bl false) G)∨∃ c',TN x G=some c'∧c'∈cs∧Q (.bl (decide (c'=c))) G)
  | .tuple,[x],G,Q=>(∃ xs,x= .tup xs∧Q x G)∨∃ xs,dR G x=some xs∧Q (.tup xs) G
  | .all,[x],G,Q=>∃ xs b,dR G x=some xs∧HF xs=some b∧Q (.bl b) G
  | .sum,[x],G,Q=>(∃ xs b,dR G x=some xs∧LS xs=some b∧Q (.int b) G)∨∃ ns:List Int,x= .tup (ns.map PV.int)∧Q (.int ns.sum) G
  | _,_,_,_=>False
noncomputable def aH9:Bn→Value
  | .len=>.builtin "len"
  | .abs=>.builtin "abs"
  | .max=>.builtin "max"
  | .min=>.builtin "min"
  | .int=>.type "int"
  | .str=>.type "str"
  | .isi=>.builtin "isinstance"
  | .tuple=>.type "tuple"
  | .list=>.type "list"
  | .all=>.builtin "all"
  | .any=>.builtin "any"
  | .sum=>.builtin "sum"
  | .bool=>.type "bool"
  | .repr=>.builtin "repr"
  | .divmod=>.builtin "divmod"
theorem GB {x:PV} {vs:List V} (r:RPs E Z [x] vs):∃ v,vs=[v]∧RP E Z x v:=by
  obtain ⟨v,t,e,r1,r2⟩:=r
  have e2:t=[]:=r2
  subst e2
  exact ⟨v,e,r1⟩
theorem aBO {x y:PV} {vs:List V} (r:RPs E Z [x,y] vs):∃ v u,vs=[v,u]∧RP E Z x v∧RP E Z y u:=by
  obtain ⟨v,t,e,r1,u,t',e',r2,r3⟩:=r
  have e2:t'=[]:=r3
  subst e2 e'
  exact ⟨v,u,e,r1,r2⟩
theorem EN {x:PV} {v:V} {n:String} (S:Sim E F H Z G) (r:RP E Z x v) (h:sQ x G=some n):n∈aAy∧(tyN H v=some n∨(n="tuple"∧∃ a vs,v= .ref a∧SqT E.K H a vs)):=by
  cases x with
  | non=>cases h; cases (show v= .non from r); exact ⟨by decide,.inl rfl⟩
  | bl b=>cases h; cases (show v= .bl b from r); exact ⟨by decide,.inl rfl⟩
  | int b=>cases h; cases (show v= .int b from r); exact ⟨by decide,.inl rfl⟩
  | str b=>cases h; cases (show v= .str b from r); exact ⟨by decide,.inl rfl⟩
  | tup xs =>
    cases h
    obtain ⟨a,vs,rfl,ha,_⟩:=eZ S r
    exact ⟨by decide,.inr ⟨rfl,a,vs,rfl,ha⟩⟩
  | lst xs =>
    cases h
    obtain ⟨a,vs,rfl,ha,_⟩:=fG (xs:=xs) S r rfl
    exact ⟨by decide,.inl (by simp only [tyN,ha])⟩
  | emp =>
    cases h
    obtain ⟨a,rfl,ha⟩:=r
    exact ⟨by decide,.inl (by simp only [tyN,S.z _ _ ha])⟩
  | dct ks xs =>
    cases h
    obtain ⟨a,vs,rfl,ha,_,_⟩:=r
    exact ⟨by decide,.inl (by simp only [tyN,S.z _ _ ha])⟩
  | ref a =>
    unfold sQ at h
    dsimp only at h
    split at h
    · rename_i xs e
      cases h
      obtain ⟨a',vs,rfl,ha,_⟩:=fG (xs:=xs) S r (by unfold dR; dsimp only; rw [e])
      exact ⟨by decide,.inl (by simp only [tyN,ha])⟩
    · cases h
  | _=>cases h
theorem NT {pins:List (Addr×Obj)} {σ:L2.St} {s:Shared} {x:PV} {v:V} {u c:Value} {n:String} {b:Bool} {Q:VK} (hK:E.K=X.K) (I:Inv X pins σ H s) (S:Sim E F H Z G) (r:RP E Z x v) (rv:aL v u) (h:sQ x G=some n)
    (e:W.kitOne X.K (.type n) c=some b) (q:Q (.bl b) H):wpAny (model X.prog X.w) X.A (call (.builtin "isinstance") [u,c]) (EP X pins σ Q) X.xe s:=by
  obtain ⟨_,t | ⟨hn,a,vs,hv,ha⟩⟩:=EN S r h
  · exact AY I rv (aFO t) e fun tk=>⟨.bl b,H,I.tok tk,rfl,q⟩
  · subst hn hv
    cases rv
    obtain ⟨its,_,⟨o,h1,h2,_⟩,_⟩:=I.tuple (hK▸ha)
    exact W.kia_one W.kitx_tuple I.kIn ⟨o,h1,h2⟩ e (fun z=>nomatch z) fun tk=>⟨.bl b,H,I.tok tk,rfl,q⟩
theorem aB6 {x:PV} {v:V} {c:String} (S:Sim E F H Z G) (r:RP E Z x v) (h:TN x G=some c):∃ a dx fs,v= .ref a∧H a=some (.ins (E.cls c) dx fs):=by
  cases x with
  | ob c' ns xs =>
    cases h
    obtain ⟨a,dx,vs,rfl,q,_,_⟩:=r
    exact ⟨a,dx,_,rfl,S.z _ _ q⟩
  | ref a =>
    unfold TN at h
    dsimp only at h
    split at h
    · rename_i c' ns xs e
      cases h
      have e1:v= .ref a:=r
      subst e1
      obtain ⟨_,o',q,dx,vs,e',_,_⟩:=S.g _ _ e
      subst e'
      exact ⟨a,dx,_,rfl,q⟩
    · cases h
  | _=>cases h
theorem CQ {pins:List (Addr×Obj)} {σ:L2.St} {s:Shared} {x:PV} {v:V} {u t:Value} {c:String} {b:Bool} {Q:VK} (hK:E.K=X.K) (I:Inv X pins σ H s) (S:Sim E F H Z G) (r:RP E Z x v) (rv:aL v u) (h:TN x G=some c) (O:aB9 E.K (E.cls c))
    (e:W.kitOne X.K (.ref (E.cls c)) t=some b) (q:Q (.bl b) H):wpAny (model X.prog X.w) X.A (call (.builtin "isinstance") [u,t]) (EP X pins σ Q) X.xe s:=by
  obtain ⟨a,dx,fs,rfl,ha⟩:=aB6 S r h
  have O:aB9 X.K (E.cls c):=hK▸O
  exact AY I rv (.ins ha O.cl O.ha O.hn O.htk O.hm) e fun tk=>⟨.bl b,H,I.tok tk,rfl,q⟩
theorem bL.or {f:Value} {r r':List V→Hp→VK→Prop} (h:bL X f r) (h':bL X f r'):bL X f (fun xs H Q=>r xs H Q∨r' xs H Q):=by
  intro pins s σ H xs us Q I rs q
  rcases q with q | q
  · exact h pins s σ H xs us Q I rs q
  · exact h' pins s σ H xs us Q I rs q
theorem noC {f:Value} {p:List PV→Gh→PK1→Prop} (h:∀ xs G Q,¬p xs G Q):bL X f (aGt E F p):=fun _ _ _ _ _ _ _ _ _ ⟨_,_,_,_,_,_,q,_⟩=>absurd q (h _ _ _)
theorem aBI {cs:List String} (hK:E.K=X.K) (hc:X.calm=true) (C:UU E cs):∀ b,bL X (aH9 b) (aGt E F (eW cs b))
  | .len =>by
    refine (bL.or EE FF).imp fun vs H Q h=>?_
    obtain ⟨xs,Z,G,Q',r,S,q,k⟩:=h
    match xs,q with
    | [x],q =>
      obtain ⟨v,rfl,rr⟩:=GB r
      rcases q with ⟨ys,rfl,q⟩ | ⟨ns,rfl,q⟩ | ⟨z,rfl,hz,q⟩ | ⟨ys,e,q⟩
      · obtain ⟨a,vs,rfl,ha,ta⟩:=eZ S rr
        exact .inl ⟨a,vs,rfl,.inr (hK▸ha),k.here S q (by rw [ta.length]; exact bE)⟩
      · obtain ⟨a,rfl,ha⟩:=rr
        exact .inl ⟨a,_,rfl,.inl (hK▸S.z.seq ha),k.here S q (by rw [List.length_map]; exact bE)⟩
      · exact .inr ⟨z,by rw [show v= .str z from rr],hz,k.here S q bE⟩
      · obtain ⟨a,vs,rfl,ha,ta⟩:=fG S rr e
        exact .inl ⟨a,vs,rfl,.inl (SqL.of ha),k.here S q (by rw [ta.length]; exact bE)⟩
  | .abs=>by
    refine SR.imp fun vs H Q h=>?_
    obtain ⟨xs,Z,G,Q',r,S,q,k⟩:=h
    match xs,q with
    | [.int i],q =>
      obtain ⟨v,rfl,rr⟩:=GB r
      exact ⟨i,by rw [show v= .int i from rr],k.here S q bE⟩
  | .max=>by
    refine (bL.or (QJ hc) (TV hc)).imp fun vs H Q h=>?_
    obtain ⟨xs,Z,G,Q',r,S,q,k⟩:=h
    match xs,q with
    | [.int i,.int j],q =>
      obtain ⟨v,u,rfl,r1,r2⟩:=aBO r
      have e:max i j=if j > i then j else i:=by split <;> omega
      exact .inl ⟨i,j,by rw [show v= .int i from r1,show u= .int j from r2],k.here S q (by rw [e]; exact bE)⟩
    | [.tup ys],q =>
      obtain ⟨v,rfl,rr⟩:=GB r
      obtain ⟨ns,rfl,hne,q⟩:=q
      obtain ⟨a,vs,rfl,ha,ta⟩:=eZ S rr
      exact .inr ⟨a,ns,rfl,by rw [←ta.ints]; exact hK▸ha,hne,fun m h1 h2=>k.here S (q m h1 h2) bE⟩
  | .min=>by
    refine (QH hc).imp fun vs H Q h=>?_
    obtain ⟨xs,Z,G,Q',r,S,q,k⟩:=h
    match xs,q with
    | [.int i,.int j],q =>
      obtain ⟨v,u,rfl,r1,r2⟩:=aBO r
      have e:min i j=if j < i then j else i:=by split <;> omega
      exact ⟨i,j,by rw [show v= .int i from r1,show u= .int j from r2],k.here S q (by rw [e]; exact bE)⟩
  | .int=>by
    refine SU.imp fun vs H Q h=>?_
    obtain ⟨xs,Z,G,Q',r,S,q,k⟩:=h
    match xs,q with
    | [.int i],q =>
      obtain ⟨v,rfl,rr⟩:=GB r
      exact .inl ⟨i,by rw [show v= .int i from rr],k.here S q bE⟩
    | [.bl i],q =>
      obtain ⟨v,rfl,rr⟩:=GB r
      exact .inr ⟨i,by rw [show v= .bl i from rr],k.here S q bE⟩
  | .str=>noC fun xs G Q q=>by unfold eW at q; exact q
  | .isi =>by
    intro pins s σ H vs us Q I rv h
    obtain ⟨xs,Z,G,Q',r,S,q,k⟩:=h
    match xs,q with
    | [x,.ty T],q =>
      obtain ⟨v,w',rfl,r1,r2⟩:=aBO r
      obtain ⟨u,u',rfl,rv1,rv2⟩:=NU rv
      have e:w'= .ty T:=r2
      subst e
      have e2:u'= .type T:=rv2
      subst e2
      obtain ⟨hT,⟨n,hn,q⟩ | ⟨c,hcn,hcs,q⟩⟩:=q
      · exact NT hK I S r1 rv1 hn (aFP X.K n (EN S r1 hn).1 T hT) (k.here S q cP)
      · exact CQ hK I S r1 rv1 hcn (C.own c hcs) (hK▸C.other c hcs T hT) (k.here S q cP)
    | [x, .cl c],q =>
      obtain ⟨v,w',rfl,r1,r2⟩:=aBO r
      obtain ⟨u,u',rfl,rv1,rv2⟩:=NU rv
      have e:w'= .ref (E.cls c):=r2
      subst e
      have e2:u'= .ref (E.cls c):=rv2
      subst e2
      obtain ⟨hcs,⟨n,hn,q⟩ | ⟨c',hcn,hcs',q⟩⟩:=q
      · exact NT hK I S r1 rv1 hn (hK▸C.plain c hcs n (EN S r1 hn).1) (k.here S q cP)
      · by_cases e:c'=c
        · subst e
          rw [decide_eq_true rfl] at q
          exact CQ hK I S r1 rv1 hcn (C.own _ hcs') (by unfold W.kitOne; rw [if_pos (beq_self_eq_true _)]) (k.here S q cP)
        · rw [decide_eq_false e] at q
          exact CQ hK I S r1 rv1 hcn (C.own _ hcs') (hK▸C.apart c' hcs' c hcs e) (k.here S q cP)
  | .tuple=>by
    refine yZ.imp fun vs H Q h=>?_
    obtain ⟨xs,Z,G,Q',r,S,q,k⟩:=h
    match xs,q with
    | [x],q =>
      obtain ⟨v,rfl,rr⟩:=GB r
      rcases q with ⟨ys,rfl,q⟩ | ⟨ys,e,q⟩
      · obtain ⟨a,vs,e,ha,ta⟩:=eZ S rr
        subst e
        exact ⟨a,vs,rfl,.inr ⟨hK▸ha,k.here S q rr⟩⟩
      · obtain ⟨a,vs,rfl,ha,ta⟩:=fG S rr e
        exact ⟨a,vs,rfl,.inl ⟨SqL.of ha,fun l n=>k.newZ S n (kW (S.zn n) ta) q⟩⟩
  | .list=>noC fun xs G Q q=>by unfold eW at q; exact q
  | .divmod=>noC fun xs G Q q=>by unfold eW at q; exact q
  | .all=>by
    refine (TC hc).imp fun vs H Q h=>?_
    obtain ⟨xs,Z,G,Q',r,S,q,k⟩:=h
    match xs,q with
    | [x],q =>
      obtain ⟨v,rfl,rr⟩:=GB r
      obtain ⟨ys,b,e,eb,q⟩:=q
      obtain ⟨bs,e1,e2⟩:=OW eb
      subst e1 e2
      obtain ⟨a,vs,rfl,ha,ta⟩:=fG S rr e
      exact ⟨a,bs,rfl,by rw [←ta.bools]; exact ha,k.here S q cP⟩
  | .any=>noC fun xs G Q q=>by unfold eW at q; exact q
  | .sum =>by
    refine (bL.or (SJ hc) (PP hc)).imp fun vs H Q h=>?_
    obtain ⟨xs,Z,G,Q',r,S,q,k⟩:=h
    match xs,q with
    | [x],q =>
      obtain ⟨v,rfl,rr⟩:=GB r
      rcases q with ⟨ys,b,e,eb,q⟩ | ⟨ns,rfl,q⟩
      · obtain ⟨bs,e1,e2⟩:=OB eb
        subst e1 e2
        obtain ⟨a,vs,rfl,ha,ta⟩:=fG S rr e
        exact .inl ⟨a,bs,rfl,by rw [←ta.ints]; exact ha,k.here S q bE⟩
      · obtain ⟨a,vs,rfl,ha,ta⟩:=eZ S rr
        exact .inr ⟨a,ns,rfl,by rw [←ta.ints]; exact hK▸ha,k.here S q bE⟩
  | .bool=>noC fun xs G Q q=>by unfold eW at q; exact q
  | .repr=>noC fun xs G Q q=>by unfold eW at q; exact q
end
inductive Ar where
  | arg (i:Nat) | non | bl (b:Bool) | int (i:Int) | str (x:Str)
  deriving DecidableEq
noncomputable def Ar.val (xs:List PV):Ar→PV
  | .arg i=>xs.getD i .non
  | .non=>.non
  | .bl b=>.bl b
  | .int i=>.int i
  | .str x=>.str x
inductive CE where
  | var (i:Nat) | int (i:Int) | bl (b:Bool) | non | str (x:Str) | glo (x:Str)
  | bin (op:Operator) (a b:CE) | neg (a:CE) | no (a:CE)
  | cmp (op:CmpOp) (a b:CE) | chn (op op':CmpOp) (a b c:CE)
  | an (a b:CE) | oo (a b:CE) | tst (a:CE) | tsb (a:CE)
  | tup (es:CE) | lst (m:Bool) (es:CE) | nil | cons (a b:CE)
  | idx (a i:CE) | sli (a lo hi:CE) | att (a:CE) (f:Str)
  | cal (f:Str) (es:CE) | cak (f:Str) (es ks:CE) (ar:List Ar) | blt (b:Bn) (es:CE)
  | cmpr (m:Bool) (tg it ts el:CE) (js:List (Option Nat))
  | isq (e:CE) | irg (es:CE) | ien (e:CE) | izp (es:CE)
  | gn (i:Nat) | gt (n:Nat) (gs:CE)
  | ceq (eqs:List (String×Str)) (a b:CE) | dct (es:CE) | gl (n:Nat) (gs:CE) | gix (ks:List (Str×Str)) (e:CE) | gin (neg:Bool) (ks:List (Str×Str)) (e:CE) | cav (fs:List (Str×Nat×List Ar)) (i:Nat) (es:CE)
inductive CS where
  | nil | seq (a b:CS) | ex (e:CE) | asg (g e:CE) | par (i j:Nat) (a b:CE) | par3 (i j l:Nat) (a b c:CE) | sub (o i e:CE) | fld (o:CE) (f:Str) (e:CE)
  | iff (c:CE) (a b:CS) | wh (c:CE) (b:CS) | fr (g it:CE) (b:CS) | ret (e:CE) | retN | nev
structure Tb where
  S:Str→Sp3
  gv:Str→PV
  cs:List String
  fl:List (String×Str)
noncomputable def aGp (x:PV) (G:Gh) (Q:PK1):Prop:=match x with
  | .int i=>Q (.int (-i)) G
  | _=>False
noncomputable def pIs (neg:Bool) (x y:PV) (G:Gh) (Q:PK1):Prop:=match y with
  | .non=>(x= .non∧Q (.bl (!neg)) G)∨(x≠.non∧Q (.bl neg) G)
  | .bl b=>∃ c,x= .bl c∧Q (.bl (if neg then !(c == b) else c == b)) G
  | _=>False
noncomputable def flP:PV→Bool
  | .non=>true
  | .bl _=>true
  | .int _=>true
  | .str _=>true
  | _=>false
noncomputable def pIn (neg:Bool) (x y:PV) (G:Gh) (Q:PK1):Prop:= ∃ xs,(y= .tup xs∨dR G y=some xs)∧flP x=true∧xs.all flP=true∧Q (.bl (if neg=true then !(xs.any fun z=>peq z x) else xs.any fun z=>peq z x)) G
noncomputable def mM:CmpOp→P2
  | .Lt=>pI (fun _ _=>True) fun i j=>.bl (decide (i < j))
  | .LtE=>pI (fun _ _=>True) fun i j=>.bl (decide (i≤j))
  | .Gt=>pI (fun _ _=>True) fun i j=>.bl (decide (j < i))
  | .GtE=>pI (fun _ _=>True) fun i j=>.bl (decide (j≤i))
  | .Eq=>pEq false
  | .NotEq=>pEq true
  | .Is=>pIs false
  | .IsNot=>pIs true
  | .In=>pIn false
  | .NotIn=>pIn true
noncomputable def YH (T:Tb) (x:PV) (f:Str) (G:Gh) (Q:PK1):Prop:= ∃ c ns xs v,(x= .ob c ns xs∨∃ a,x= .ref a∧G a=some (.ins c ns xs))∧(c,f)∈T.fl∧(ns.zip xs).lookup f=some v∧Q v G
noncomputable abbrev PTG:=PV→PSt→Gh→(PSt→Gh→Prop)→Prop
noncomputable abbrev PTI:=PSt→Gh→((Gh→Prop)→List PV→Gh→Prop)→Prop
noncomputable def wV (js:List (Option Nat)) (σ:PSt):PSt:=js.map fun o=>match o with | none=>none | some j=>(σ[j]?).getD none
noncomputable def gU (chk:Gh→Prop) (g:PTG) (ts:PTT) (te:PTE):List PV→List PV→PSt→Gh→(List PV→Gh→Prop)→Prop
  | [],acc,_,G,Q=>chk G∧Q acc G
  | x :: r,acc,σ,G,Q=>chk G∧g x σ G fun σ2 G2=>ts σ2 G2 fun ok G3=>if ok=true then te σ2 G3 fun y G4=>gU chk g ts te r (acc ++ [y]) σ2 G4 Q else gU chk g ts te r acc σ2 G3 Q
noncomputable def oV (chk:Gh→Prop) (g:PTG) (tb:PTS) (D:hJ):List PV→PSt→Gh→Prop
  | [],σ,G=>chk G∧D.nx σ G
  | x :: r,σ,G=>chk G∧g x σ G fun σ2 G2=>tb { D with nx:=oV chk g tb D r,ct:=oV chk g tb D r,bk:=D.nx } σ2 G2
noncomputable def yO (m:Bool) (G:Gh) (xs:List PV) (Q:PK1):Prop:=if m=true then ∀ p,G p=none→Q (.ref p) (gup G p (.lst xs)) else Q (.lst xs) G
noncomputable def pY (lo:Int) (n:Nat):List PV:=(List.range n).map fun (k:Nat)=>PV.int (lo + (k:Int))
noncomputable def EH (xs:List PV):List PV:=xs.zipIdx.map fun p=>PV.tup [.int (p.2:Int),p.1]
noncomputable def VT:PV→Option (List PV)
  | .tup ys=>some ys
  | .lst ys=>some ys
  | _=>none
noncomputable def NB (n:Nat) (yss:List (List PV)):List PV:=(List.range n).map fun i=>PV.tup (yss.map fun ys=>ys.getD i .non)
noncomputable def aAp (x:PV) (G:Gh) (R:(Gh→Prop)→List PV→Gh→Prop):Prop:=match x with
  | .tup xs=>R (fun _=>True) xs G
  | .lst xs=>R (fun _=>True) xs G
  | .scr ns=>R (fun _=>True) (ns.map .int) G
  | .ref a=>∃ xs,G a=some (.lst xs)∧R (fun G'=>G' a=some (.lst xs)) xs G
  | _=>False
noncomputable def aDH (T:Tb) (eqs:List (String×Str)) (x y:PV) (G:Gh) (Q:PK1):Prop :=
  (∃ c m ns xs ns' ys,(c,m)∈eqs∧x= .ob c ns xs∧y= .ob c ns' ys∧T.S m [x,y] G fun v G'=>∃ b,v= .bl b∧Q (.bl b) G')∨pEq false x y G Q
noncomputable def kP:Key→PV
  | .inl i=>.int i
  | .inr x=>.str x
noncomputable def flK:List (Key×PV)→List PV
  | []=>[]
  | p :: r=>kP p.1 :: p.2 :: flK r
mutual
noncomputable def wpE (T:Tb):CE→PTE
  | .var i=>fun σ G Q=>∃ v,σ[i]? =some (some v)∧Q v G
  | .int i=>fun _ G Q=>Q (.int i) G
  | .bl b=>fun _ G Q=>Q (.bl b) G
  | .non=>fun _ G Q=>Q .non G
  | .str x=>fun _ G Q=>Q (.str x) G
  | .glo x=>fun _ G Q=>Q (T.gv x) G
  | .bin op a b=>fun σ G Q=>wpE T a σ G fun x G1=>wpE T b σ G1 fun y G2=>EZ op x y G2 Q
  | .neg a=>fun σ G Q=>wpE T a σ G fun x G1=>aGp x G1 Q
  | .no a=>fun σ G Q=>wpE T a σ G fun x G1=>BQ x G1 fun b G2=>Q (.bl (!b)) G2
  | .cmp op a b=>fun σ G Q=>wpE T a σ G fun x G1=>wpE T b σ G1 fun y G2=>mM op x y G2 Q
  | .chn op op' a b c=>fun σ G Q=>wpE T a σ G fun x G1=>wpE T b σ G1 fun y G2=>mM op x y G2 fun z G3=>∃ k,z= .bl k∧if k=true then wpE T c σ G3 fun w G4=>mM op' y w G4 Q else Q (.bl false) G3
  | .dct es=>fun σ G Q=>wpL T es σ G fun xs G1=>∃ kvs:List (Key×PV),xs=flK kvs∧(kvs.map (·.1)).Nodup∧kvs.length≤15∧Q (.dct (kvs.map (·.1)) (kvs.map (·.2))) G1
  | .ceq eqs a b=>fun σ G Q=>wpE T a σ G fun x G1=>wpE T b σ G1 fun y G2=>aDH T eqs x y G2 Q
  | .an a b=>fun σ G Q=>wpE T a σ G fun x G1=>BQ x G1 fun c G2=>if c=true then wpE T b σ G2 Q else Q x G2
  | .oo a b=>fun σ G Q=>wpE T a σ G fun x G1=>BQ x G1 fun c G2=>if c=true then Q x G2 else wpE T b σ G2 Q
  | .tup es=>fun σ G Q=>wpL T es σ G fun xs G1=>xs.length≤sizeLine∧Q (.tup xs) G1
  | .lst m es=>fun σ G Q=>wpL T es σ G fun xs G1=>xs.length≤sizeLine∧yO m G1 xs Q
  | .idx a i=>fun σ G Q=>wpE T a σ G fun x G1=>wpE T i σ G1 fun y G2=>xB x y G2 Q
  | .sli a lo hi=>fun σ G Q=>wpE T a σ G fun x G1=>wpO T lo σ G1 fun l G2=>wpO T hi σ G2 fun h G3=>aAi x l h G3 Q
  | .att a f=>fun σ G Q=>wpE T a σ G fun x G1=>YH T x f G1 Q
  | .cal f es=>fun σ G Q=>wpL T es σ G fun xs G1=>T.S f xs G1 Q
  | .cak f es ks ar=>fun σ G Q=>wpL T es σ G fun xs G1=>wpL T ks σ G1 fun zs G2=>T.S f (ar.map (Ar.val (xs ++ zs))) G2 Q
  | .blt b es=>fun σ G Q=>wpL T es σ G fun xs G1=>eW T.cs b xs G1 Q
  | .cmpr m tg it ts el js=>fun σ G Q=>wpI T it σ G fun chk xs G1=>xs.length≤sizeLine∧gU chk (wpG T tg) (wpT T ts) (wpE T el) xs [] (wV js σ) G1 fun ys G2=>yO m G2 ys Q
  | .gix ks e=>fun σ G Q=>wpE T e σ G fun y G1=>∃ z f,y= .str z∧ks.lookup z=some f∧Q (.fn f) G1
  | .gin neg ks e=>fun σ G Q=>wpE T e σ G fun y G1=>∃ z,y= .str z∧Q (.bl (if neg=true then !(ks.lookup z).isSome else (ks.lookup z).isSome)) G1
  | .cav fs i es=>fun σ G Q=>∃ f n ar,σ[i]? =some (some (.fn f))∧(f,n,ar)∈fs∧wpL T es σ G fun xs G1=>T.S f (ar.map (Ar.val xs)) G1 Q
  | .tst _=>fun _ _ _=>False
  | .tsb _=>fun _ _ _=>False
  | .nil=>fun _ _ _=>False
  | .cons _ _=>fun _ _ _=>False
  | .isq _=>fun _ _ _=>False
  | .irg _=>fun _ _ _=>False
  | .ien _=>fun _ _ _=>False
  | .izp _=>fun _ _ _=>False
  | .gn _=>fun _ _ _=>False
  | .gt _ _=>fun _ _ _=>False
  | .gl _ _=>fun _ _ _=>False
noncomputable def wpL (T:Tb):CE→PTA
  | .nil=>fun _ G Q=>Q [] G
  | .cons a b=>fun σ G Q=>wpE T a σ G fun x G1=>wpL T b σ G1 fun xs G2=>Q (x :: xs) G2
  | _=>fun _ _ _=>False
noncomputable def wpT (T:Tb):CE→PTT
  | .an a b=>fun σ G Q=>wpT T a σ G fun c G1=>if c=true then wpT T b σ G1 Q else Q false G1
  | .oo a b=>fun σ G Q=>wpT T a σ G fun c G1=>if c=true then Q true G1 else wpT T b σ G1 Q
  | .no a=>fun σ G Q=>wpT T a σ G fun c G1=>Q (!c) G1
  | .tst a=>fun σ G Q=>wpE T a σ G fun x G1=>BQ x G1 Q
  | .tsb a=>fun σ G Q=>wpE T a σ G fun x G1=>∃ k,x= .bl k∧Q k G1
  | .nil=>fun _ G Q=>Q true G
  | _=>fun _ _ _=>False
noncomputable def wpO (T:Tb):CE→PSt→Gh→(Option Int→Gh→Prop)→Prop
  | .nil=>fun _ G Q=>Q none G
  | .tst e=>fun σ G Q=>wpE T e σ G fun x G1=>∃ i,x= .int i∧Q (some i) G1
  | _=>fun _ _ _=>False
noncomputable def wpI (T:Tb):CE→PTI
  | .isq e=>fun σ G R=>wpE T e σ G fun x G1=>aAp x G1 R
  | .irg es=>fun σ G R=>wpL T es σ G fun xs G1=>(∃ j,xs=[.int j]∧ -(2 ^ 62)≤j∧j < 2 ^ 62∧R (fun _=>True) (pY 0 j.toNat) G1)∨(∃ i j,xs=[.int i,.int j]∧(-(2 ^ 62)≤i∧i < 2 ^ 62∧ -(2 ^ 62)≤j∧j < 2 ^ 62)∧R (fun _=>True) (pY i (j - i).toNat) G1)
  | .ien e=>fun σ G R=>wpE T e σ G fun x G1=>∃ xs,x= .tup xs∧R (fun _=>True) (EH xs) G1
  | .izp es=>fun σ G R=>wpL T es σ G fun xs G1=>(xs.length=2∨xs.length=3)∧∃ n yss,xs.map VT=yss.map some∧(∀ ys∈yss,ys.length=n)∧R (fun _=>True) (NB n yss) G1
  | _=>fun _ _ _=>False
noncomputable def wpG (T:Tb):CE→PTG
  | .gn i=>fun x σ G Q=>Q (σ.set i (some x)) G
  | .gt n gs=>fun x σ G Q=>(∃ xs,x= .tup xs∧xs.length=n∧eX T gs xs σ G Q)
  | .gl n gs=>fun x σ G Q=>(∃ xs,dR G x=some xs∧xs.length=n∧eX T gs xs σ G Q)
  | _=>fun _ _ _ _=>False
noncomputable def eX (T:Tb):CE→List PV→PSt→Gh→(PSt→Gh→Prop)→Prop
  | .nil=>fun xs σ G Q=>xs=[]∧Q σ G
  | .cons a b=>fun xs σ G Q=>∃ x r,xs=x :: r∧wpG T a x σ G fun σ1 G1=>eX T b r σ1 G1 Q
  | _=>fun _ _ _ _=>False
end
noncomputable def RV (f:Str):List Str→List Str
  | []=>[f]
  | n :: r=>if n=f then n :: r else n :: RV f r
noncomputable def zR {α:Type} (f:Str) (v:α):List Str→List α→List α
  | [],_=>[v]
  | n :: r,x :: xs=>if n=f then v :: xs else x :: zR f v r xs
  | _ :: _,[]=>[]
noncomputable def wpS (T:Tb):CS→PTS
  | .nil=>fun D σ G=>D.nx σ G
  | .seq a b=>fun D σ G=>wpS T a { D with nx:=wpS T b D } σ G
  | .ex e=>fun D σ G=>wpE T e σ G fun _ G1=>D.nx σ G1
  | .asg g e=>fun D σ G=>wpE T e σ G fun x G1=>wpG T g x σ G1 D.nx
  | .par i j a b=>fun D σ G=>wpE T a σ G fun x G1=>wpE T b σ G1 fun y G2=>D.nx ((σ.set i (some x)).set j (some y)) G2
  | .par3 i j l a b c=>fun D σ G=>wpE T a σ G fun x G1=>wpE T b σ G1 fun y G2=>wpE T c σ G2 fun z G3=>D.nx (((σ.set i (some x)).set j (some y)).set l (some z)) G3
  | .sub o i e=>fun D σ G=>wpE T e σ G fun v G1=>wpE T o σ G1 fun x G2=>wpE T i σ G2 fun y G3=>aB4 x y v G3 fun G4=>D.nx σ G4
  | .fld o f e=>fun D σ G=>wpE T e σ G fun v G1=>wpE T o σ G1 fun x G2=>∃ p c ns xs,x= .ref p∧G2 p=some (.ins c ns xs)∧(c,f)∈T.fl∧ns.length < 1000∧D.nx σ (gup G2 p (.ins c (RV f ns) (zR f v ns xs)))
  | .iff c a b=>fun D σ G=>wpT T c σ G fun k G1=>if k=true then wpS T a D σ G1 else wpS T b D σ G1
  | .wh c b=>fun D σ G=>∃ W:Nat→PSt→Gh→Prop,(∃ m,W m σ G)∧∀ m σ G,W m σ G→wpT T c σ G fun k G1=>if k=true then wpS T b { D with nx:=fun σ' G'=>∃ m',m' < m∧W m' σ' G',ct:=fun σ' G'=>∃ m',m' < m∧W m' σ' G',bk:=D.nx } σ G1 else D.nx σ G1
  | .fr g it b=>fun D σ G=>wpI T it σ G fun chk xs G1=>oV chk (wpG T g) (wpS T b) D xs σ G1
  | .ret e=>fun D σ G=>wpE T e σ G D.rt
  | .retN=>fun D _ G=>D.rt .non G
  | .nev=>fun _ _ _=>False
noncomputable def JE (X:Cx) (E:Ev) (e:Expr) (t:PTE):Prop:= ∀ F,PE X e (low E F t)
noncomputable def JT (X:Cx) (E:Ev) (e:Expr) (t:PTT):Prop:= ∀ F,PT X e (BY E F t)
noncomputable def JW (X:Cx) (E:Ev) (e:Expr) (t:PTT):Prop:= ∀ F,PW X e (BY E F t)
noncomputable def JA (X:Cx) (E:Ev) (es:List Expr) (t:PTA):Prop:= ∀ F,PA X es (MX E F es.length t)
noncomputable def JS (X:Cx) (E:Ev) (s:Stmt) (t:PTS):Prop:= ∀ F,PS X s (aG1 E F t)
noncomputable def JSs (X:Cx) (E:Ev) (s:List Stmt) (t:PTS):Prop:= ∀ F,PSs X s (aG1 E F t)
noncomputable def aGu (E:Ev) (F:Hp) (t:PTG):TG:=fun v σ H Q=>∃ x σ' Z G Q',RP E Z x v∧RSt E Z σ' σ∧Sim E F H Z G∧t x σ' G Q'∧KSt E F Z Q' Q
noncomputable def JG (X:Cx) (E:Ev) (e:Expr) (t:PTG):Prop:= ∀ F,PG X e (aGu E F t)
noncomputable def aKv (E:Ev) (F:Hp) (t:List PV→PSt→Gh→(PSt→Gh→Prop)→Prop):TGs:=fun vs σ H Q=>∃ xs σ' Z G Q',RPs E Z xs vs∧RSt E Z σ' σ∧Sim E F H Z G∧t xs σ' G Q'∧KSt E F Z Q' Q
noncomputable def JGs (X:Cx) (E:Ev) (es:List Expr) (t:List PV→PSt→Gh→(PSt→Gh→Prop)→Prop):Prop:= ∀ F,PGs X es (aKv E F t)
theorem PT.imp {X:Cx} {e:Expr} {t t':TT} (h:PT X e t) (g:∀ σ H Q,t' σ H Q→t σ H Q):PT X e t':=fun pins s σ H Q I q=>h pins s σ H Q I (g _ _ _ q)
theorem PW.imp {X:Cx} {e:Expr} {t t':TT} (h:PW X e t) (g:∀ σ H Q,t' σ H Q→t σ H Q):PW X e t':=fun wh pins s σ H Q I q=>h wh pins s σ H Q I (g _ _ _ q)
theorem PA.imp {X:Cx} {es:List Expr} {t t':TA} (h:PA X es t) (g:∀ σ H Q,t' σ H Q→t σ H Q):PA X es t':=fun pos pins s σ H Q I q=>h pos pins s σ H Q I (g _ _ _ q)
theorem PSs.imp {X:Cx} {st:List Stmt} {t t':TS} (h:PSs X st t) (g:∀ D σ H,t' D σ H→t D σ H):PSs X st t':=fun pins s σ H D I q=>h pins s σ H D I (g _ _ _ q)
theorem PGs.imp {X:Cx} {es:List Expr} {t t':TGs} (h:PGs X es t) (g:∀ vs σ H Q,t' vs σ H Q→t vs σ H Q):PGs X es t':=fun pins s σ H v u Q I r q=>h pins s σ H v u Q I r (g _ _ _ _ q)
section
variable {X:Cx} {E:Ev} {T:Tb} {k:Nat} {pos:Pos} {a b c:Expr} {ta tb tc:PTE}
structure Pl (X:Cx) (E:Ev) (T:Tb) (k:Nat):Prop where
  hK:E.K=X.K
  calm:X.calm=true
  room:bS k X.A
  cls:UU E T.cs
  fld:∀ c f,(c,f)∈T.fl→Cls X.K (E.cls c)∧gF X.K (E.cls c) f
theorem Kq.go {F Z Z1 H1:Hp} {G1:Gh} {Q':PK1} {Q:VK} (k:Kq E F Z Q' Q) {x:PV} {v:V} (s:aR Z Z1) (S:Sim E F H1 Z1 G1) (r:RP E Z1 x v) (q:Q' x G1):Q v H1:=k x v Z1 G1 H1 s S r q
theorem aGh {i:Nat} {x:Str} (hN:X.N[i]? =some x) (hv:Vis X.env.scope x) (hd:(x == ("__debug__":Str))=false) (hcd:(x == ("__classdict__":Str))=false):JE X E (.Name x pos) (wpE T (.var i)):=fun F =>
  (MI hN hv hd hcd).imp fun σ H Q ⟨σ',Z,G,Q',rs,S,h,kq⟩=>by
    rw [wpE] at h
    obtain ⟨x,e,q⟩:=h
    obtain ⟨v,e',r⟩:=rs.get e
    exact ⟨v,e',kq.here S q r⟩
theorem aIE {i:Int} {j:Nat}:JE X E (.Constant (.int i) j pos) (wpE T (.int i)):=fun F=>aIf.imp fun σ H Q ⟨σ',Z,G,Q',rs,S,h,kq⟩=>by rw [wpE] at h; exact kq.here S h bE
theorem aKi {i:Bool} {j:Nat}:JE X E (.Constant (.bool i) j pos) (wpE T (.bl i)):=fun F=>aKK.imp fun σ H Q ⟨σ',Z,G,Q',rs,S,h,kq⟩=>by rw [wpE] at h; exact kq.here S h cP
theorem aHY {j:Nat}:JE X E (.Constant .none j pos) (wpE T .non):=fun F=>aIm.imp fun σ H Q ⟨σ',Z,G,Q',rs,S,h,kq⟩=>by rw [wpE] at h; exact kq.here S h xK
theorem aHP {i:Str} {j:Nat}:JE X E (.Constant (.str i) j pos) (wpE T (.str i)):=fun F=>aF3.imp fun σ H Q ⟨σ',Z,G,Q',rs,S,h,kq⟩=>by rw [wpE] at h; exact kq.here S h CL
theorem aIA {x:Str} {u:Value} {v:V} (hg:Gl X x) (hm:X.mg x=some u) (r:aL v u) (hr:RP E (fun _=>none) (T.gv x) v) (hd:(x == ("__debug__":Str))=false):JE X E (.Name x pos) (wpE T (.glo x)):=fun F =>
  (FB hg hm r hd).imp fun σ H Q ⟨σ',Z,G,Q',rs,S,h,kq⟩=>by rw [wpE] at h; exact kq.here S h (hr.mono fun _ _ z=>by cases z)
theorem aKh {x:Str} {n:String} (hg:Gl X x) (hm:X.mg x=none) (hv:bootBuiltins x=some (.type n)) (hgv:T.gv x= .ty n) (hn:x≠"__name__") (hd:(x == ("__debug__":Str))=false):JE X E (.Name x pos) (wpE T (.glo x)):=fun F =>
  (aC9 (v:=.ty n) hg hm hv rfl hn hd).imp fun σ H Q ⟨σ',Z,G,Q',rs,S,h,kq⟩=>by rw [wpE] at h; rw [hgv] at h; exact kq.here S h rfl
theorem SM {F:Hp} {p:P2} {σ:L2.St} {H:Hp} {Q:VK} (h:low E F (fun σ G Q=>ta σ G fun x G1=>tb σ G1 fun y G2=>p x y G2 Q) σ H Q):tOp (iK E F p) (low E F ta) (low E F tb) σ H Q:=by
  obtain ⟨σ',Z,G,Q',rs,S,h,kq⟩:=h
  refine ⟨σ',Z,G,_,rs,S,h,fun x v Z1 G1 H1 s1 S1 r1 q1=>⟨σ',Z1,G1,_,rs.mono s1,S1,q1,fun y u Z2 G2 H2 s2 S2 r2 q2=>?_⟩⟩
  exact ⟨x,y,Z2,G2,Q',r1.mono s2,r2,S2,q2,kq.mono (s1.trans s2)⟩
theorem aGY {op:Operator} {a' b':CE} (P:Pl X E T k) (ha:JE X E a (wpE T a')) (hb:JE X E b (wpE T b')):JE X E (.BinOp a op b pos) (wpE T (.bin op a' b')):=fun F =>
  (aLo (aDc P.hK op) (ha F) (hb F)).imp fun σ H Q h=>SM (by rw [wpE] at h; exact h)
theorem aGF {a':CE} (ha:JE X E a (wpE T a')):JE X E (.UnaryOp .USub a pos) (wpE T (.neg a')):=fun F =>
  (aJ0 aIj (ha F)).imp fun σ H Q ⟨σ',Z,G,Q',rs,S,h,kq⟩=>by
    rw [wpE] at h
    refine ⟨σ',Z,G,_,rs,S,h,fun x v Z1 G1 H1 s1 S1 r1 q1=>?_⟩
    unfold aGp at q1
    split at q1
    · exact ⟨_,r1,kq.go s1 S1 bE q1⟩
    · exact q1.elim
theorem aCC {te:TE} (he:PE X a te):PE X (.UnaryOp .Not a pos) (fun σ H Q=>te σ H fun x H1=>∃ b,TF X.K x H1 b∧Q (.bl (!b)) H1):=by
  intro pins s σ H Q I h
  refine UnaryOp_ (thn (he pins s σ H _ I h) fun v s1 ⟨x,H1,I1,r1,b,tv,q⟩=>?_)
  exact not_of (thn (FD pins s1 σ H1 x v (fun c H2=>Q (.bl (!c)) H2) I1 r1 ⟨b,tv,q⟩) fun c s2 ⟨H2,I2,q2⟩=>⟨.bl (!c),H2,I2,rfl,q2⟩)
theorem aKx {a':CE} (P:Pl X E T k) (ha:JE X E a (wpE T a')):JE X E (.UnaryOp .Not a pos) (wpE T (.no a')):=fun F =>
  (aCC (ha F)).imp fun σ H Q ⟨σ',Z,G,Q',rs,S,h,kq⟩=>by
    rw [wpE] at h
    refine ⟨σ',Z,G,_,rs,S,h,fun x v Z1 G1 H1 s1 S1 r1 q1=>?_⟩
    obtain ⟨c,tv,q⟩:=uZ P.hK S1 r1 q1
    exact ⟨c,tv,kq.go s1 S1 cP q⟩
theorem aCq {dM:List Expr} {te tf:TE} (ha:PE X a te) (hb:PE X (.BoolOp .And (b :: dM) pos) tf):PE X (.BoolOp .And (a :: b :: dM) pos) (fun σ H Q=>te σ H fun x H1=>∃ c,TF X.K x H1 c∧if c=true then tf σ H1 Q else Q x H1):=by
  intro pins s σ H Q I h
  refine BoolOp_and (thn (ha pins s σ H _ I h) fun v s1 ⟨x,H1,I1,r1,c,tv,q1⟩=>?_)
  refine thn (FD pins s1 σ H1 x v (fun d H2=>d=c∧H2=H1) I1 r1 ⟨c,tv,rfl,rfl⟩) fun d s2 ⟨H2,I2,e1,e2⟩=>?_
  subst e1 e2
  cases d with
  | true=>exact hb pins s2 σ H2 Q I2 q1
  | false=>exact ⟨x,H2,I2,r1,q1⟩
theorem aHs {dM:List Expr} {te tf:TE} (ha:PE X a te) (hb:PE X (.BoolOp .Or (b :: dM) pos) tf):PE X (.BoolOp .Or (a :: b :: dM) pos) (fun σ H Q=>te σ H fun x H1=>∃ c,TF X.K x H1 c∧if c=true then Q x H1 else tf σ H1 Q):=by
  intro pins s σ H Q I h
  refine BoolOp_or (thn (ha pins s σ H _ I h) fun v s1 ⟨x,H1,I1,r1,c,tv,q1⟩=>?_)
  refine thn (FD pins s1 σ H1 x v (fun d H2=>d=c∧H2=H1) I1 r1 ⟨c,tv,rfl,rfl⟩) fun d s2 ⟨H2,I2,e1,e2⟩=>?_
  subst e1 e2
  cases d with
  | false=>exact hb pins s2 σ H2 Q I2 q1
  | true=>exact ⟨x,H2,I2,r1,q1⟩
theorem aJf {dM:List Expr} {a' b':CE} (P:Pl X E T k) (ha:JE X E a (wpE T a')) (hb:JE X E (.BoolOp .And (b :: dM) pos) (wpE T b')):JE X E (.BoolOp .And (a :: b :: dM) pos) (wpE T (.an a' b')):=fun F =>
  (aCq (ha F) (hb F)).imp fun σ H Q ⟨σ',Z,G,Q',rs,S,h,kq⟩=>by
    rw [wpE] at h
    refine ⟨σ',Z,G,_,rs,S,h,fun x v Z1 G1 H1 s1 S1 r1 q1=>?_⟩
    obtain ⟨c,tv,q⟩:=uZ P.hK S1 r1 q1
    refine ⟨c,tv, ?_⟩
    cases c with
    | true=>rw [if_pos rfl] at q ⊢; exact ⟨σ',Z1,G1,Q',rs.mono s1,S1,q,kq.mono s1⟩
    | false=>rw [if_neg Bool.false_ne_true] at q ⊢; exact kq.go s1 S1 r1 q
theorem aJK {dM:List Expr} {a' b':CE} (P:Pl X E T k) (ha:JE X E a (wpE T a')) (hb:JE X E (.BoolOp .Or (b :: dM) pos) (wpE T b')):JE X E (.BoolOp .Or (a :: b :: dM) pos) (wpE T (.oo a' b')):=fun F =>
  (aHs (ha F) (hb F)).imp fun σ H Q ⟨σ',Z,G,Q',rs,S,h,kq⟩=>by
    rw [wpE] at h
    refine ⟨σ',Z,G,_,rs,S,h,fun x v Z1 G1 H1 s1 S1 r1 q1=>?_⟩
    obtain ⟨c,tv,q⟩:=uZ P.hK S1 r1 q1
    refine ⟨c,tv, ?_⟩
    cases c with
    | false=>rw [if_neg Bool.false_ne_true] at q ⊢; exact ⟨σ',Z1,G1,Q',rs.mono s1,S1,q,kq.mono s1⟩
    | true=>rw [if_pos rfl] at q ⊢; exact kq.go s1 S1 r1 q
theorem aHW {op:BoolOp} {t:PTE} (ha:JE X E a t):JE X E (.BoolOp op [a] pos) t:=fun F=>aGV (ha F)
theorem jU {Z:Hp} {x:PV} {v:V} (r:RP E Z x v):(v= .non)↔x= .non:=by
  cases x with
  | non=>exact ⟨fun _=>rfl,fun _=>r⟩
  | bl b=>rw [show v= .bl b from r]; exact ⟨(fun z=>nomatch z),(fun z=>nomatch z)⟩
  | int b=>rw [show v= .int b from r]; exact ⟨(fun z=>nomatch z),(fun z=>nomatch z)⟩
  | str b=>rw [show v= .str b from r]; exact ⟨(fun z=>nomatch z),(fun z=>nomatch z)⟩
  | ty b=>rw [show v= .ty b from r]; exact ⟨(fun z=>nomatch z),(fun z=>nomatch z)⟩
  | ref b=>rw [show v= .ref b from r]; exact ⟨(fun z=>nomatch z),(fun z=>nomatch z)⟩
  | cl b=>rw [show v= .ref _ from r]; exact ⟨(fun z=>nomatch z),(fun z=>nomatch z)⟩
  | fn b=>rw [show v= .ref _ from r]; exact ⟨(fun z=>nomatch z),(fun z=>nomatch z)⟩
  | emp=>obtain ⟨a,rfl,_⟩:=r; exact ⟨(fun z=>nomatch z),(fun z=>nomatch z)⟩
  | dct ks xs=>obtain ⟨_,_,rfl,_⟩:=r; exact ⟨(fun z=>nomatch z),(fun z=>nomatch z)⟩
  | tup xs=>obtain ⟨_,_,rfl,_⟩:=r; exact ⟨(fun z=>nomatch z),(fun z=>nomatch z)⟩
  | lst xs=>obtain ⟨_,_,rfl,_⟩:=r; exact ⟨(fun z=>nomatch z),(fun z=>nomatch z)⟩
  | scr xs=>obtain ⟨_,rfl,_⟩:=r; exact ⟨(fun z=>nomatch z),(fun z=>nomatch z)⟩
  | ob _ _ xs=>obtain ⟨_,_,_,rfl,_⟩:=r; exact ⟨(fun z=>nomatch z),(fun z=>nomatch z)⟩
theorem aG5:OpR X (compareOp .Is) (fun x y H Q=>∃ i j,x= .bl i∧y= .bl j∧Q (.bl (i == j)) H):=by
  intro pins s σ H x y v u Q I rx ry ⟨i,j,e1,e2,q⟩
  subst e1 e2; cases rx; cases ry
  exact is_bool ⟨.bl _,H,I,rfl,q⟩
theorem aCr:OpR X (compareOp .IsNot) (fun x y H Q=>∃ i j,x= .bl i∧y= .bl j∧Q (.bl (!(i == j))) H):=by
  intro pins s σ H x y v u Q I rx ry ⟨i,j,e1,e2,q⟩
  subst e1 e2; cases rx; cases ry
  exact isnot_bool ⟨.bl _,H,I,rfl,q⟩
theorem aID {F:Hp}:OpR X (compareOp .Is) (iK E F (pIs false)):=by
  refine (aHV.or aG5).imp fun v u H Q h=>?_
  obtain ⟨x,y,Z,G,Q',r1,r2,S,q,k⟩:=h
  unfold pIs at q
  split at q
  · refine .inl ⟨r2, ?_⟩
    rcases q with ⟨e,q⟩ | ⟨e,q⟩
    · rw [decide_eq_true ((jU r1).mpr e)]; exact k.here S q cP
    · rw [decide_eq_false fun z=>e ((jU r1).mp z)]; exact k.here S q cP
  · obtain ⟨c,e,q⟩:=q
    subst e
    exact .inr ⟨_,_,r1,r2,k.here S q cP⟩
  · exact q.elim
theorem aBY {F:Hp}:OpR X (compareOp .IsNot) (iK E F (pIs true)):=by
  refine (aCc.or aCr).imp fun v u H Q h=>?_
  obtain ⟨x,y,Z,G,Q',r1,r2,S,q,k⟩:=h
  unfold pIs at q
  split at q
  · refine .inl ⟨r2, ?_⟩
    rcases q with ⟨e,q⟩ | ⟨e,q⟩
    · rw [decide_eq_true ((jU r1).mpr e)]; exact k.here S q cP
    · rw [decide_eq_false fun z=>e ((jU r1).mp z)]; exact k.here S q cP
  · obtain ⟨c,e,q⟩:=q
    subst e
    exact .inr ⟨_,_,r1,r2,k.here S q cP⟩
  · exact q.elim
theorem aEw {Z:Hp} {x:PV} {v:V} (r:RP E Z x v) (h:flP x=true):mU v=true:=by
  cases x <;> first | (cases h; done) | skip
  · rw [show v= .non from r]; rfl
  · rw [show v= .bl _ from r]; rfl
  · rw [show v= .int _ from r]; rfl
  · rw [show v= .str _ from r]; rfl
theorem aKt {Z:Hp} {x y:PV} {v u:V} (r:RP E Z x v) (ry:RP E Z y u) (h:flP x=true) (hy:flP y=true):eqV v u=peq x y:=by
  cases x <;> first | (cases h; done) | skip
  all_goals (cases y <;> first | (cases hy; done) | skip)
  all_goals
    first
    | rw [show v= .non from r]
    | rw [show v= .bl _ from r]
    | rw [show v= .int _ from r]
    | rw [show v= .str _ from r]
  all_goals
    first
    | rw [show u= .non from ry]
    | rw [show u= .bl _ from ry]
    | rw [show u= .int _ from ry]
    | rw [show u= .str _ from ry]
  all_goals simp only [eqV,peq]
theorem aFd {Z:Hp} {x:PV} {v:V} (r:RP E Z x v) (h:flP x=true):∀ {xs:List PV} {vs:List V},RPs E Z xs vs→xs.all flP=true→vs.all mU=true∧inV v vs=xs.any fun z=>peq z x
  | [],_,hr,_=>by cases hr; exact ⟨rfl,rfl⟩
  | y :: ys,_,⟨u,us,e,r1,r2⟩,ha=>by
    subst e
    rw [List.all_cons,Bool.and_eq_true] at ha
    obtain ⟨a,b⟩:=aFd r h r2 ha.2
    refine ⟨by rw [List.all_cons,aEw r1 ha.1,a]; rfl, ?_⟩
    unfold inV at b ⊢
    rw [List.any_cons,List.any_cons,b,aKt r1 r ha.1 h]
theorem VE {F:Hp} {neg:Bool} (hK:E.K=X.K) {v u:V} {H:Hp} {Q:VK} (h:iK E F (pIn neg) v u H Q):rIn X.K neg v u H Q:=by
  obtain ⟨x,y,Z,G,Q',r1,r2,S,⟨xs,hx,h1,h2,q⟩,k⟩:=h
  have key:∀ {a:Addr} {vs:List V},RPs E Z xs vs→(SqL X.K H a vs∨SqT X.K H a vs)→u= .ref a→rIn X.K neg v u H Q:=fun {a vs} t hs e=>by
    obtain ⟨a1,a2⟩:=aFd r1 h1 t h2
    refine ⟨a,vs,e,hs,aEw r1 h1,a1, ?_⟩
    rw [a2]
    exact k.here S q cP
  rcases hx with rfl | hx
  · obtain ⟨a,vs,rfl,ha,ta⟩:=eZ S r2
    exact key ta (.inr (hK▸ha)) rfl
  · obtain ⟨a,vs,rfl,ha,ta⟩:=fG S r2 hx
    exact key ta (.inl (SqL.of ha)) rfl
theorem mI {F:Hp} (P:Pl X E T k):∀ op,OpR X (compareOp op) (iK E F (mM op))
  | .Lt=>aJM.imp fun _ _ _ _ h=>wH (kD (fun _ _ _=>cP) h)
  | .LtE=>aJa.imp fun _ _ _ _ h=>wH (kD (fun _ _ _=>cP) h)
  | .Gt=>aKV.imp fun _ _ _ _ h=>wH (kD (fun _ _ _=>cP) h)
  | .GtE=>aKY.imp fun _ _ _ _ h=>wH (kD (fun _ _ _=>cP) h)
  | .Eq=>YZ P.room P.hK
  | .NotEq=>aIh P.room P.hK
  | .Is=>aID
  | .IsNot=>aBY
  | .In=>RQ.imp fun _ _ _ _ h=>VE P.hK h
  | .NotIn=>CB.imp fun _ _ _ _ h=>VE P.hK h
theorem aHO {op:CmpOp} {a' b':CE} (P:Pl X E T k) (hm:behindInMarks op b=false) (ha:JE X E a (wpE T a')) (hb:JE X E b (wpE T b')):JE X E (.Compare a [op] [b] pos) (wpE T (.cmp op a' b')):=fun F =>
  (DA (mI P op) (ha F) (hb F) hm).imp fun σ H Q h=>SM (by rw [wpE] at h; exact h)
theorem aGr {op:CmpOp} {a' b':CE} (P:Pl X E T k) (hm:behindInMarks op b=false) (ha:JE X E a (wpE T a')) (hb:JE X E b (wpE T b')):JT X E (.Compare a [op] [b] pos) (wpT T (.tsb (.cmp op a' b'))):=fun F =>
  PT.imp (OS (mI P op) (ha F) (hb F) hm) fun σ H Q h=>SM (by
    obtain ⟨σ',Z,G,Q',rs,S,h,kq⟩:=h
    rw [wpT,wpE] at h
    exact ⟨σ',Z,G,_,rs,S,h,fun x v Z1 G1 H1 s1 S1 r1 ⟨kk,e,q⟩=>by subst e; exact ⟨kk,r1,kq _ Z1 G1 H1 s1 S1 q⟩⟩)
theorem NL {F:Hp} {op op':CmpOp} {a' b' c':CE} {σ:L2.St} {H:Hp} {Q:VK} (h:low E F (wpE T (.chn op op' a' b' c')) σ H Q):ML (iK E F (mM op)) (iK E F (mM op')) (low E F (wpE T a')) (low E F (wpE T b')) (low E F (wpE T c')) σ H Q:=by
  obtain ⟨σ',Z,G,Q',rs,S,h,kq⟩:=h
  rw [wpE] at h
  refine ⟨σ',Z,G,_,rs,S,h,fun x v Z1 G1 H1 s1 S1 r1 q1=>⟨σ',Z1,G1,_,rs.mono s1,S1,q1,fun y u Z2 G2 H2 s2 S2 r2 q2=>⟨x,y,Z2,G2,_,r1.mono s2,r2,S2,q2, ?_⟩⟩⟩
  rintro z w Z3 G3 H3 s3 S3 r3 ⟨kk,e,q3⟩
  subst e
  refine ⟨kk,r3, ?_⟩
  have sz:=(s1.trans s2).trans s3
  cases kk with
  | true =>
    rw [if_pos rfl] at q3 ⊢
    exact ⟨σ',Z3,G3,_,rs.mono sz,S3,q3,fun z' w' Z4 G4 H4 s4 S4 r4 q4=>⟨y,z',Z4,G4,Q',(r2.mono s3).mono s4,r4,S4,q4,kq.mono (sz.trans s4)⟩⟩
  | false =>
    rw [if_neg Bool.false_ne_true] at q3 ⊢
    exact kq.go sz S3 cP q3
theorem aFU {op op':CmpOp} {a' b' c':CE} (P:Pl X E T k) (hm:lastMarks [op,op'] [b,c]=false) (ha:JE X E a (wpE T a')) (hb:JE X E b (wpE T b')) (hc:JE X E c (wpE T c')):JE X E (.Compare a [op,op'] [b,c] pos) (wpE T (.chn op op' a' b' c')):=fun F =>
  (XV (mI P op) (mI P op') (ha F) (hb F) (hc F) hm).imp fun σ H Q h=>NL h
theorem aIt {op op':CmpOp} {a' b' c':CE} (P:Pl X E T k) (hm:lastMarks [op,op'] [b,c]=false) (ha:JE X E a (wpE T a')) (hb:JE X E b (wpE T b')) (hc:JE X E c (wpE T c')):JT X E (.Compare a [op,op'] [b,c] pos) (wpT T (.tsb (.chn op op' a' b' c'))):=fun F =>
  PT.imp (XY (mI P op) (mI P op') (ha F) (hb F) (hc F) hm) fun σ H Q h=>NL (by
    obtain ⟨σ',Z,G,Q',rs,S,h,kq⟩:=h
    rw [wpT] at h
    exact ⟨σ',Z,G,_,rs,S,h,fun x v Z1 G1 H1 s1 S1 r1 ⟨kk,e,q⟩=>by subst e; exact ⟨kk,r1,kq _ Z1 G1 H1 s1 S1 q⟩⟩)
theorem EU {a':CE} (P:Pl X E T k) (ha:JE X E a (wpE T a')) (he:∀ whole,isTrue a X.env whole=(do let v ←whole; standAt a.pos; holding [v] (truthy v))):JT X E a (wpT T (.tst a')):=fun F =>
  PT.imp (YR (ha F) he) fun σ H Q ⟨σ',Z,G,Q',rs,S,h,kq⟩=>by
    rw [wpT] at h
    refine ⟨σ',Z,G,_,rs,S,h,fun x v Z1 G1 H1 s1 S1 r1 q1=>?_⟩
    obtain ⟨c,tv,q⟩:=uZ P.hK S1 r1 q1
    exact ⟨c,tv,kq _ Z1 G1 H1 s1 S1 q⟩
theorem aGw {a':CE} (ha:JT X E a (wpT T a')):JW X E (.BoolOp .And [a] pos) (wpT T a'):=fun F=>aCp (ha F)
theorem aGa {a':CE} (ha:JT X E a (wpT T a')):JW X E (.BoolOp .Or [a] pos) (wpT T a'):=fun F=>aGT (ha F)
theorem aK1 {F:Hp} {a' b':CE} {σ:L2.St} {H:Hp} {Q:Bool→Hp→Prop} (h:BY E F (wpT T (.an a' b')) σ H Q):aLN (BY E F (wpT T a')) (BY E F (wpT T b')) σ H Q:=by
  obtain ⟨σ',Z,G,Q',rs,S,h,kq⟩:=h
  rw [wpT] at h
  refine ⟨σ',Z,G,_,rs,S,h,fun d Z1 G1 H1 s1 S1 q=>?_⟩
  cases d with
  | true=>rw [if_pos rfl] at q ⊢; exact ⟨σ',Z1,G1,Q',rs.mono s1,S1,q,kq.mono s1⟩
  | false=>rw [if_neg Bool.false_ne_true] at q ⊢; exact kq _ _ _ _ s1 S1 q
theorem aKA {F:Hp} {a' b':CE} {σ:L2.St} {H:Hp} {Q:Bool→Hp→Prop} (h:BY E F (wpT T (.oo a' b')) σ H Q):tOr (BY E F (wpT T a')) (BY E F (wpT T b')) σ H Q:=by
  obtain ⟨σ',Z,G,Q',rs,S,h,kq⟩:=h
  rw [wpT] at h
  refine ⟨σ',Z,G,_,rs,S,h,fun d Z1 G1 H1 s1 S1 q=>?_⟩
  cases d with
  | false=>rw [if_neg Bool.false_ne_true] at q ⊢; exact ⟨σ',Z1,G1,Q',rs.mono s1,S1,q,kq.mono s1⟩
  | true=>rw [if_pos rfl] at q ⊢; exact kq _ _ _ _ s1 S1 q
theorem aKa {dM:List Expr} {a' b':CE} (ha:JT X E a (wpT T a')) (hb:JW X E (.BoolOp .And (b :: dM) pos) (wpT T b')):JW X E (.BoolOp .And (a :: b :: dM) pos) (wpT T (.an a' b')):=fun F=>PW.imp (aIC (ha F) (hb F)) fun _ _ _ h=>aK1 h
theorem aJz {dM:List Expr} {a' b':CE} (ha:JT X E a (wpT T a')) (hb:JW X E (.BoolOp .Or (b :: dM) pos) (wpT T b')):JW X E (.BoolOp .Or (a :: b :: dM) pos) (wpT T (.oo a' b')):=fun F=>PW.imp (aJT (ha F) (hb F)) fun _ _ _ h=>aKA h
theorem JW.jt {e:Expr} {t:PTT} (h:JW X E e t):JT X E e t:=fun F=>(h F).pt
theorem aKF {a':CE} (ha:JT X E a (wpT T a')):JT X E (.UnaryOp .Not a pos) (wpT T (.no a')):=fun F =>
  PT.imp (aHC (ha F)) fun σ H Q ⟨σ',Z,G,Q',rs,S,h,kq⟩=>by
    rw [wpT] at h
    exact ⟨σ',Z,G,_,rs,S,h,fun d Z1 G1 H1 s1 S1 q=>kq _ _ _ _ s1 S1 q⟩
theorem aHu:JA X E [] (wpL T .nil):=fun F=>PA.imp sZ fun σ H Q ⟨σ',Z,G,Q',rs,S,h,kq⟩=>by rw [wpL] at h; exact kq [] [] Z G H rfl (aR.refl Z) S rfl h
theorem aCg {e:Expr} {es:List Expr} {a' b':CE} (ha:JE X E e (wpE T a')) (hr:JA X E es (wpL T b')) (hs:starEach (e :: es) X.env=(false,eval e X.env) :: starEach es X.env):JA X E (e :: es) (wpL T (.cons a' b')):=fun F =>
  PA.imp (fP (ha F) (hr F) hs) fun σ H Q ⟨σ',Z,G,Q',rs,S,h,kq⟩=>by
    rw [wpL] at h
    exact ⟨σ',Z,G,_,rs,S,h,fun x v Z1 G1 H1 s1 S1 r1 q1=>⟨σ',Z1,G1,_,rs.mono s1,S1,q1,fun xs vs Z2 G2 H2 l2 s2 S2 r2 q2=>kq (x :: xs) (v :: vs) _ _ _ (by rw [List.length_cons,l2]; rfl) (s1.trans s2) S2 ⟨v,vs,rfl,r1.mono s2,r2⟩ q2⟩⟩
theorem aH1 {es:List Expr} {x1:Nat} {es':CE} (h:JA X E es (wpL T es')):JE X E (.Tuple es x1 pos) (wpE T (.tup es')):=fun F =>
  (aHf (h F)).imp fun σ H Q ⟨σ',Z,G,Q',rs,S,h,kq⟩=>by
    rw [wpE] at h
    refine ⟨σ',Z,G,_,rs,S,h,fun xs vs Z1 G1 H1 l1 s1 S1 r1 q1=>⟨by rw [←r1.length]; exact q1.1,fun p n=>(kq.mono s1).newZ S1 n (kW (S1.zn n) r1) q1.2⟩⟩
theorem aAB {F Z H:Hp} {G:Gh} {m:Bool} {xs:List PV} {vs:List V} {Q':PK1} {Q:VK} {p:Addr} (S:Sim E F H Z G) (n:H p=none) (r:RPs E Z xs vs) (q:yO m G xs Q') (kq:Kq E F Z Q' Q):Q (.ref p) (upd H p (.lst vs)):=by
  unfold yO at q
  cases m with
  | true =>
    rw [if_pos rfl] at q
    exact kq (.ref p) _ _ _ _ (aR.refl Z) (S.new (go:=.lst xs) n ⟨vs,rfl,r⟩) rfl (q p (S.gn n))
  | false =>
    rw [if_neg Bool.false_ne_true] at q
    exact kq.newZ S n (mJ (S.zn n) r) q
theorem aGH {es:List Expr} {es':CE} {m:Bool} (h:JA X E es (wpL T es')):JE X E (.List es pos) (wpE T (.lst m es')):=fun F =>
  (aIG (h F)).imp fun σ H Q ⟨σ',Z,G,Q',rs,S,h,kq⟩=>by
    rw [wpE] at h
    refine ⟨σ',Z,G,_,rs,S,h,fun xs vs Z1 G1 H1 l1 s1 S1 r1 q1=>⟨by rw [←r1.length]; exact q1.1,fun p n=>aAB S1 n r1 q1.2 (kq.mono s1)⟩⟩
theorem aFS {a' b':CE} (P:Pl X E T k) (ha:JE X E a (wpE T a')) (hb:JE X E b (wpE T b')) (hs:vK b):JE X E (.Subscript a b pos) (wpE T (.idx a' b')):=fun F =>
  (aFf (aGf P.room P.hK) (ha F) (hb F) hs).imp fun σ H Q h=>SM (by rw [wpE] at h; exact h)
noncomputable def aLW (E:Ev) (F:Hp) (t:PSt→Gh→(Option Int→Gh→Prop)→Prop):TO:=fun σ H Q=>∃ σ' Z G Q',RSt E Z σ' σ∧Sim E F H Z G∧t σ' G Q'∧∀ o Z1 G1 H1,aR Z Z1→Sim E F H1 Z1 G1→Q' o G1→Q o H1
noncomputable def JO (X:Cx) (E:Ev) (e:Option Expr) (t:PSt→Gh→(Option Int→Gh→Prop)→Prop):Prop:= ∀ F,PO X e (aLW E F t)
theorem PO.imp {e:Option Expr} {t t':TO} (h:PO X e t) (g:∀ σ H Q,t' σ H Q→t σ H Q):PO X e t':=fun pins s σ H Q I q=>h pins s σ H Q I (g _ _ _ q)
theorem aHk:JO X E none (wpO T .nil):=fun F=>PO.imp aCI fun σ H Q ⟨σ',Z,G,Q',rs,S,h,kq⟩=>by rw [wpO] at h; exact kq _ _ _ _ (aR.refl Z) S h
theorem aCQ {a':CE} (ha:JE X E a (wpE T a')):JO X E (some a) (wpO T (.tst a')):=fun F=>PO.imp (aCs (ha F)) fun σ H Q ⟨σ',Z,G,Q',rs,S,h,kq⟩=>by
  rw [wpO] at h
  exact ⟨σ',Z,G,_,rs,S,h,fun x v Z1 G1 H1 s1 S1 r1 ⟨i,e,q⟩=>by subst e; exact ⟨i,r1,kq _ _ _ _ s1 S1 q⟩⟩
theorem aFY {lo hi:Option Expr} {p2:Pos} {a' l' h':CE} (P:Pl X E T k) (ha:JE X E a (wpE T a')) (hl:JO X E lo (wpO T l')) (hu:JO X E hi (wpO T h')):JE X E (.Subscript a (.Slice lo hi none p2) pos) (wpE T (.sli a' l' h')):=fun F =>
  (XE (aHb P.hK) (ha F) (hl F) (hu F)).imp fun σ H Q ⟨σ',Z,G,Q',rs,S,h,kq⟩=>by
    rw [wpE] at h
    refine ⟨σ',Z,G,_,rs,S,h,fun x v Z1 G1 H1 s1 S1 r1 q1=>⟨σ',Z1,G1,_,rs.mono s1,S1,q1,fun o Z2 G2 H2 s2 S2 q2=>⟨σ',Z2,G2,_,(rs.mono s1).mono s2,S2,q2,fun o' Z3 G3 H3 s3 S3 q3=>?_⟩⟩⟩
    exact ⟨x,Z3,G3,Q',(r1.mono s2).mono s3,S3,q3,kq.mono ((s1.trans s2).trans s3)⟩
theorem nE {ns:List Str} {f:Str} {x:PV} {Z:Hp}:∀ {ns:List Str} {xs:List PV} {vs:List V},RPs E Z xs vs→(ns.zip xs).lookup f=some x→∃ v,(ns.zip vs).lookup f=some v∧RP E Z x v
  | [],_,_,_,h=>by cases h
  | _ :: _,[],_,_,h=>by cases h
  | n :: ns,y :: ys,_,⟨v,r,e,r1,r2⟩,h=>by
    subst e
    rw [List.zip_cons_cons,List.lookup_cons] at h
    rw [List.zip_cons_cons,List.lookup_cons]
    cases hb:f == n with
    | true=>rw [hb] at h; cases h; exact ⟨v,rfl,r1⟩
    | false=>rw [hb] at h; exact nE (ns:=ns) r2 h
theorem aGo {f:Str} {a':CE} (P:Pl X E T k) (ha:JE X E a (wpE T a')) (hb:attributeBase a f X.env (eval a X.env)=eval a X.env):JE X E (.Attribute a f pos) (wpE T (.att a' f)):=fun F =>
  (aFR (ha F) hb).imp fun σ H Q ⟨σ',Z,G,Q',rs,S,h,kq⟩=>by
    rw [wpE] at h
    refine ⟨σ',Z,G,_,rs,S,h,fun x v Z1 G1 H1 s1 S1 r1 ⟨c,ns,xs,y,hx,hf,hl,q⟩=>?_⟩
    obtain ⟨h1,h2⟩:=P.fld c f hf
    rcases hx with e | ⟨a,e,hG⟩
    · subst e
      obtain ⟨p,dx,vs,e,hp,_,t⟩:=r1
      obtain ⟨w,e1,e2⟩:=nE (ns:=ns) t hl
      exact ⟨p,_,dx,_,w,e,S1.z _ _ hp,h1,h2,e1,kq.go s1 S1 e2 q⟩
    · subst e
      obtain ⟨_,o',hp,dx,vs,e',_,t⟩:=S1.g _ _ hG
      subst e'
      obtain ⟨w,e1,e2⟩:=nE (ns:=ns) t hl
      exact ⟨a,_,dx,_,w,r1,hp,h1,h2,e1,kq.go s1 S1 e2 q⟩
theorem aHE {x:Str} {p:Pos} {e:Expr} {es:List Expr} {bb:Bn} {es':CE} (P:Pl X E T k) (hg:Gl X x) (hm:X.mg x=none) (hv:bootBuiltins x=some (aH9 bb)) (hn:x≠"__name__") (hd:(x == ("__debug__":Str))=false)
    (ha:JA X E (e :: es) (wpL T es')) (he:starEach (e :: es) X.env=(false,eval e X.env) :: starEach es X.env) (hpl:(backTo pos (starEach es X.env)).any (·.1)=false):JE X E (.Call (.Name x p) (e :: es) [] pos) (wpE T (.blt bb es')):=fun F=>by
  have main:PE X (.Call (.Name x p) (e :: es) [] pos) (tCB (aGt E F (eW T.cs bb)) (MX E F (e :: es).length (wpL T es'))):=by
    have hc:=aBI (F:=F) (cs:=T.cs) P.hK P.calm P.cls bb
    cases bb <;> first
      | exact ZA hc hg hm hv (ha F) hn hd he hpl
      | exact PZ hc hg hm hv (ha F) hn hd he hpl
  exact main.imp fun σ H Q ⟨σ',Z,G,Q',rs,S,h,kq⟩=>by
    rw [wpE] at h
    exact ⟨σ',Z,G,_,rs,S,h,fun xs vs Z1 G1 H1 l1 s1 S1 r1 q1=>⟨xs,Z1,G1,Q',r1,S1,q1,kq.mono s1⟩⟩
noncomputable def fA (E:Ev) (sp:Sp3):Sp:=fun vs H Q _=>∃ xs Z G F Q',RPs E Z xs vs∧Sim E F H Z G∧sp xs G Q'∧Kq E F Z Q' Q
theorem aIy {f:Str} {p:Pos} {e:Expr} {es:List Expr} {es':CE} {ad:Addr} {fd:FuncData} {ps:List Str} (K:cJ X.prog X.w X.K X.mg X.base CX0 k ad fd ps (fA E (T.S f))) (hr:bS k X.A) (hg:Gl X f) (hm:X.mg f=some (.ref ad)) (hk:W.keepIn X.K (.ref ad)=true)
    (hb:aE X.K fd ps []) (hd:(f == ("__debug__":Str))=false) (ha:JA X E (e :: es) (wpL T es')) (he:starEach (e :: es) X.env=(false,eval e X.env) :: starEach es X.env) (hpl:(backTo pos (starEach es X.env)).any (·.1)=false) :
    JE X E (.Call (.Name f p) (e :: es) [] pos) (wpE T (.cal f es')):=fun F =>
  (aCA K hr hg hm hk hb .nil VP (ha F) hd he hpl).imp fun σ H Q ⟨σ',Z,G,Q',rs,S,h,kq⟩=>by
    rw [wpE] at h
    exact ⟨σ',Z,G,_,rs,S,h,fun xs vs Z1 G1 H1 l1 s1 S1 r1 q1=>by
      show fA E (T.S f) (vs ++ []) H1 Q E0
      rw [List.append_nil]
      exact ⟨xs,Z1,G1,F,Q',r1,S1,q1,kq.mono s1⟩⟩
structure EqM (X:Cx) (E:Ev) (T:Tb) (k:Nat) (c:String) (m:Str):Prop where
  ex:∃ ad fd,zZ X.K (E.cls c) "__eq__" ad∧cJ X.prog X.w X.K X.mg X.base CX0 k ad fd ["self","other"] (fA E (T.S m))∧aE X.K fd ["self","other"] []
theorem OK {F:Hp} {eqs:List (String×Str)} (P:Pl X E T (k + 1)) (he:∀ y∈eqs,EqM X E T k y.1 y.2):OpR X (compareOp .Eq) (iK E F (aDH T eqs)):=by
  intro pins s σ H v w u1 u2 Q I rv rw' ⟨x,y,Z,G,Q',r1,r2,S,q,kq⟩
  rcases q with ⟨c,m,ns,xs,ns',ys,hm,e1,e2,q⟩ | q
  · subst e1 e2
    obtain ⟨ad,fd,M,Fn,hb⟩:=(he _ hm).ex
    have r1':=r1
    have r2':=r2
    obtain ⟨a,dx,vs,ea,hz,_,_⟩:=r1'
    obtain ⟨a2,dx2,vs2,ea2,hz2,_,_⟩:=r2'
    subst ea ea2
    refine aGC M Fn (P.room.mono (Nat.le_succ k)) hb pins s σ H _ _ u1 u2 Q I rv rw' ⟨a,dx,_,a2,dx2,_,rfl,rfl,S.z _ _ hz,S.z _ _ hz2, ?_⟩
    exact ⟨[.ob c ns xs,.ob c ns' ys],Z,G,F,_,⟨_,_,rfl,r1,_,_,rfl,r2,rfl⟩,S,q,fun x v Z1 G1 H1 s1 S1 r3 ⟨b,e,q3⟩=>by subst e; have e:v= .bl b:=r3; exact ⟨b,e,kq _ _ Z1 G1 H1 s1 S1 cP q3⟩⟩
  · exact YZ P.room P.hK pins s σ H v w u1 u2 Q I rv rw' ⟨x,y,Z,G,Q',r1,r2,S,q,kq⟩
theorem aHo {eqs:List (String×Str)} {a' b':CE} (P:Pl X E T (k + 1)) (he:∀ y∈eqs,EqM X E T k y.1 y.2) (hm:behindInMarks .Eq b=false) (ha:JE X E a (wpE T a')) (hb:JE X E b (wpE T b')):JE X E (.Compare a [.Eq] [b] pos) (wpE T (.ceq eqs a' b')):=fun F =>
  (DA (OK P he) (ha F) (hb F) hm).imp fun σ H Q h=>SM (by rw [wpE] at h; exact h)
theorem aH0 {eqs:List (String×Str)} {a' b':CE} (P:Pl X E T (k + 1)) (he:∀ y∈eqs,EqM X E T k y.1 y.2) (hm:behindInMarks .Eq b=false) (ha:JE X E a (wpE T a')) (hb:JE X E b (wpE T b')):JT X E (.Compare a [.Eq] [b] pos) (wpT T (.tsb (.ceq eqs a' b'))):=fun F =>
  PT.imp (OS (OK P he) (ha F) (hb F) hm) fun σ H Q h=>SM (by
    obtain ⟨σ',Z,G,Q',rs,S,h,kq⟩:=h
    rw [wpT,wpE] at h
    exact ⟨σ',Z,G,_,rs,S,h,fun x v Z1 G1 H1 s1 S1 r1 ⟨kk,e,q⟩=>by subst e; exact ⟨kk,r1,kq _ Z1 G1 H1 s1 S1 q⟩⟩)
structure NeM (X:Cx) (E:Ev) (T:Tb) (k:Nat) (c:String) (m:Str):Prop where
  ex:∃ ad fd,NeC X.K (E.cls c)∧zZ X.K (E.cls c) "__eq__" ad∧cJ X.prog X.w X.K X.mg X.base CX0 k ad fd ["self","other"] (fA E (T.S m))∧aE X.K fd ["self","other"] []
structure LnM (X:Cx) (E:Ev) (T:Tb) (k:Nat) (c:String) (m:Str):Prop where
  ex:∃ ad fd,NeC X.K (E.cls c)∧zZ X.K (E.cls c) "__len__" ad∧cJ X.prog X.w X.K X.mg X.base CX0 k ad fd ["self"] (fA E (T.S m))∧aE X.K fd ["self"] []
noncomputable def bwN:Bn→Option Str
  | .len=>some "__len__"
  | .bool=>some "__len__"
  | .str=>some "__str__"
  | .repr=>some "__repr__"
  | _=>none
structure OwM (X:Cx) (E:Ev) (T:Tb) (k:Nat) (b:Bn) (c:String) (m:Str):Prop where
  ex:∃ ad fd k0 nm,k0 + 2≤k∧bwN b=some nm∧NeC X.K (E.cls c)∧zZ X.K (E.cls c) nm ad∧cJ X.prog X.w X.K X.mg X.base CX0 k0 ad fd ["self"] (fA E (T.S m))∧aE X.K fd ["self"] []
end
section
variable {X:Cx} {E:Ev} {T:Tb} {k:Nat} {pos:Pos} {a b c e:Expr}
theorem DV {i:Nat} {x:Str} (hN:X.N.Nodup) (hi:X.N[i]? =some x) (hx:Loc X.env.scope x) (hf:X.fn x=true∨X.env.scope.names.lookup x=some .local):JG X E (.Name x pos) (wpG T (.gn i)):=fun F =>
  (OI hN hi hx hf).imp fun v σ H Q ⟨x,σ',Z,G,Q',r,rs,S,h,kq⟩=>by
    rw [wpG] at h
    exact kq _ _ _ _ _ (aR.refl Z) S (rs.set r i) h
theorem aB7:JGs X E [] (eX T .nil):=fun F=>PGs.imp aCb fun vs σ H Q ⟨xs,σ',Z,G,Q',r,rs,S,h,kq⟩=>by
  rw [eX] at h
  obtain ⟨e,h⟩:=h
  subst e
  exact ⟨r,kq _ _ _ _ _ (aR.refl Z) S rs h⟩
theorem aBa {e:Expr} {es:List Expr} {a' b':CE} (h1:JG X E e (wpG T a')) (h2:JGs X E es (eX T b')) (hs:(assignEach (e :: es) X.env).map (·.2)=assign e X.env :: (assignEach es X.env).map (·.2)):JGs X E (e :: es) (eX T (.cons a' b')):=fun F =>
  PGs.imp (aBe (h1 F) (h2 F) hs) fun vs σ H Q ⟨xs,σ',Z,G,Q',r,rs,S,h,kq⟩=>by
    rw [eX] at h
    obtain ⟨x,t,e,h⟩:=h
    subst e
    obtain ⟨v,u,e,r1,r2⟩:=r
    exact ⟨v,u,e,x,σ',Z,G,_,r1,rs,S,h,fun σ1 σ2 Z1 G1 H1 s1 S1 rs1 q1=>⟨t,σ1,Z1,G1,Q',r2.mono s1,rs1,S1,q1,kq.mono s1⟩⟩
theorem UI {es:List Expr} {x1 n:Nat} {gs:CE} (P:Pl X E T k) (h:JGs X E es (eX T gs)) (hn:(assignEach es X.env).length=n) (hst:(assignEach es X.env).findIdx? (·.1)=none):JG X E (.Tuple es x1 pos) (wpG T (.gt n gs)):=fun F =>
  (aFN P.calm (h F) hn hst).imp fun v σ H Q ⟨x,σ',Z,G,Q',r,rs,S,h,kq⟩=>by
    rw [wpG] at h
    obtain ⟨xs,e,hl,h⟩:=h
    subst e
    obtain ⟨a,vs,e,ha,t⟩:=eZ S r
    exact ⟨a,vs,e,P.hK▸ha,by rw [←t.length]; exact hl,xs,σ',Z,G,Q',t,rs,S,h,kq⟩
theorem aHl {es:List Expr} {x1 n:Nat} {gs:CE} (P:Pl X E T k) (h:JGs X E es (eX T gs)) (hn:(assignEach es X.env).length=n) (hst:(assignEach es X.env).findIdx? (·.1)=none):JG X E (.Tuple es x1 pos) (wpG T (.gl n gs)):=fun F =>
  (aHL P.calm (h F) hn hst).imp fun v σ H Q ⟨x,σ',Z,G,Q',r,rs,S,h,kq⟩=>by
    rw [wpG] at h
    obtain ⟨xs,e,hl,h⟩:=h
    obtain ⟨a,vs,e,ha,t⟩:=fG (xs:=xs) S r e
    exact ⟨a,vs,e,ha,by rw [←t.length]; exact hl,xs,σ',Z,G,Q',t,rs,S,h,kq⟩
noncomputable def oY (E:Ev) (J:It) (Z:Hp) (chk:Gh→Prop) (xs:List PV):Prop:= ∀ F (i:Nat) Z1 G1 H1,aR Z Z1→Sim E F H1 Z1 G1→chk G1→
  (∀ x,xs[i]? =some x→J.go i H1∧∀ v H2,J.yld i H1 v H2→∃ Z2,aR Z1 Z2∧Sim E F H2 Z2 G1∧RP E Z2 x v)∧(i=xs.length→J.stop i H1)
theorem oY.mono {J:It} {Z Z':Hp} {chk:Gh→Prop} {xs:List PV} (h:oY E J Z chk xs) (s:aR Z Z'):oY E J Z' chk xs:=fun F i Z1 G1 H1 s1=>h F i Z1 G1 H1 (s.trans s1)
noncomputable def aJR (E:Ev) (F:Hp) (t:PTI):TI:=fun σ H R=>∃ σ' Z G R',RSt E Z σ' σ∧Sim E F H Z G∧t σ' G R'∧∀ J chk xs Z1 G1 H1,aR Z Z1→Sim E F H1 Z1 G1→oY E J Z1 chk xs→R' chk xs G1→R J H1
noncomputable def JI (X:Cx) (E:Ev) (tg iter:Expr) (t:PTI):Prop:= ∀ F,PI X tg iter (aJR E F t)
theorem aH7 {tg l:Expr} {tl:TE} (hl:PE X l tl):PI X tg l (fun σ H R=>tl σ H fun x H1=>∃ a,x= .ref a∧(((∃ xs,SqL X.K H1 a xs)∧R (Itl X.K a) H1)∨((∃ xs,SqT X.K H1 a xs)∧R (Itt X.K a) H1))):=by
  intro pins s σ H R I h
  have hw:=hl pins s σ H _ I h
  refine thn hw fun v s1 ⟨x,H1,I1,r1,a,e,q1⟩=>?_
  subst e
  have r1':v= .ref a:=r1
  subst r1'
  rcases q1 with ⟨⟨xs,hq⟩,q⟩ | ⟨⟨xs,hq⟩,q⟩
  · obtain ⟨its,rv,p,hz⟩:=I1.list hq
    refine wpAny_pyIter_list p.isList ?_
    refine ⟨s1.heap.objs.size,[s1.heap.objs.size],_,_,H1,rfl,I1.kept (t':=s1.toks) fun b o e=>Heap.get?_push_of_some _ e,SQ a _,⟨_,Heap.get?_push_size _ rfl,rfl,rfl⟩,fun b hb=>?_,q⟩
    have e:b=s1.heap.objs.size:=by simpa using hb
    subst e
    exact I1.fpOk (Nat.le_refl _) (I1.hok.fresh (Nat.le_refl _))
  · obtain ⟨its,rv,p,hz⟩:=I1.tuple hq
    refine wpAny_pyIter_tuple (show s1.heap.IsTuple a its.toArray from p) ?_
    refine ⟨s1.heap.objs.size,[s1.heap.objs.size],_,_,H1,rfl,I1.kept (t':=s1.toks) fun b o e=>Heap.get?_push_of_some _ e,LF a _,⟨_,Heap.get?_push_size _ rfl,rfl,rfl⟩,fun b hb=>?_,q⟩
    have e:b=s1.heap.objs.size:=by simpa using hb
    subst e
    exact I1.fpOk (Nat.le_refl _) (I1.hok.fresh (Nat.le_refl _))
theorem CP {a:Addr} {Z:Hp} {chk:Gh→Prop} {xs:List PV} (h:∀ F Z1 G1 H1,aR Z Z1→Sim E F H1 Z1 G1→chk G1→∃ vs,SqL E.K H1 a vs∧RPs E Z1 xs vs):oY E (Itl E.K a) Z chk xs:=by
  intro F i Z1 G1 H1 s1 S1 c1
  obtain ⟨vs,hs,t⟩:=h F Z1 G1 H1 s1 S1 c1
  refine ⟨fun x ex=>?_,fun e=>⟨vs,hs,by rw [e,t.length]; exact Nat.le_refl _⟩⟩
  obtain ⟨v,ev,rv⟩:=t.get ex
  refine ⟨⟨vs,v,hs,ev⟩,fun w H2 ⟨e,y⟩=>?_⟩
  subst e
  have:=y vs hs
  rw [ev] at this
  cases this
  exact ⟨Z1,aR.refl _,S1,rv⟩
theorem aF8 {a:Addr} {Z:Hp} {chk:Gh→Prop} {xs:List PV} (h:∀ F Z1 G1 H1,aR Z Z1→Sim E F H1 Z1 G1→chk G1→∃ vs,SqT E.K H1 a vs∧RPs E Z1 xs vs):oY E (Itt E.K a) Z chk xs:=by
  intro F i Z1 G1 H1 s1 S1 c1
  obtain ⟨vs,hs,t⟩:=h F Z1 G1 H1 s1 S1 c1
  refine ⟨fun x ex=>?_,fun e=>⟨vs,hs,by rw [e,t.length]; exact Nat.le_refl _⟩⟩
  obtain ⟨v,ev,rv⟩:=t.get ex
  refine ⟨⟨vs,v,hs,ev⟩,fun w H2 ⟨e,y⟩=>?_⟩
  subst e
  have:=y vs hs
  rw [ev] at this
  cases this
  exact ⟨Z1,aR.refl _,S1,rv⟩
theorem aHS {a:Addr} {Z:Hp} {vs:List V} {xs:List PV} (hz:SqT E.K Z a vs) (t:RPs E Z xs vs):oY E (Ite E.K a) Z (fun _=>True) (EH xs):=by
  intro F i Z1 G1 H1 s1 S1 _
  have hs:=dQ S1.z (dQ s1 hz)
  have hl:(EH xs).length=xs.length:=by unfold EH; rw [List.length_map,List.length_zipIdx]
  refine ⟨fun x ex=>?_,fun e=>⟨vs,hs,by rw [e,hl,t.length]; exact Nat.le_refl _⟩⟩
  unfold EH at ex
  rw [List.getElem?_map,List.getElem?_zipIdx] at ex
  cases ey:xs[i]? with
  | none=>rw [ey] at ex; cases ex
  | some y =>
    rw [ey] at ex
    have ex':x= .tup [.int ((0 + i:Nat):Int),y]:=by
      have:=Option.some.inj ex
      exact this.symm
    obtain ⟨v,ev,rv⟩:=t.get ey
    refine ⟨⟨vs,v,hs,ev⟩,fun w H2 ⟨p,u,e,n,e2,y'⟩=>?_⟩
    subst e e2
    have:=y' vs hs
    rw [ev] at this
    cases this
    refine ⟨upd Z1 p (.tup [.int i,v]),cM (S1.zn n) _,S1.fz n, ?_⟩
    rw [ex',Nat.zero_add]
    exact kW (xs:=[.int (i:Int),y]) (S1.zn n) ⟨_,_,rfl,bE,_,_,rfl,rv.mono s1,rfl⟩
theorem aAJ {lo:Int} {n:Nat} {Z:Hp}:oY E (Itr lo n) Z (fun _=>True) (pY lo n):=by
  intro F i Z1 G1 H1 s1 S1 _
  have hl:(pY lo n).length=n:=by unfold pY; rw [List.length_map,List.length_range]
  refine ⟨fun x ex=>?_,fun e=>by rw [hl] at e; exact Nat.le_of_eq e.symm⟩
  have hi:i < n:=by
    have:=(List.getElem?_eq_some_iff.mp ex).1
    rw [hl] at this; exact this
  have ex':x= .int (lo + i):=by
    unfold pY at ex
    rw [List.getElem?_map,List.getElem?_range hi] at ex
    exact (Option.some.inj ex).symm
  refine ⟨hi,fun w H2 ⟨e,y⟩=>?_⟩
  subst e y
  exact ⟨Z1,aR.refl _,S1,by rw [ex']; exact bE⟩
theorem EA {tg:Expr} {a':CE} (P:Pl X E T k) (ha:JE X E a (wpE T a')):JI X E tg a (wpI T (.isq a')):=fun F =>
  (aH7 (ha F)).imp fun σ H R ⟨σ',Z,G,R',rs,S,h,kr⟩=>by
    rw [wpI] at h
    refine ⟨σ',Z,G,_,rs,S,h,fun x v Z1 G1 H1 s1 S1 r1 q1=>?_⟩
    unfold aAp at q1
    split at q1
    · obtain ⟨a,vs,e,ha,t⟩:=r1
      have ok:oY E (Itt E.K a) Z1 (fun _=>True) _:=aF8 fun F2 Z2 G2 H2 s2 S2 _=>⟨vs,dQ S2.z (dQ s2 ha),t.mono s2⟩
      exact ⟨a,e,.inr ⟨⟨vs,P.hK▸dQ S1.z ha⟩,P.hK▸kr _ _ _ _ _ _ s1 S1 ok q1⟩⟩
    · obtain ⟨a,vs,e,ha,t⟩:=r1
      have ok:oY E (Itl E.K a) Z1 (fun _=>True) _:=CP fun F2 Z2 G2 H2 s2 S2 _=>⟨vs,SqL.of (S2.z _ _ (s2 _ _ ha)),t.mono s2⟩
      exact ⟨a,e,.inl ⟨⟨vs,SqL.of (S1.z _ _ ha)⟩,P.hK▸kr _ _ _ _ _ _ s1 S1 ok q1⟩⟩
    · obtain ⟨a,e,ha⟩:=r1
      have ok:oY E (Itl E.K a) Z1 (fun _=>True) _:=CP fun F2 Z2 G2 H2 s2 S2 _=>⟨_,S2.z.seq (s2.seq ha),RPs.ofInts _⟩
      exact ⟨a,e,.inl ⟨⟨_,P.hK▸S1.z.seq ha⟩,P.hK▸kr _ _ _ _ _ _ s1 S1 ok q1⟩⟩
    · rename_i a
      obtain ⟨xs,hG,q1⟩:=q1
      obtain ⟨_,o',hp,vs,e',t⟩:=S1.g _ _ hG
      subst e'
      have ok:oY E (Itl E.K a) Z1 (fun G'=>G' a=some (.lst xs)) xs:=CP fun F2 Z2 G2 H2 s2 S2 c2=>by
        obtain ⟨_,o',hp,vs,e',t⟩:=S2.g _ _ c2
        subst e'
        exact ⟨vs,SqL.of hp,t⟩
      exact ⟨a,r1,.inl ⟨⟨vs,SqL.of hp⟩,P.hK▸kr _ _ _ _ _ _ s1 S1 ok q1⟩⟩
    · exact q1.elim
theorem aB3 {tg:Expr} {p:Pos} {a':CE} (hg:Gl X "range") (hm:X.mg "range"=none) (ha:JE X E a (wpE T a')) (hs:starEach [a] X.env=[(false,eval a X.env)]):JI X E tg (.Call (.Name "range" p) [a] [] pos) (wpI T (.irg (.cons a' .nil))):=fun F =>
  (QM hg hm (fP (ha F) sZ hs) hs).imp fun σ H R ⟨σ',Z,G,R',rs,S,h,kr⟩=>by
    rw [wpI,wpL,wpL] at h
    refine ⟨σ',Z,G,_,rs,S,h,fun x v Z1 G1 H1 s1 S1 r1 q1=>?_⟩
    rcases q1 with ⟨j,e,h1,h2,q⟩ | ⟨i,j,e,_⟩
    · cases e
      exact ⟨j,by rw [show v= .int j from r1],h1,h2,kr _ _ _ _ _ _ s1 S1 aAJ q⟩
    · cases e
theorem aBP {tg:Expr} {p:Pos} {a' b':CE} (hg:Gl X "range") (hm:X.mg "range"=none) (ha:JE X E a (wpE T a')) (hb:JE X E b (wpE T b')) (hs:starEach [a,b] X.env=[(false,eval a X.env),(false,eval b X.env)]) (hs2:starEach [b] X.env=[(false,eval b X.env)]) :
    JI X E tg (.Call (.Name "range" p) [a,b] [] pos) (wpI T (.irg (.cons a' (.cons b' .nil)))):=fun F =>
  (PB hg hm (fP (ha F) (fP (hb F) sZ hs2) (by rw [hs,hs2])) hs hs2).imp fun σ H R ⟨σ',Z,G,R',rs,S,h,kr⟩=>by
    rw [wpI,wpL,wpL,wpL] at h
    refine ⟨σ',Z,G,_,rs,S,h,fun x v Z1 G1 H1 s1 S1 r1 q1=>⟨σ',Z1,G1,_,rs.mono s1,S1,q1,fun y u Z2 G2 H2 s2 S2 r2 q2=>?_⟩⟩
    rcases q2 with ⟨j,e,h1,h2,q⟩ | ⟨i,j,e,hb,q⟩
    · cases e
    · cases e
      exact ⟨i,j,by rw [show v= .int i from r1,show u= .int j from r2],hb,kr _ _ _ _ _ _ (s1.trans s2) S2 aAJ q⟩
theorem aIg {es:List Expr} {x1:Nat} {tp p:Pos} {a':CE} (P:Pl X E T k) (hg:Gl X "enumerate") (hm:X.mg "enumerate"=none) (ha:JE X E a (wpE T a')) (hs:starEach [a] X.env=[(false,eval a X.env)]):JI X E (.Tuple es x1 tp) (.Call (.Name "enumerate" p) [a] [] pos) (wpI T (.ien a')):=fun F =>
  (aDf hg hm (fP (ha F) sZ hs) hs).imp fun σ H R ⟨σ',Z,G,R',rs,S,h,kr⟩=>by
    rw [wpI] at h
    refine ⟨σ',Z,G,_,rs,S,h,fun x v Z1 G1 H1 s1 S1 r1 ⟨xs,e,q1⟩=>?_⟩
    subst e
    obtain ⟨a,vs,e,ha,t⟩:=r1
    exact ⟨a,by rw [e],⟨vs,P.hK▸dQ S1.z ha⟩,P.hK▸kr _ _ _ _ _ _ s1 S1 (aHS ha t) q1⟩
noncomputable def uH (E:Ev) (Z:Hp) (b:Bool) (l:Addr) (us:List V):Prop:=if b=true then SqT E.K Z l us else Z l=some (.lst us)
theorem uH.mono {Z Z':Hp} {b:Bool} {l:Addr} {us:List V} (s:aR Z Z') (h:uH E Z b l us):uH E Z' b l us:=by
  unfold uH at *
  split
  · rename_i e; rw [if_pos e] at h; exact dQ s h
  · rename_i e; rw [if_neg e] at h; exact s _ _ h
theorem uH.at_ {Z:Hp} {b:Bool} {l:Addr} {us:List V} (h:uH E Z b l us):uG E.K Z b l us:=by
  unfold uH at h
  unfold uG
  split
  · rename_i e; rw [if_pos e] at h; exact h
  · rename_i e; rw [if_neg e] at h; exact SqL.of h
theorem NM {Z:Hp}:∀ {xs:List PV} {vs:List V} {yss:List (List PV)},RPs E Z xs vs→xs.map VT=yss.map some→∃ (ls:List (Bool×Addr)) (xss:List (List V)),vs=ls.map (fun p=>V.ref p.2)∧ls.length=yss.length∧xss.length=yss.length∧
    (∀ (j:Nat) (p:Bool×Addr) (us:List V),ls[j]? =some p→xss[j]? =some us→uH E Z p.1 p.2 us)∧∀ (j:Nat) (ys:List PV) (us:List V),yss[j]? =some ys→xss[j]? =some us→RPs E Z ys us
  | [],vs,yss,r,h=>by
    have e:vs=[]:=r
    subst e
    cases yss with
    | nil=>exact ⟨[],[],rfl,rfl,rfl,(fun j p us h _=>by simp at h),fun j ys us h _=>by simp at h⟩
    | cons a b=>cases h
  | x :: xs,vs,yss,r,h=>by
    obtain ⟨v,vr,e,rx,rr⟩:=r
    subst e
    cases yss with
    | nil=>cases h
    | cons ys yss =>
      rw [List.map_cons,List.map_cons] at h
      injection h with h1 h2
      obtain ⟨ls,xss,e,l1,l2,ha,hb⟩:=NM rr h2
      have key:∃ (p:Bool×Addr) (us:List V),v= .ref p.2∧uH E Z p.1 p.2 us∧RPs E Z ys us:=by
        unfold VT at h1
        split at h1
        · have e:=Option.some.inj h1
          subst e
          obtain ⟨a,us,e,q,t⟩:=rx
          exact ⟨(true,a),us,e,by unfold uH; rw [if_pos rfl]; exact q,t⟩
        · have e:=Option.some.inj h1
          subst e
          obtain ⟨a,us,e,q,t⟩:=rx
          exact ⟨(false,a),us,e,by unfold uH; rw [if_neg Bool.false_ne_true]; exact q,t⟩
        · cases h1
      obtain ⟨p,us,ev,k1,k2⟩:=key
      refine ⟨p :: ls,us :: xss,by rw [ev,e]; rfl,by simp [l1],by simp [l2],fun j q ws hq hw=>?_,fun j zs ws hq hw=>?_⟩
      · cases j with
        | zero=>cases hq; cases hw; exact k1
        | succ j=>exact ha j q ws hq hw
      · cases j with
        | zero=>cases hq; cases hw; exact k2
        | succ j=>exact hb j zs ws hq hw
theorem XG {Z:Hp} {i:Nat}:∀ {yss:List (List PV)} {xss:List (List V)},xss.length=yss.length→(∀ (j:Nat) (ys:List PV) (us:List V),yss[j]? =some ys→xss[j]? =some us→RPs E Z ys us)→(∀ ys∈yss,i < ys.length)→
    ∃ vs,vs.length=xss.length∧(∀ (j:Nat) (us:List V),xss[j]? =some us→us[i]? =vs[j]?)∧RPs E Z (yss.map fun ys=>ys.getD i .non) vs
  | [],xss,l,_,_=>by
    have e:xss=[]:=List.length_eq_zero_iff.mp l
    subst e
    exact ⟨[],rfl,(fun j us h=>by simp at h),rfl⟩
  | ys :: yss,[],l,_,_=>by cases l
  | ys :: yss,us :: xss,l,h,hi=>by
    obtain ⟨vs,a,b,c⟩:=XG (yss:=yss) (xss:=xss) (by simpa using l) (fun j zs ws=>h (j + 1) zs ws) fun zs hz=>hi zs (List.mem_cons_of_mem _ hz)
    have hy:=hi ys (List.mem_cons_self ..)
    have ey:ys[i]? =some (ys.getD i .non):=by rw [List.getD_eq_getElem?_getD,List.getElem?_eq_getElem hy]; rfl
    obtain ⟨v,ev,rv⟩:=(h 0 ys us rfl rfl).get ey
    refine ⟨v :: vs,by simp [a],fun j ws hw=>?_,v,vs,rfl,rv,c⟩
    cases j with
    | zero=>cases hw; exact ev
    | succ j=>exact b j ws hw
theorem aGI {n:Nat} {Z:Hp} {rs:List LZ.Zr} {ls:List (Bool×Addr)} {xss:List (List V)} {yss:List (List PV)} (er:rs.map (fun r=>(r.b,r.l))=ls) (l1:ls.length=yss.length) (l2:xss.length=yss.length) (hne:yss≠ [])
    (ha:∀ (j:Nat) (p:Bool×Addr) (us:List V),ls[j]? =some p→xss[j]? =some us→uH E Z p.1 p.2 us) (hb:∀ (j:Nat) (ys:List PV) (us:List V),yss[j]? =some ys→xss[j]? =some us→RPs E Z ys us) (hn:∀ ys∈yss,ys.length=n) :
    oY E (Itz E.K rs) Z (fun _=>True) (NB n yss):=by
  intro F i Z1 G1 H1 s1 S1 _
  have lr:rs.length=yss.length:=by rw [←l1,←er,List.length_map]
  have RA:BN E.K H1 rs xss:=by
    refine ⟨by omega,fun j r us hr hu=>?_⟩
    have hp:ls[j]? =some (r.b,r.l):=by rw [←er,List.getElem?_map,hr]; rfl
    exact (((ha j _ us hp hu).mono s1).mono S1.z).at_
  have hl:(NB n yss).length=n:=by unfold NB; rw [List.length_map,List.length_range]
  refine ⟨fun x ex=>?_,fun e=>?_⟩
  · have hi:i < n:=by have:=(List.getElem?_eq_some_iff.mp ex).1; rw [hl] at this; exact this
    have ex':x= .tup (yss.map fun ys=>ys.getD i .non):=by
      unfold NB at ex
      rw [List.getElem?_map,List.getElem?_range hi] at ex
      exact (Option.some.inj ex).symm
    obtain ⟨vs,a,b,c⟩:=XG (i:=i) l2 (fun j ys us h1 h2=>(hb j ys us h1 h2).mono s1) fun ys hy=>by rw [hn ys hy]; exact hi
    refine ⟨⟨xss,vs,RA,by omega,b⟩,fun w H2 ⟨p,ws,e,nn,e2,wl,y'⟩=>?_⟩
    subst e e2
    have ew:ws=vs:=by
      refine List.ext_getElem? fun j=>?_
      by_cases hj:j < xss.length
      · have e:=List.getElem?_eq_getElem hj
        rw [←y' xss RA j _ e,←b j _ e]
      · rw [List.getElem?_eq_none (by omega),List.getElem?_eq_none (by omega)]
    subst ew
    refine ⟨upd Z1 p (.tup ws),cM (S1.zn nn) _,S1.fz nn, ?_⟩
    rw [ex']
    exact kW (S1.zn nn) c
  · rw [hl] at e
    cases xss with
    | nil=>exact absurd (List.length_eq_zero_iff.mp l2.symm) hne
    | cons us t =>
      refine ⟨us,t,RA, ?_⟩
      cases yss with
      | nil=>exact absurd rfl hne
      | cons ys yt=>rw [e,←hn ys (List.mem_cons_self ..),(hb 0 ys us rfl rfl).length]; exact Nat.le_refl _
theorem aHJ {es0:List Expr} {x1:Nat} {tp p:Pos} {e:Expr} {es:List Expr} {es':CE} (P:Pl X E T k) (hg:Gl X "zip") (hm:X.mg "zip"=none) (ha:JA X E (e :: es) (wpL T es')) (hs:starEach (e :: es) X.env=(false,eval e X.env) :: starEach es X.env) (hpl:(backTo pos (starEach es X.env)).any (·.1)=false) :
    JI X E (.Tuple es0 x1 tp) (.Call (.Name "zip" p) (e :: es) [] pos) (wpI T (.izp es')):=fun F =>
  (aHc hg hm (ha F) hs hpl).imp fun σ H R ⟨σ',Z,G,R',rs,S,h,kr⟩=>by
    rw [wpI] at h
    refine ⟨σ',Z,G,_,rs,S,h,fun xs vs Z1 G1 H1 l0 s1 S1 r1 ⟨hl,n,yss,er,hn,q1⟩=>?_⟩
    obtain ⟨ls,xss,e,l1,l2,hA,hB⟩:=NM r1 er
    have ly:yss.length=xs.length:=by have:=congrArg List.length er; simpa using this.symm
    refine ⟨ls,e,by omega,⟨xss,by omega,fun j p us h1 h2=>P.hK▸((hA j p us h1 h2).mono S1.z).at_⟩,fun zs ez=>P.hK▸kr _ _ _ _ _ _ s1 S1 (aGI ez l1 l2 (by intro z; rw [z] at ly; simp at ly; omega) hA hB hn) q1⟩
theorem aG3 {tg iter:Expr} {body:List Stmt} {g' i':CE} {b':CS} (P:Pl X E T k) (hp:PassesOwn (model X.prog X.w) X.A X.env X.xe) (hi:JI X E tg iter (wpI T i')) (hg:JG X E tg (wpG T g')) (hb:JSs X E body (wpS T b'))
    (hs:∀ x,foldedSetIterable iter X.env x=pure x):JS X E (.For tg iter body [] pos) (wpS T (.fr g' i' b')):=fun F =>
  (aHK hp P.calm (hi F) (hg F) (hb F) hs).imp fun D σ H ⟨σ',Z,G,D',rs,S,h,kd⟩=>by
    rw [wpS] at h
    refine ⟨σ',Z,G,_,rs,S,h,fun J chk xs Z1 G1 H1 s1 S1 ok q=>?_⟩
    refine ⟨fun i m σ H=>m=xs.length - i∧i≤xs.length∧∃ σ' Z2 G2,aR Z1 Z2∧Sim E F H Z2 G2∧RSt E Z2 σ' σ∧oV chk (wpG T g') (wpS T b') D' (xs.drop i) σ' G2,⟨xs.length,by simp,Nat.zero_le _,σ',Z1,G1,aR.refl _,S1,rs.mono s1,q⟩, ?_⟩
    rintro i m σ2 H2 ⟨rfl,hi,σ3,Z2,G2,s2,S2,rs2,q2⟩
    have sz:=s1.trans s2
    by_cases hlt:i < xs.length
    · have hd:xs.drop i=xs[i] :: xs.drop (i + 1):=List.drop_eq_getElem_cons hlt
      rw [hd] at q2
      unfold oV at q2
      obtain ⟨c2,q2⟩:=q2
      obtain ⟨go,yl⟩:=(ok F i Z2 G2 H2 s2 S2 c2).1 xs[i] (by simp [hlt])
      refine .inr ⟨go,fun σ4 H4=>∃ σ5 Z4 G4,aR Z2 Z4∧Sim E F H4 Z4 G4∧RSt E Z4 σ5 σ4∧oV chk (wpG T g') (wpS T b') D' (xs.drop (i + 1)) σ5 G4,fun σ4 H4 ⟨σ5,Z4,G4,s4,S4,rs4,q4⟩=>⟨xs.length - (i + 1),by omega,rfl,hlt,σ5,Z4,G4,s2.trans s4,S4,rs4,q4⟩,fun v H3 y=>?_⟩
      obtain ⟨Z3,s3,S3,r3⟩:=yl v H3 y
      refine ⟨xs[i],σ3,Z3,G2,_,r3,rs2.mono s3,S3,q2,fun σ6 σ7 Z5 G5 H5 s5 S5 rs5 q5=>⟨σ6,Z5,G5,_,rs5,S5,q5, ?_⟩⟩
      have s35:=s3.trans s5
      exact ⟨fun σ8 σ9 Z6 G6 H6 s6 S6 rs6 q6=>⟨σ8,Z6,G6,s35.trans s6,S6,rs6,q6⟩,kd.rt.mono (sz.trans s35),kd.nx.mono (sz.trans s35),fun σ8 σ9 Z6 G6 H6 s6 S6 rs6 q6=>⟨σ8,Z6,G6,s35.trans s6,S6,rs6,q6⟩⟩
    · have e:i=xs.length:=by omega
      rw [e,List.drop_length] at q2
      unfold oV at q2
      obtain ⟨c2,q2⟩:=q2
      exact .inl ⟨(ok F i Z2 G2 H2 s2 S2 c2).2 e,kd.nx _ _ _ _ _ sz S2 rs2 q2⟩
theorem aKX {body:List Stmt} {c':CE} {b':CS} (hp:PassesOwn (model X.prog X.w) X.A X.env X.xe) (hc:JT X E c (wpT T c')) (hb:JSs X E body (wpS T b')):JS X E (.While c body [] pos) (wpS T (.wh c' b')):=fun F =>
  (VJ hp (hc F) (hb F)).imp fun D σ H ⟨σ',Z,G,D',rs,S,h,kd⟩=>by
    rw [wpS] at h
    obtain ⟨W,⟨m0,w0⟩,turn⟩:=h
    refine ⟨fun m σ H=>∃ σ' Z2 G2,aR Z Z2∧Sim E F H Z2 G2∧RSt E Z2 σ' σ∧W m σ' G2,⟨m0,σ',Z,G,aR.refl _,S,rs,w0⟩, ?_⟩
    rintro m σ2 H2 ⟨σ3,Z2,G2,s2,S2,rs2,w2⟩
    refine ⟨σ3,Z2,G2,_,rs2,S2,turn m σ3 G2 w2,fun d Z3 G3 H3 s3 S3 q3=>?_⟩
    have s23:=s2.trans s3
    dsimp only
    cases d with
    | true =>
      rw [if_pos rfl] at q3 ⊢
      refine ⟨fun σ4 H4=>∃ σ5 Z4 G4 m',m' < m∧aR Z Z4∧Sim E F H4 Z4 G4∧RSt E Z4 σ5 σ4∧W m' σ5 G4,fun σ4 H4 ⟨σ5,Z4,G4,m',lt,s4,S4,rs4,w4⟩=>⟨m',lt,σ5,Z4,G4,s4,S4,rs4,w4⟩,σ3,Z3,G3,_,rs2.mono s3,S3,q3, ?_⟩
      exact ⟨fun σ8 σ9 Z6 G6 H6 s6 S6 rs6 ⟨m',lt,w6⟩=>⟨σ8,Z6,G6,m',lt,s23.trans s6,S6,rs6,w6⟩,kd.rt.mono s23,kd.nx.mono s23,fun σ8 σ9 Z6 G6 H6 s6 S6 rs6 ⟨m',lt,w6⟩=>⟨σ8,Z6,G6,m',lt,s23.trans s6,S6,rs6,w6⟩⟩
    | false =>
      rw [if_neg Bool.false_ne_true] at q3 ⊢
      exact kd.nx _ _ _ _ _ s23 S3 (rs2.mono s3) q3
theorem aHq {st:Stmt} {dM:List Stmt} {a' b':CS} (h1:JS X E st (wpS T a')) (h2:JSs X E dM (wpS T b')):JSs X E (st :: dM) (wpS T (.seq a' b')):=fun F =>
  PSs.imp (aAI (h1 F) (h2 F)) fun D σ H ⟨σ',Z,G,D',rs,S,h,kd⟩=>by
    rw [wpS] at h
    exact ⟨σ',Z,G,_,rs,S,h,⟨fun σ1 σ2 Z1 G1 H1 s1 S1 rs1 q1=>⟨σ1,Z1,G1,D',rs1,S1,q1,kd.mono s1⟩,kd.rt,kd.bk,kd.ct⟩⟩
theorem aGz {st:Stmt} {a':CS} (h1:JS X E st (wpS T a')):JSs X E [st] (wpS T a'):=fun F=>aB0 (h1 F)
theorem aG2:JSs X E [] (wpS T .nil):=fun F=>PSs.imp aDg fun D σ H ⟨σ',Z,G,D',rs,S,h,kd⟩=>by
  rw [wpS] at h
  exact kd.nx _ _ _ _ _ (aR.refl Z) S rs h
theorem aBV:JS X E (.Pass pos) (wpS T .nil):=fun F=>aBG.imp fun D σ H ⟨σ',Z,G,D',rs,S,h,kd⟩=>by
  rw [wpS] at h
  exact kd.nx _ _ _ _ _ (aR.refl Z) S rs h
theorem aHr {x:Str} {j:Nat} {pos':Pos}:JS X E (.Expr (.Constant (.str x) j pos) pos') (wpS T .nil):=fun F=>aHw.imp fun D σ H ⟨σ',Z,G,D',rs,S,h,kd⟩=>by
  rw [wpS] at h
  exact kd.nx _ _ _ _ _ (aR.refl Z) S rs h
theorem aIM {e':CE} (he:JE X E e (wpE T e')) (hs:swapsWith e none pos.line X.env=pure false):JS X E (.Expr e pos) (wpS T (.ex e')):=fun F =>
  (aCK (he F) hs).imp fun D σ H ⟨σ',Z,G,D',rs,S,h,kd⟩=>by
    rw [wpS] at h
    exact ⟨σ',Z,G,_,rs,S,h,fun x v Z1 G1 H1 s1 S1 r1 q1=>kd.nx _ _ _ _ _ s1 S1 (rs.mono s1) q1⟩
theorem aGQ {e':CE} (he:JE X E e (wpE T e')):JS X E (.Return (some e) pos) (wpS T (.ret e')):=fun F =>
  (aHZ (he F)).imp fun D σ H ⟨σ',Z,G,D',rs,S,h,kd⟩=>by
    rw [wpS] at h
    exact ⟨σ',Z,G,_,rs,S,h,kd.rt⟩
theorem aCG:JS X E (.Return none pos) (wpS T .retN):=fun F=>aCX.imp fun D σ H ⟨σ',Z,G,D',rs,S,h,kd⟩=>by
  rw [wpS] at h
  exact kd.rt _ _ _ _ _ (aR.refl Z) S xK h
theorem aHH {st:Stmt}:JS X E st (wpS T .nev):=fun F=>aBm.imp fun D σ H ⟨σ',Z,G,D',rs,S,h,kd⟩=>by
  rw [wpS] at h
  exact h
theorem aCh {sts:List Stmt}:JSs X E sts (wpS T .nev):=fun F=>PSs.imp SX fun D σ H ⟨σ',Z,G,D',rs,S,h,kd⟩=>by
  rw [wpS] at h
  exact h
theorem aKr {x y:List Stmt} {c':CE} {a' b':CS} (hc:JT X E c (wpT T c')) (ha:JSs X E x (wpS T a')) (hb:JSs X E y (wpS T b')):JS X E (.If c x y pos) (wpS T (.iff c' a' b')):=fun F =>
  (aJP (hc F) (ha F) (hb F)).imp fun D σ H ⟨σ',Z,G,D',rs,S,h,kd⟩=>by
    rw [wpS] at h
    refine ⟨σ',Z,G,_,rs,S,h,fun d Z1 G1 H1 s1 S1 q=>?_⟩
    cases d with
    | true=>rw [if_pos rfl] at q ⊢; exact ⟨σ',Z1,G1,D',rs.mono s1,S1,q,kd.mono s1⟩
    | false=>rw [if_neg Bool.false_ne_true] at q ⊢; exact ⟨σ',Z1,G1,D',rs.mono s1,S1,q,kd.mono s1⟩
theorem aCv {F:Hp} {g' e':CE} {D:FY} {σ:L2.St} {H:Hp} (h:aG1 E F (wpS T (.asg g' e')) D σ H):aHm (low E F (wpE T e')) (aGu E F (wpG T g')) D σ H:=by
  obtain ⟨σ',Z,G,D',rs,S,h,kd⟩:=h
  rw [wpS] at h
  exact ⟨σ',Z,G,_,rs,S,h,fun x v Z1 G1 H1 s1 S1 r1 q1=>⟨x,σ',Z1,G1,_,r1,rs.mono s1,S1,q1,kd.nx.mono s1⟩⟩
theorem xR {tg:Expr} {g' e':CE} (he:JE X E e (wpE T e')) (hg:JG X E tg (wpG T g')) (hs:swapsWithSole [tg] e pos.line X.env=pure false) (hw:swappedStores [tg] e X.env=pure none) (h1:(assignEach [tg] X.env).map (·.2)=[assign tg X.env]) :
    JS X E (.Assign [tg] e pos) (wpS T (.asg g' e')):=fun F=>(aA8 (he F) (hg F) hs hw h1).imp fun D σ H h=>aCv h
theorem aGR {i j:Nat} {x y:Str} {a' b':CE} {px py pt pt2:Pos} {kt k2:Nat} (P:Pl X E T k) (hN:X.N.Nodup) (hi:X.N[i]? =some x) (hj:X.N[j]? =some y) (hij:i≠j) (hx:X.env.scope.names.lookup x=some .local) (hy:X.env.scope.names.lookup y=some .local)
    (ha:JE X E a (wpE T a')) (hb:JE X E b (wpE T b')) (s1:starEach [a,b] X.env=(false,eval a X.env) :: starEach [b] X.env) (s2:starEach [b] X.env=(false,eval b X.env) :: starEach [] X.env)
    (hw:swappedStores [.Tuple [.Name x px,.Name y py] kt pt] (.Tuple [a,b] k2 pt2) X.env=pure (some [x,y])) (hs:swapsWithSole [.Tuple [.Name x px,.Name y py] kt pt] (.Tuple [a,b] k2 pt2) pos.line X.env=pure false) :
    JS X E (.Assign [.Tuple [.Name x px,.Name y py] kt pt] (.Tuple [a,b] k2 pt2) pos) (wpS T (.par i j a' b')):=fun F =>
  (aIB P.calm hN hi hj hij hx hy (fP (ha F) (fP (hb F) sZ s2) s1) hw hs).imp fun D σ H ⟨σ',Z,G,D',rs,S,h,kd⟩=>by
    rw [wpS] at h
    refine ⟨σ',Z,G,_,rs,S,h,fun x v Z1 G1 H1 s1 S1 r1 q1=>⟨σ',Z1,G1,_,rs.mono s1,S1,q1,fun y u Z2 G2 H2 s2 S2 r2 q2=>?_⟩⟩
    exact ⟨v,u,rfl,kd.nx _ _ _ _ _ (s1.trans s2) S2 ((((rs.mono s1).mono s2).set (r1.mono s2) i).set r2 j) q2⟩
theorem aC4 {c:Expr} {i j l:Nat} {x y z:Str} {a' b' c':CE} {px py pz pt pt2:Pos} {kt k2:Nat} (P:Pl X E T k) (hN:X.N.Nodup) (hi:X.N[i]? =some x) (hj:X.N[j]? =some y) (hl:X.N[l]? =some z) (hij:i≠j) (hil:i≠l) (hjl:j≠l)
    (hx:X.env.scope.names.lookup x=some .local) (hy:X.env.scope.names.lookup y=some .local) (hz:X.env.scope.names.lookup z=some .local)
    (ha:JE X E a (wpE T a')) (hb:JE X E b (wpE T b')) (hc:JE X E c (wpE T c')) (s1:starEach [a,b,c] X.env=(false,eval a X.env) :: starEach [b,c] X.env) (s2:starEach [b,c] X.env=(false,eval b X.env) :: starEach [c] X.env) (s3:starEach [c] X.env=(false,eval c X.env) :: starEach [] X.env)
    (hw:swappedStores [.Tuple [.Name x px,.Name y py,.Name z pz] kt pt] (.Tuple [a,b,c] k2 pt2) X.env=pure (some [x,y,z])) (hs:swapsWithSole [.Tuple [.Name x px,.Name y py,.Name z pz] kt pt] (.Tuple [a,b,c] k2 pt2) pos.line X.env=pure false) :
    JS X E (.Assign [.Tuple [.Name x px,.Name y py,.Name z pz] kt pt] (.Tuple [a,b,c] k2 pt2) pos) (wpS T (.par3 i j l a' b' c')):=fun F =>
  (aCo P.calm hN hi hj hl hij hil hjl hx hy hz (fP (ha F) (fP (hb F) (fP (hc F) sZ s3) s2) s1) hw hs).imp fun D σ H ⟨σ',Z,G,D',rs,S,h,kd⟩=>by
    rw [wpS] at h
    refine ⟨σ',Z,G,_,rs,S,h,fun x v Z1 G1 H1 s1 S1 r1 q1=>⟨σ',Z1,G1,_,rs.mono s1,S1,q1,fun y u Z2 G2 H2 s2 S2 r2 q2=>⟨σ',Z2,G2,_,(rs.mono s1).mono s2,S2,q2,fun z w Z3 G3 H3 s3 S3 r3 q3=>?_⟩⟩⟩
    exact ⟨v,u,w,rfl,kd.nx _ _ _ _ _ ((s1.trans s2).trans s3) S3 ((((((rs.mono s1).mono s2).mono s3).set ((r1.mono s2).mono s3) i).set (r2.mono s3) j).set r3 l) q3⟩
theorem aGL {o i:Expr} {pos':Pos} {o' i' e':CE} (he:JE X E e (wpE T e')) (ho:JE X E o (wpE T o')) (hi:JE X E i (wpE T i'))
    (ha:∀ v,assign (.Subscript o i pos') X.env v=(do
      let ov ←holding [v] (eval o X.env)
      let iv ←holding [v,ov] (eval i X.env)
      standAt pos'
      holding [v,ov,iv] (setItem ov iv v)
      release [v,ov,iv] []))
    (hs:swapsWithSole [.Subscript o i pos'] e pos.line X.env=pure false) (hw:swappedStores [.Subscript o i pos'] e X.env=pure none):JS X E (.Assign [.Subscript o i pos'] e pos) (wpS T (.sub o' i' e')):=fun F =>
  (aA8 (he F) (aIw (ho F) (hi F) (aDm (E:=E) (F:=F)) ha) hs hw rfl).imp fun D σ H ⟨σ',Z,G,D',rs,S,h,kd⟩=>by
    rw [wpS] at h
    refine ⟨σ',Z,G,_,rs,S,h,fun v v' Z1 G1 H1 s1 S1 r1 q1=>⟨σ',Z1,G1,_,rs.mono s1,S1,q1,fun x x' Z2 G2 H2 s2 S2 r2 q2=>⟨σ',Z2,G2,_,(rs.mono s1).mono s2,S2,q2,fun y y' Z3 G3 H3 s3 S3 r3 q3=>?_⟩⟩⟩
    have s13:=(s1.trans s2).trans s3
    exact ⟨x,y,v,Z3,G3,_,r2.mono s3,r3,(r1.mono s2).mono s3,S3,q3,fun G4 H4 S4 q4=>kd.nx _ _ _ _ _ s13 S4 (rs.mono s13) q4⟩
theorem HG (f:Str) (v:V):∀ (ns:List Str) (vs:List V),ns.length=vs.length→lC f v (ns.zip vs)=(RV f ns).zip (zR f v ns vs)∧(RV f ns).length=(zR f v ns vs).length
  | [],[],_=>⟨rfl,rfl⟩
  | [],_ :: _,h=>by cases h
  | _ :: _,[],h=>by cases h
  | n :: ns,u :: us,h=>by
    obtain ⟨a,b⟩:=HG f v ns us (by simpa using h)
    rw [List.zip_cons_cons]
    unfold lC RV zR
    split
    · exact ⟨by rw [List.zip_cons_cons],by simpa using h⟩
    · exact ⟨by rw [List.zip_cons_cons,a],by simpa using b⟩
theorem NP {Z:Hp} {f:Str} {y:PV} {u:V} (r:RP E Z y u):∀ {ns:List Str} {xs:List PV} {vs:List V},RPs E Z xs vs→RPs E Z (zR f y ns xs) (zR f u ns vs)
  | [],_,_,_=>⟨u,[],rfl,r,rfl⟩
  | _ :: _,[],_,h=>by cases h; exact rfl
  | n :: ns,x :: xs,_,⟨v,t,e,r1,r2⟩=>by
    subst e
    unfold zR
    split
    · exact ⟨u,t,rfl,r,r2⟩
    · exact ⟨v,_,rfl,r1,NP r r2⟩
theorem aHh {o:Expr} {f:Str} {pos':Pos} {o' e':CE} (P:Pl X E T k) (ho:JE X E o (wpE T o')) (he:JE X E e (wpE T e')) (hs:swapsWith e (some (.Attribute o f pos')) pos.line X.env=pure false):JS X E (.Assign [.Attribute o f pos'] e pos) (wpS T (.fld o' f e')):=fun F =>
  (aGZ (ho F) (he F) hs).imp fun D σ H ⟨σ',Z,G,D',rs,S,h,kd⟩=>by
    rw [wpS] at h
    refine ⟨σ',Z,G,_,rs,S,h,fun v v' Z1 G1 H1 s1 S1 r1 q1=>⟨σ',Z1,G1,_,rs.mono s1,S1,q1,fun x x' Z2 G2 H2 s2 S2 r2 ⟨p,c,ns,xs,e,hG,hf,hl,q2⟩=>?_⟩⟩
    subst e
    have e:x'= .ref p:=r2
    subst e
    obtain ⟨_,o',hp,dx,vs,e',l,t⟩:=S2.g _ _ hG
    subst e'
    obtain ⟨h1,h2⟩:=P.fld c f hf
    obtain ⟨e1,e2⟩:=HG f v' ns vs l
    refine ⟨p,_,dx,_,rfl,hp,h1,h2,by rw [List.length_zip,←l,Nat.min_self]; exact hl,kd.nx _ _ _ _ _ (s1.trans s2) (S2.set (go:=.ins c (RV f ns) (zR f v ns xs)) hG ⟨dx,zR f v' ns vs,by rw [e1],e2,NP (r1.mono s2) t⟩) ((rs.mono s1).mono s2) q2⟩
end
section
variable {X:Cx} {E:Ev} {T:Tb} {k:Nat} {pos:Pos} {a b c e:Expr}
theorem aHG {Z:Hp} {js:List (Option Nat)} {σ':PSt} {σ:L2.St} (rs:RSt E Z σ' σ):RSt E Z (wV js σ') (UQ js σ):=by
  induction js with
  | nil=>exact .nil
  | cons o r ih =>
    refine .cons ?_ ih
    cases o with
    | none=>exact trivial
    | some j =>
      show RSl E Z ((σ'[j]?).getD none) ((σ[j]?).getD none)
      cases e:σ'[j]? with
      | none=>exact trivial
      | some u =>
        cases u with
        | none=>exact trivial
        | some x =>
          obtain ⟨v,e',r⟩:=rs.get e
          rw [e']
          exact ⟨v,rfl,r⟩
noncomputable def aHI (E:Ev) (t:PTE):TE:=fun σ H Q=>∃ F,low E F t σ H Q
noncomputable def aBU (E:Ev) (t:PTT):TT:=fun σ H Q=>∃ F,BY E F t σ H Q
noncomputable def aH2 (E:Ev) (t:PTG):TG:=fun v σ H Q=>∃ F,aGu E F t v σ H Q
theorem JE.any {t:PTE} (h:JE X E e t):PE X e (aHI E t):=fun pins s σ H Q I ⟨F,q⟩=>h F pins s σ H Q I q
theorem JT.any {t:PTT} (h:JT X E e t):PT X e (aBU E t):=fun pins s σ H Q I ⟨F,q⟩=>h F pins s σ H Q I q
theorem JG.any {t:PTG} (h:JG X E e t):PG X e (aH2 E t):=fun pins s σ H v u Q I r ⟨F,q⟩=>h F pins s σ H v u Q I r q
theorem YG {F:Hp} {J:It} {Z1 H1:Hp} {G1:Gh} {chk:Gh→Prop} {xs:List PV} {g':PTG} {ts':PTT} {te':PTE} {σ':PSt} {σ:L2.St} {m:Bool} {Q':PK1} {Q:VK} {D:Addr}
    (S1:Sim E F H1 Z1 G1) (ok:oY E J Z1 chk xs) (rs:RSt E Z1 σ' σ) (hz:xs.length≤sizeLine) (n:H1 D=none) (q:gU chk g' ts' te' xs [] σ' G1 fun ys G2=>yO m G2 ys Q') (kq:Kq E F Z1 Q' Q) :
    XI J D (aH2 E g') (aBU E ts') (aHI E te') Q σ (upd H1 D (.lst [])):=by
  have fD:F D=none:=S1.fn n
  refine ⟨fun i m' σ H=>m'=xs.length - i∧i≤xs.length∧∃ σ' Z2 G2 acc vs,aR Z1 Z2∧Sim E (upd F D (.lst vs)) H Z2 G2∧RPs E Z2 acc vs∧RSt E Z2 σ' σ∧acc.length≤i∧gU chk g' ts' te' (xs.drop i) acc σ' G2 fun ys G2=>yO m G2 ys Q',
    ⟨xs.length,by simp,Nat.zero_le _,σ',Z1,G1,[],[],aR.refl _,S1.mine n,rfl,rs,Nat.le_refl _,q⟩, ?_⟩
  rintro i m' σ2 H2 ⟨rfl,hi,σ3,Z2,G2,acc,vs,s2,S2,ra,rs2,la,q2⟩
  by_cases hlt:i < xs.length
  · have hd:xs.drop i=xs[i] :: xs.drop (i + 1):=List.drop_eq_getElem_cons hlt
    rw [hd] at q2
    unfold gU at q2
    obtain ⟨c2,q2⟩:=q2
    obtain ⟨go,yl⟩:=(ok _ i Z2 G2 H2 s2 S2 c2).1 xs[i] (by simp [hlt])
    refine .inr ⟨go,fun σ4 H4=>∃ σ5 Z4 G4 acc4 vs4,aR Z1 Z4∧Sim E (upd F D (.lst vs4)) H4 Z4 G4∧RPs E Z4 acc4 vs4∧RSt E Z4 σ5 σ4∧acc4.length≤i + 1∧gU chk g' ts' te' (xs.drop (i + 1)) acc4 σ5 G4 fun ys G2=>yO m G2 ys Q',
      fun σ4 H4 ⟨σ5,Z4,G4,acc4,vs4,s4,S4,ra4,rs4,l4,q4⟩=>⟨xs.length - (i + 1),by omega,rfl,hlt,σ5,Z4,G4,acc4,vs4,s4,S4,ra4,rs4,l4,q4⟩,fun v H3 y=>?_⟩
    obtain ⟨Z3,s3,S3,r3⟩:=yl v H3 y
    refine ⟨_,xs[i],σ3,Z3,G2,_,r3,rs2.mono s3,S3,q2,fun σ6 σ7 Z5 G5 H5 s5 S5 rs5 q5=>⟨_,σ6,Z5,G5,_,rs5,S5,q5,fun ok' Z6 G6 H6 s6 S6 q6=>?_⟩⟩
    have s26:=(s3.trans s5).trans s6
    dsimp only
    cases ok' with
    | true =>
      rw [if_pos rfl] at q6 ⊢
      refine ⟨_,σ6,Z6,G6,_,rs5.mono s6,S6,q6,fun y' u Z7 G7 H7 s7 S7 r7 q7=>?_⟩
      refine ⟨vs,(S7.f D _ aW).1, ?_, ?_⟩
      · have:=ra.length; omega
      · have s27:=s26.trans s7
        exact ⟨σ6,Z7,G7,acc ++ [y'],vs ++ [u],s2.trans s27,S7.turn,(ra.mono s27).append ⟨u,[],rfl,r7,rfl⟩,(rs5.mono s6).mono s7,by rw [List.length_append]; exact Nat.succ_le_succ la,q7⟩
    | false =>
      rw [if_neg Bool.false_ne_true] at q6 ⊢
      exact ⟨σ6,Z6,G6,acc,vs,s2.trans s26,S6,ra.mono s26,rs5.mono s6,Nat.le_succ_of_le la,q6⟩
  · have e:i=xs.length:=by omega
    rw [e,List.drop_length] at q2
    unfold gU at q2
    obtain ⟨c2,q2⟩:=q2
    refine .inl ⟨(ok _ i Z2 G2 H2 s2 S2 c2).2 e, ?_⟩
    unfold yO at q2
    cases m with
    | true =>
      rw [if_pos rfl] at q2
      exact kq (.ref D) _ Z2 _ _ s2 (S2.mineG fD (go:=.lst acc) ⟨vs,rfl,ra⟩) rfl (q2 D (S2.f D _ aW).2.2)
    | false =>
      rw [if_neg Bool.false_ne_true] at q2
      have zn:=(S2.f D _ aW).2.1
      exact kq (.lst acc) _ (upd Z2 D (.lst vs)) _ _ (s2.trans (cM zn _)) (S2.mineZ fD) (mJ zn ra) q2
theorem HB {F:Hp} {m:Bool} {tg' it' ts' el':CE} {js:List (Option Nat)} {σ:L2.St} {H:Hp} {Q:VK} (h:low E F (wpE T (.cmpr m tg' it' ts' el' js)) σ H Q):aA4 (aJR E F (wpI T it')) (aH2 E (wpG T tg')) (aBU E (wpT T ts')) (aHI E (wpE T el')) js σ H Q:=by
  obtain ⟨σ',Z,G,Q',rs,S,h,kq⟩:=h
  rw [wpE] at h
  refine ⟨σ',Z,G,_,rs,S,h,fun J chk xs Z1 G1 H1 s1 S1 ok q D n=>?_⟩
  exact YG S1 ok (aHG (rs.mono s1)) q.1 n q.2 (kq.mono s1)
noncomputable def SV (X:Cx) (E:Ev) (ifs:List Expr) (t:PTT):Prop:=PTs X ifs (aBU E t)
theorem aNC:SV X E [] (wpT T .nil):=fun pins s σ H Q I ⟨F,σ',Z,G,Q',rs,S,h,kt⟩=>by
  rw [wpT] at h
  exact aCl pins s σ H Q I (kt _ _ _ _ (aR.refl Z) S h)
theorem aND {t:PTT} (h:JT X E c t):SV X E [c] t:=aCu h.any
section
variable {N:List Str} {scope:Scope} {cl:List (Str×Addr)} {js:List (Option Nat)} {tg iter elt:Expr} {ifs:List Expr} {m:Bool} {tg' it' ts' el':CE}
theorem aDD (S:kK X N scope cl js) (P:Pl X E T k) (hi:JI X E tg iter (wpI T it')) (hg:∀ C s₀ H₀ ex,JG (cxC X N scope cl C s₀ H₀ ex) E tg (wpG T tg')) (ht:∀ C s₀ H₀ ex,SV (cxC X N scope cl C s₀ H₀ ex) E ifs (wpT T ts'))
    (he:∀ C s₀ H₀ ex,JE (cxC X N scope cl C s₀ H₀ ex) E elt (wpE T el')) (hs:∀ x,foldedSetIterable iter X.env x=pure x):JE X E (.ListComp elt [⟨tg,iter,ifs,0⟩] scope pos) (wpE T (.cmpr m tg' it' ts' el' js)):=fun F =>
  (aDK S P.calm (hi F) (fun C s₀ H₀ ex=>(hg C s₀ H₀ ex).any) ht (fun C s₀ H₀ ex=>(he C s₀ H₀ ex).any) hs).imp fun σ H Q h=>HB h
theorem aDF {i:Nat} {y:Str} {py spos:Pos} (S:kK X N scope cl js) (P:Pl X E T k) (hN:X.N.Nodup) (hi':X.N[i]? =some y) (hy:X.env.scope.names.lookup y=some .local) (hi:JI X E tg iter (wpI T it')) (hg:∀ C s₀ H₀ ex,JG (cxC X N scope cl C s₀ H₀ ex) E tg (wpG T tg'))
    (ht:∀ C s₀ H₀ ex,SV (cxC X N scope cl C s₀ H₀ ex) E ifs (wpT T ts')) (he:∀ C s₀ H₀ ex,JE (cxC X N scope cl C s₀ H₀ ex) E elt (wpE T el'))
    (hsw:swapsWith (.ListComp elt [⟨tg,iter,ifs,0⟩] scope pos) (some (.Name y py)) spos.line X.env=pure true) (hs:∀ x,foldedSetIterable iter X.env x=pure x) :
    JS X E (.Assign [.Name y py] (.ListComp elt [⟨tg,iter,ifs,0⟩] scope pos) spos) (wpS T (.asg (.gn i) (.cmpr m tg' it' ts' el' js))):=fun F =>
  (aDG S P.calm hN hi' hy (hi F) (fun C s₀ H₀ ex=>(hg C s₀ H₀ ex).any) ht (fun C s₀ H₀ ex=>(he C s₀ H₀ ex).any) hsw hs).imp fun D σ H ⟨σ',Z,G,D',rs,S,h,kd⟩=>by
    rw [wpS] at h
    refine HB (m:=m) ⟨σ',Z,G,_,rs,S,h,fun x v Z1 G1 H1 s1 S1 r1 q1=>?_⟩
    unfold wpG at q1
    exact kd.nx _ _ _ _ _ s1 S1 ((rs.mono s1).set r1 i) q1
end
noncomputable def XR (T:Tb) (c:String) (x xi:Str):Prop:= ∀ xs G Q,T.S x xs G Q→∀ p,G p=none→T.S xi (.ref p :: xs) (gup G p (.ins c [] [])) fun r G1=>r= .non∧∃ ns ys,G1 p=some (.ins c ns ys)∧Q (.ob c ns ys) (QW G1 p)
theorem aAe {F:Hp} {c:String} {x xi:Str} {Z1 H1:Hp} {G1:Gh} {xs:List PV} {vs:List V} {Q':PK1} {Q:VK} {p dx:Addr} {us:List V} (hu:us= .ref p :: vs) (M:XR T c x xi) (S1:Sim E F H1 Z1 G1) (r:RPs E Z1 xs vs) (q:T.S x xs G1 Q') (kq:Kq E F Z1 Q' Q) (n:H1 p=none) (nd:H1 dx=none) (ne:dx≠p) :
    fA E (T.S xi) us (upd (upd H1 dx (.own p)) p (.ins (E.cls c) dx [])) (fun v H2=>v= .non∧Q (.ref p) H2) E0:=by
  subst hu
  have S2:Sim E F (upd H1 dx (.own p)) Z1 G1:=S1.other nd
  have n2:upd H1 dx (.own p) p=none:=by rw [aF (Ne.symm ne)]; exact n
  have S3:Sim E F (upd (upd H1 dx (.own p)) p (.ins (E.cls c) dx [])) Z1 (gup G1 p (.ins c [] [])):=S2.new n2 ⟨dx,[],rfl,rfl,rfl⟩
  refine ⟨.ref p :: xs,Z1,_,F,_,⟨.ref p,vs,rfl,rfl,r⟩,S3,M xs G1 Q' q p (S1.gn n), ?_⟩
  rintro z v Z4 G4 H4 s4 S4 r4 ⟨e,ns,ys,hG,q4⟩
  subst e
  obtain ⟨zn,o',hp,dx',vs',e',l,t⟩:=S4.g _ _ hG
  subst e'
  exact ⟨r4,kq (.ob c ns ys) _ (upd Z4 p _) _ _ (s4.trans (cM zn _)) (S4.frz hG hp) ⟨p,dx',vs',rfl,aW,l,t.mono (cM zn _)⟩ q4⟩
theorem aGG {c:String} {x xi:Str} {p:Pos} {e:Expr} {es:List Expr} {es':CE} {f:Addr} {fd:FuncData} {ps:List Str} (M:Mk X.K (E.cls c) f) (K:cJ X.prog X.w X.K X.mg X.base CX0 k f fd ps (fA E (T.S xi))) (hr:bS (k + 1) X.A) (hg:Gl X x) (hm:X.mg x=some (.ref (E.cls c)))
    (hb:aE X.K fd ps []) (ms:XR T c x xi) (hd:(x == ("__debug__":Str))=false) (ha:JA X E (e :: es) (wpL T es')) (he:starEach (e :: es) X.env=(false,eval e X.env) :: starEach es X.env) (hpl:(backTo pos (starEach es X.env)).any (·.1)=false) :
    JE X E (.Call (.Name x p) (e :: es) [] pos) (wpE T (.cal x es')):=fun F =>
  (aB5 M K hr hg hm hb .nil VP (ha F) hd he hpl).imp fun σ H Q ⟨σ',Z,G,Q',rs,S,h,kq⟩=>by
    rw [wpE] at h
    exact ⟨σ',Z,G,_,rs,S,h,fun xs vs Z1 G1 H1 l1 s1 S1 r1 q1 p dx n nd ne=>aAe (by rw [List.append_nil]) ms S1 r1 q1 (kq.mono s1) n nd ne⟩
noncomputable def JK (X:Cx) (E:Ev) (kws:List Keyword) (t:PTA):Prop:= ∀ F,PK X kws (MX E F kws.length t)
theorem PK.imp {kws:List Keyword} {t t':TA} (h:PK X kws t) (g:∀ σ H Q,t' σ H Q→t σ H Q):PK X kws t':=fun pos pins s σ H Q I q=>h pos pins s σ H Q I (g _ _ _ q)
theorem WY:JK X E [] (wpL T .nil):=fun F=>PK.imp YA fun σ H Q ⟨σ',Z,G,Q',rs,S,h,kq⟩=>by rw [wpL] at h; exact kq [] [] Z G H rfl (aR.refl Z) S rfl h
theorem aCe {n:Option Str} {v:Expr} {p:Pos} {kws:List Keyword} {a' b':CE} (ha:JE X E v (wpE T a')) (hr:JK X E kws (wpL T b')):JK X E (⟨n,v,p⟩ :: kws) (wpL T (.cons a' b')):=fun F =>
  PK.imp (aDI (ha F) (hr F)) fun σ H Q ⟨σ',Z,G,Q',rs,S,h,kq⟩=>by
    rw [wpL] at h
    exact ⟨σ',Z,G,_,rs,S,h,fun x v Z1 G1 H1 s1 S1 r1 q1=>⟨σ',Z1,G1,_,rs.mono s1,S1,q1,fun xs vs Z2 G2 H2 l2 s2 S2 r2 q2=>kq (x :: xs) (v :: vs) _ _ _ (by rw [List.length_cons,l2]; rfl) (s1.trans s2) S2 ⟨v,vs,rfl,r1.mono s2,r2⟩ q2⟩⟩
noncomputable def Ar.valV (vs:List V):Ar→V
  | .arg i=>vs.getD i .non
  | .non=>.non
  | .bl b=>.bl b
  | .int i=>.int i
  | .str x=>.str x
theorem IZ {Z:Hp} {xs:List PV} {vs:List V} (r:RPs E Z xs vs):∀ ar:List Ar,RPs E Z (ar.map (Ar.val xs)) (ar.map (Ar.valV vs))
  | []=>rfl
  | a :: l=>by
    refine ⟨_,_,rfl, ?_,IZ r l⟩
    cases a with
    | arg i =>
      show RP E Z (xs.getD i .non) (vs.getD i .non)
      rw [List.getD_eq_getElem?_getD,List.getD_eq_getElem?_getD]
      cases e:xs[i]? with
      | none =>
        have:vs[i]? =none:=List.getElem?_eq_none_iff.mpr (by rw [←r.length]; exact List.getElem?_eq_none_iff.mp e)
        rw [this]; exact xK
      | some x =>
        obtain ⟨v,e',rr⟩:=r.get e
        rw [e']; exact rr
    | non=>exact xK
    | bl b=>exact cP
    | int i=>exact bE
    | str x=>exact CL
structure jI (K:W.Frag) (fd:FuncData) (ps:List Str) (n:Nat) (ks:List Str) (ar:List Ar):Prop where
  len:ar.length=ps.length
  to:∀ (s:Shared) (us ws:List Value),K.In s.heap→us.length=n→ws.length=ks.length→∃ bs,BindsTo s fd ⟨us,ks.zip ws⟩ (ps.zip bs)∧∀ vs zs,aG vs us→aG zs ws→aG (ar.map (Ar.valV (vs ++ zs))) bs
theorem JM {pins:List (Addr×Obj)} {σ:L2.St} {H:Hp} {s:Shared} {Q:VK} {us ws:List Value} {vs zs:List V} {f:Addr} {fd:FuncData} {ps ks:List Str} {n:Nat} {ar:List Ar} {sp:Sp} {A':Around}
    (K:cJ X.prog X.w X.K X.mg X.base CX0 k f fd ps sp) (hr:bS k A') (e0:uR X.prog X.w X.K X.mg X.base A' X.stack s H) (hb:jI X.K fd ps n ks ar) (I:Inv X pins σ H s) (r:aG vs us) (rz:aG zs ws) (l1:vs.length=n) (l2:zs.length=ks.length) (h:sp (ar.map (Ar.valV (vs ++ zs))) H Q E0) :
    wpAny (model X.prog X.w) A' (call (.ref f) us (ks.zip ws)) (EP X pins σ Q) X.xe s:=by
  obtain ⟨bs,hbs,hv⟩:=hb.to s us ws I.kIn (by rw [←r.length]; exact l1) (by rw [←rz.length]; exact l2)
  refine wpAny_call (codeAny_mono (K.run A' X.stack s H ⟨us,ks.zip ws⟩ bs _ Q E0 hr e0 hbs (hv vs zs r rz) h) fun r s' hq=>?_)
  cases r with
  | error e=>exact hq.elim
  | ok fl =>
    cases fl with
    | ret u=>exact I.after hq
    | next=>exact False.elim hq
    | brk=>exact False.elim hq
    | cont=>exact False.elim hq
theorem aH5 {f:Str} {p:Pos} {e:Expr} {es:List Expr} {kws:List Keyword} {es' ks':CE} {ad:Addr} {fd:FuncData} {ps ks:List Str} {n:Nat} {ar:List Ar} (K:cJ X.prog X.w X.K X.mg X.base CX0 k ad fd ps (fA E (T.S f))) (hr:bS k X.A) (hg:Gl X f) (hm:X.mg f=some (.ref ad))
    (hk:W.keepIn X.K (.ref ad)=true) (hb:jI X.K fd ps n ks ar) (hd:(f == ("__debug__":Str))=false) (ha:JA X E (e :: es) (wpL T es')) (hkw:JK X E kws (wpL T ks')) (hn:(e :: es).length=n) (hkn:kws.length=ks.length)
    (hall:(backToKw pos (keywordEach kws X.env)).all (·.1.isSome)=true) (hks:(backToKw pos (keywordEach kws X.env)).filterMap (·.1)=ks) (he:starEach (e :: es) X.env=(false,eval e X.env) :: starEach es X.env)
    (hpl:((backTo pos (starEach (e :: es) X.env)).any (·.1) || (backToKw pos (keywordEach kws X.env)).any (·.1.isNone))=false) :
    JE X E (.Call (.Name f p) (e :: es) kws pos) (wpE T (.cak f es' ks' ar)):=fun F=>by
  have main:PE X (.Call (.Name f p) (e :: es) kws pos) (fun σ H Q=>MX E F (e :: es).length (wpL T es') σ H fun vs H1=>vs.length=n∧MX E F kws.length (wpL T ks') σ H1 fun zs H2=>zs.length=ks.length∧fA E (T.S f) (ar.map (Ar.valV (vs ++ zs))) H2 Q E0):=by
    intro pins s σ H Q I h
    refine wpAny_Call_Name_kw (mH I hg hm ?_ hd)
    refine W.callWith_KW (h₀:=X.base) I.ok.mod.kin hk hall (thn (ha F pos pins s σ H _ I h) fun us s1 ⟨vs,H1,I1,r,l1,q⟩=>?_) hpl he
    refine thn (hkw F pos pins s1 σ H1 _ I1 q) fun ws s2 ⟨zs,H2,I2,rz,l2,q2⟩=>⟨I2.kIn, ?_⟩
    rw [hks]
    exact JM K hr I2.env0 hb I2 r rz l1 l2 q2
  refine main.imp fun σ H Q ⟨σ',Z,G,Q',rs,S,h,kq⟩=>?_
  rw [wpE] at h
  exact ⟨σ',Z,G,_,rs,S,h,fun xs vs Z1 G1 H1 l1 s1 S1 r1 q1=>⟨by rw [←r1.length,l1]; exact hn,σ',Z1,G1,_,rs.mono s1,S1,q1,fun zs us Z2 G2 H2 l2 s2 S2 r2 q2 =>
    ⟨by rw [←r2.length,l2]; exact hkn,_,Z2,G2,F,Q',IZ ((r1.mono s2).append r2) ar,S2,q2,kq.mono (s1.trans s2)⟩⟩⟩
theorem aCx {f:Str} {p:Pos} {kws:List Keyword} {ks':CE} {ad:Addr} {fd:FuncData} {ps ks:List Str} {ar:List Ar} (K:cJ X.prog X.w X.K X.mg X.base CX0 k ad fd ps (fA E (T.S f))) (hr:bS k X.A) (hg:Gl X f) (hm:X.mg f=some (.ref ad))
    (hk:W.keepIn X.K (.ref ad)=true) (hb:jI X.K fd ps 0 ks ar) (hd:(f == ("__debug__":Str))=false) (hkw:JK X E kws (wpL T ks')) (hkn:kws.length=ks.length)
    (hall:(backToKw pos (keywordEach kws X.env)).all (·.1.isSome)=true) (hks:(backToKw pos (keywordEach kws X.env)).filterMap (·.1)=ks)
    (hpl:((backTo pos (starEach [] X.env)).any (·.1) || (backToKw pos (keywordEach kws X.env)).any (·.1.isNone))=false) :
    JE X E (.Call (.Name f p) [] kws pos) (wpE T (.cak f .nil ks' ar)):=fun F=>by
  have main:PE X (.Call (.Name f p) [] kws pos) (fun σ H Q=>MX E F kws.length (wpL T ks') σ H fun zs H2=>zs.length=ks.length∧fA E (T.S f) (ar.map (Ar.valV ([] ++ zs))) H2 Q E0):=by
    intro pins s σ H Q I h
    refine wpAny_Call_Name_kw (mH I hg hm ?_ hd)
    refine W.callWith_KW0 (h₀:=X.base) (first:=[]) I.ok.mod.kin hk hall ?_ hpl
    refine thn (hkw F pos pins s σ H _ I h) fun ws s2 ⟨zs,H2,I2,rz,l2,q2⟩=>⟨I2.kIn, ?_⟩
    rw [hks]
    exact JM (us:=[]) (vs:=[]) K hr I2.env0 hb I2 .nil rz rfl l2 q2
  refine main.imp fun σ H Q ⟨σ',Z,G,Q',rs,S,h,kq⟩=>?_
  rw [wpE,wpL] at h
  exact ⟨σ',Z,G,_,rs,S,h,fun zs us Z2 G2 H2 l2 s2 S2 r2 q2=>⟨by rw [←r2.length,l2]; exact hkn,_,Z2,G2,F,Q',IZ r2 ar,S2,q2,kq.mono s2⟩⟩
theorem aC0 {c:String} {x xi:Str} {p:Pos} {kws:List Keyword} {ks':CE} {f:Addr} {fd:FuncData} {ps ks:List Str} {ar:List Ar} (M:Mk X.K (E.cls c) f) (K:cJ X.prog X.w X.K X.mg X.base CX0 k f fd ps (fA E (T.S xi))) (hr:bS (k + 1) X.A) (hg:Gl X x) (hm:X.mg x=some (.ref (E.cls c)))
    (hb:jI X.K fd ps 1 ks (.arg 0 :: ar.map fun a=>match a with | .arg i=>.arg (i + 1) | a=>a)) (ms:XR T c x xi) (hd:(x == ("__debug__":Str))=false) (hkw:JK X E kws (wpL T ks')) (hkn:kws.length=ks.length)
    (hall:(backToKw pos (keywordEach kws X.env)).all (·.1.isSome)=true) (hks:(backToKw pos (keywordEach kws X.env)).filterMap (·.1)=ks)
    (hpl:((backTo pos (starEach [] X.env)).any (·.1) || (backToKw pos (keywordEach kws X.env)).any (·.1.isNone))=false) :
    JE X E (.Call (.Name x p) [] kws pos) (wpE T (.cak x .nil ks' ar)):=fun F=>by
  have main:PE X (.Call (.Name x p) [] kws pos) (fun σ H Q=>MX E F kws.length (wpL T ks') σ H fun zs H2=>zs.length=ks.length∧∀ y dx,H2 y=none→H2 dx=none→dx≠y→
      fA E (T.S xi) (.ref y :: ar.map (Ar.valV zs)) (upd (upd H2 dx (.own y)) y (.ins (E.cls c) dx [])) (fun v H3=>v= .non∧Q (.ref y) H3) E0):=by
    intro pins s σ H Q I h
    refine wpAny_Call_Name_kw (mH I hg hm ?_ hd)
    refine W.callWith_KW0 (h₀:=X.base) (first:=[]) I.ok.mod.kin M.kp hall ?_ hpl
    refine thn (hkw F pos pins s σ H _ I h) fun ws s2 ⟨zs,H2,I2,rz,l2,q2⟩=>⟨I2.kIn, ?_⟩
    rw [hks]
    have hq:=q2 (s2.heap.objs.size + 1) s2.heap.objs.size (I2.hok.fresh (Nat.le_succ _)) (I2.hok.fresh (Nat.le_refl _)) (Nat.ne_of_lt (Nat.lt_succ_self _))
    have I3:=Inv.made (C:=E.cls c) I2
    have e:V.ref (s2.heap.objs.size + 1) :: ar.map (Ar.valV zs)=(Ar.arg 0 :: ar.map fun a=>match a with | .arg i=>.arg (i + 1) | a=>a).map (Ar.valV ([V.ref (s2.heap.objs.size + 1)] ++ zs)):=by
      rw [List.map_cons,List.map_map]
      refine congr (congrArg List.cons rfl) (List.map_congr_left fun a _=>?_)
      cases a <;> rfl
    rw [e] at hq
    obtain ⟨bs,hbs,hv⟩:=hb.to { s2 with heap:=(s2.heap.push _).push _ } [Value.ref (s2.heap.objs.size + 1)] ws I3.kIn rfl (by rw [←rz.length]; exact l2)
    refine wpAny_call (GW (f:=f) (vs:=[]) (kw:=ks.zip ws) I2.kIn M.makes M.init (beq_iff_eq.mp M.fn) (codeAny_mono (K.run _ X.stack _ _ ⟨[Value.ref (s2.heap.objs.size + 1)],ks.zip ws⟩ bs _ _ E0 (hr.make (E.cls c) [] (ks.zip ws))
      (I3.env0.make (E.cls c) [] (ks.zip ws)) hbs (hv [V.ref (s2.heap.objs.size + 1)] zs (.cons rfl .nil) rz) hq) fun r s' hq'=>?_))
    cases r with
    | error e=>exact hq'.elim
    | ok fl =>
      cases fl with
      | ret u =>
        obtain ⟨v,H',I4,rv,ev,q3⟩:=I3.after hq'
        subst ev
        exact ⟨rv,⟨V.ref (s2.heap.objs.size + 1),H',I4,rfl,q3⟩⟩
      | next=>exact False.elim hq'
      | brk=>exact False.elim hq'
      | cont=>exact False.elim hq'
  refine main.imp fun σ H Q ⟨σ',Z,G,Q',rs,S,h,kq⟩=>?_
  rw [wpE,wpL] at h
  exact ⟨σ',Z,G,_,rs,S,h,fun zs us Z2 G2 H2 l2 s2 S2 r2 q2=>⟨by rw [←r2.length,l2]; exact hkn,fun y dx n nd ne=>aAe rfl ms S2 (IZ r2 ar) q2 (kq.mono s2) n nd ne⟩⟩
structure aIN (X:Cx) (E:Ev) (x:Str) (ks:List (Str×Str)):Prop where
  ex:∃ a es n,X.mg x=some (.ref a)∧X.K.lookup a=some ⟨.type "dict",none,.dict es n, #[]⟩∧W.KeysLit X.w.params es.toList∧(a == sysModules)=false∧∀ z,findBy Value.isStrOf es z=(ks.lookup z).map fun f=>.ref (E.fna f)
theorem aGb {x:Str} {p:Pos} {ks:List (Str×Str)} {i:Expr} {i':CE} (D:aIN X E x ks) (hg:Gl X x) (hd:(x == ("__debug__":Str))=false) (hi:JE X E i (wpE T i')) (hs:vK i):JE X E (.Subscript (.Name x p) i pos) (wpE T (.gix ks i')):=fun F=>by
  obtain ⟨a,es,n,hm,hl,hk,hn,hf⟩:=D.ex
  refine (aFf (aLx hl hk) (FB (v:=.ref a) hg hm rfl hd) (hi F) hs).imp fun σ H Q ⟨σ',Z,G,Q',rs,S,h,kq⟩=>?_
  rw [wpE] at h
  refine ⟨σ',Z,G,_,rs,S,h,fun y u Z1 G1 H1 s1 S1 r1 ⟨z,f,e,el,q⟩=>?_⟩
  subst e
  have e:u= .str z:=r1
  subst e
  exact ⟨z,.ref (E.fna f),.ref (E.fna f),rfl,rfl,by rw [hf,el]; rfl,rfl,kq.go s1 S1 (x:=.fn f) rfl q⟩
theorem UG {neg:Bool} {op:CmpOp} {x:Str} {p:Pos} {ks:List (Str×Str)} {a:Expr} {a':CE} (ho:op=if neg=true then .NotIn else .In) (D:aIN X E x ks) (hg:Gl X x) (hd:(x == ("__debug__":Str))=false) (ha:JE X E a (wpE T a')):JE X E (.Compare a [op] [.Name x p] pos) (wpE T (.gin neg ks a')):=fun F=>by
  obtain ⟨ad,es,n,hm,hl,hk,hn,hf⟩:=D.ex
  have main:OpR X (compareOp op) (aIo ad es neg):=by
    subst ho
    cases neg with
    | true=>exact QQ hl hk hn
    | false=>exact aGM hl hk hn
  refine (DA main (ha F) (FB (v:=.ref ad) hg hm rfl hd) rfl).imp fun σ H Q ⟨σ',Z,G,Q',rs,S,h,kq⟩=>?_
  rw [wpE] at h
  refine ⟨σ',Z,G,_,rs,S,h,fun y u Z1 G1 H1 s1 S1 r1 ⟨z,e,q⟩=>?_⟩
  subst e
  refine ⟨z,r1,rfl, ?_⟩
  have e2:(findBy Value.isStrOf es z).isSome=(ks.lookup z).isSome:=by rw [hf,Option.isSome_map]
  rw [e2]
  exact kq.go s1 S1 cP q
structure aMs (X:Cx) (E:Ev) (T:Tb) (k:Nat) (y:Str×Nat×List Ar):Prop where
  ex:∃ fd ps,cJ X.prog X.w X.K X.mg X.base CX0 k (E.fna y.1) fd ps (fA E (T.S y.1))∧W.keepIn X.K (.ref (E.fna y.1))=true∧jI X.K fd ps y.2.1 [] y.2.2
theorem aGd {i:Nat} {x:Str} {p:Pos} {fs:List (Str×Nat×List Ar)} {e:Expr} {es:List Expr} {es':CE} (hN:X.N[i]? =some x) (hv:Vis X.env.scope x) (hd:(x == ("__debug__":Str))=false) (hcd:(x == ("__classdict__":Str))=false) (hr:bS k X.A)
    (hF:∀ y∈fs,aMs X E T k y∧y.2.1=(e :: es).length) (ha:JA X E (e :: es) (wpL T es')) (he:starEach (e :: es) X.env=(false,eval e X.env) :: starEach es X.env)
    (hpl:((backTo pos (starEach (e :: es) X.env)).any (·.1) || (backToKw pos (keywordEach [] X.env)).any (·.1.isNone))=false) :
    JE X E (.Call (.Name x p) (e :: es) [] pos) (wpE T (.cav fs i es')):=fun F=>by
  intro pins s σ H Q I ⟨σ',Z,G,Q',rs,S,h,kq⟩
  rw [wpE] at h
  obtain ⟨f,n,ar,ev,hm,h⟩:=h
  obtain ⟨v,ev',r⟩:=rs.get ev
  obtain ⟨⟨fd,ps,K,hk,hb⟩,hn⟩:=hF _ hm
  have er:v= .ref (E.fna f):=r
  subst er
  refine wpAny_Call_Name_kw (thn (MI hN hv hd hcd pins s σ H (fun v' H'=>v'= .ref (E.fna f)∧H'=H) I ⟨_,ev',rfl,rfl⟩) fun u s1 ⟨v',H1,I1,r1,e1,e2⟩=>?_)
  subst e1 e2
  cases r1
  refine W.callWith_KW (h₀:=X.base) I1.ok.mod.kin hk rfl (thn (ha F pos pins s1 σ H1 (fun vs H2=>vs.length=n∧fA E (T.S f) (ar.map (Ar.valV (vs ++ []))) H2 Q E0) I1 ⟨σ',Z,G,_,rs,S,h,fun xs vs Z1 G1 H2 l1 s2 S1 r2 q1=>⟨by rw [←r2.length,l1]; exact hn.symm,_,Z1,G1,F,Q', ?_,S1,q1,kq.mono s2⟩⟩) fun us s2 ⟨vs,H2,I2,r,l1,q⟩=>?_) hpl he
  · rw [List.append_nil]; exact IZ r2 ar
  · refine thn (YA (X:=X) pos pins s2 σ H2 (fun zs H3=>zs=[]∧fA E (T.S f) (ar.map (Ar.valV (vs ++ zs))) H3 Q E0) I2 ⟨rfl,q⟩) fun ws s3 ⟨zs,H3,I3,rz,ez,q2⟩=>⟨I3.kIn, ?_⟩
    subst ez
    exact JM K hr I3.env0 hb I3 r rz l1 rfl q2
end
noncomputable def clos (cells:List (Str×Addr)):List (Str×NameKind)→List (Str×Addr)→List (Str×Addr)
  | [],acc=>acc
  | (n,k) :: r,acc=>clos cells r (if k= .free then (n,(cells.lookup n).getD 0) :: acc else acc)
theorem aDl {scope:Scope} {env:Env} (h:∀ y∈scope.names,y.2= .free→∃ c,env.cells.lookup y.1=some c):closureFor scope env=pure (clos env.cells scope.names []):=by
  unfold closureFor
  have main:∀ (l:List (Str×NameKind)) (acc:List (Str×Addr)),(∀ y∈l,y.2= .free→∃ c,env.cells.lookup y.1=some c)→
      (forIn l acc (fun x r=>if (x.2 == NameKind.free)=true then do let c ←cellOf env x.1; pure (ForInStep.yield ((x.1,c) :: r)) else pure (ForInStep.yield r)):Sem (List (Str×Addr)))=pure (clos env.cells l acc):=by
    intro l
    induction l with
    | nil=>intro acc _; rfl
    | cons y r ih =>
      intro acc hy
      obtain ⟨n,k⟩:=y
      rw [List.forIn_cons]
      have ihr:=fun acc=>ih acc fun z hz=>hy z (List.mem_cons_of_mem _ hz)
      by_cases hk:k= .free
      · subst hk
        obtain ⟨c,hc⟩:=hy (n,.free) (List.mem_cons_self ..) rfl
        have e:cellOf env n=pure c:=by unfold cellOf; rw [hc]
        simp only [beq_self_eq_true,if_true,e]
        unfold clos
        rw [if_pos rfl,hc]
        exact ihr _
      · have e:((n,k).2 == NameKind.free)=false:=beq_eq_false_iff_ne.mpr hk
        simp only [e]
        unfold clos
        rw [if_neg hk]
        exact ihr _
  have:=main scope.names [] h
  have e:(forIn scope.names ([]:List (Str×Addr)) (fun x r=>match x with
      | (name,kind)=>if (kind == NameKind.free)=true then do let c ←cellOf env name; pure (ForInStep.yield ((name,c) :: r)) else pure (ForInStep.yield r)):Sem (List (Str×Addr)))=pure (clos env.cells scope.names []):=by
    rw [←this]
  show ((forIn scope.names ([]:List (Str×Addr)) (fun x r=>match x with
      | (name,kind)=>if (kind == NameKind.free)=true then do let c ←cellOf env name; pure (ForInStep.yield ((name,c) :: r)) else pure (ForInStep.yield r)):Sem (List (Str×Addr))) >>= pure)=_
  rw [e]
  rfl
theorem OV {cells:List (Str×Addr)}:∀ {l:List (Str×NameKind)} {acc:List (Str×Addr)},(∀ y∈l,y.2= .free→∃ c,cells.lookup y.1=some c)→zS cells acc→zS cells (clos cells l acc)
  | [],_,_,h=>h
  | (n,k) :: r,acc,hy,h=>by
    unfold clos
    refine OV (fun z hz=>hy z (List.mem_cons_of_mem _ hz)) ?_
    split
    · rename_i hk
      obtain ⟨c,hc⟩:=hy (n,k) (List.mem_cons_self ..) hk
      exact ⟨by rw [hc]; rfl,h⟩
    · exact h
theorem xM {cells:List (Str×Addr)}:∀ {l:List (Str×NameKind)} {acc:List (Str×Addr)} {n:Str},((∃ c,(n,c)∈acc)∨(n,NameKind.free)∈l)→∃ c,(n,c)∈clos cells l acc
  | [],_,_,h=>by
    rcases h with h | h
    · exact h
    · cases h
  | (m, k) :: r,acc,n,h=>by
    unfold clos
    refine xM ?_
    rcases h with ⟨c,h⟩ | h
    · refine .inl ?_
      split
      · exact ⟨c,List.mem_cons_of_mem _ h⟩
      · exact ⟨c,h⟩
    · rcases List.mem_cons.mp h with e | h
      · cases e
        exact .inl ⟨_,by rw [if_pos rfl]; exact List.mem_cons_self ..⟩
      · exact .inr h
theorem BV {cells:List (Str×Addr)}:∀ {cl:List (Str×Addr)} {n:Str},zS cells cl→(∃ c,(n,c)∈cl)→∃ c,cl.lookup n=some c∧cells.lookup n=some c
  | [],_,_,⟨_,h⟩=>by cases h
  | (m,d) :: r,n,ok,⟨c,h⟩=>by
    rw [List.lookup_cons]
    cases hb:n == m with
    | true =>
      rw [beq_iff_eq.mp hb]
      exact ⟨d,rfl,ok.1⟩
    | false =>
      rcases List.mem_cons.mp h with e | h
      · cases e; rw [beq_self_eq_true] at hb; cases hb
      · exact BV ok.2 ⟨c,h⟩
theorem OQ {cl cells:List (Str×Addr)} (hcl:zS cells cl):∀ {l:List (Str×NameKind)},(∀ n,(n,NameKind.free)∈l→∃ c,(n,c)∈cl)→nO cl cells l
  | [],_=>trivial
  | (n,k) :: r,h=>⟨fun e=>by subst e; exact BV hcl (h n (List.mem_cons_self ..)),OQ hcl fun m hm=>h m (List.mem_cons_of_mem _ hm)⟩
structure Cfg where
  N:List Str
  names:List (Str×NameKind)
  blk:Bool:=false
  fns:List Str:=[]
  mks:List Str:=[]
  shs:List (Str×Nat×List Str×List Ar):=[]
  mkk:List (Str×List Str×List Ar):=[]
  gls:List Str:=[]
  tys:List Str:=[]
  blt:List Str:=[]
  M:List Str:=[]
  rm:Bool:=false
  eqs:List (String×Str):=[]
  own:List Str:=[]
  ls:List Str:=[]
  nes:List (String×Str):=[]
  lns:List (String×Str):=[]
  ows:List (Str×List (String×Str)):=[]
  gds:List (Str×List (Str×Str)):=[]
  fvs:List (Str×Nat×List Ar):=[]
  mkp:List (Str×Nat×List Str×List Ar):=[]
noncomputable def slot:List Str→Str→Option Nat
  | [],_=>none
  | y :: r,x=>if y=x then some 0 else (slot r x).map (· + 1)
theorem bN:∀ {N:List Str} {x:Str} {i:Nat},slot N x=some i→N[i]? =some x
  | [],_,_,h=>by cases h
  | y :: r,x,i,h=>by
    unfold slot at h
    split at h
    · rename_i e; cases h; rw [e]; rfl
    · cases e:slot r x with
      | none=>rw [e] at h; cases h
      | some j =>
        rw [e] at h
        cases h
        rw [List.getElem?_cons_succ]
        exact bN e
noncomputable def aC7 (C:Cfg) (x:Str):Bool:=match C.names.lookup x with
  | some .local=>true
  | some .cell=>true
  | some .free=>true
  | _=>false
noncomputable def WI (C:Cfg) (x:Str):Bool:=match C.names.lookup x with
  | some .local=>true
  | some .cell=> !C.blk || C.own.contains x
  | _=>false
noncomputable def glB (C:Cfg) (x:Str):Bool:=C.names.lookup x == some .globalImplicit
noncomputable def tR (x:Str):Bool:= !(x == ("__debug__":Str)) && !(x == ("__classdict__":Str))
noncomputable def bV:Expr→Bool
  | .Starred .. =>true
  | _=>false
noncomputable def VW:Expr→Bool
  | .Call (.Name _ _) [] [] _=>true
  | _=>false
noncomputable def sO:Expr→Bool
  | .Set .. =>true
  | _=>false
noncomputable def ZR:Expr→Bool
  | .Slice .. =>true
  | _=>false
noncomputable def wA:Expr→Bool
  | .ListComp .. | .SetComp .. | .DictComp .. =>true
  | _=>false
noncomputable def aDe:List (Str×Bn):=[("len",.len),("abs",.abs),("max",.max),("min",.min),("int",.int),("str",.str),("isinstance",.isi),("tuple",.tuple),("list",.list),("all",.all),("any",.any),("sum",.sum),("bool",.bool),("repr",.repr),("divmod",.divmod)]
noncomputable def kwN:List Keyword→Option (List Str)
  | []=>some []
  | ⟨some n,_,_⟩ :: r=>(kwN r).map (n :: ·)
  | ⟨none,_,_⟩ :: _=>none
noncomputable def jN (C:Cfg) (sc:Scope):List (Str×NameKind):=sc.names.map fun (n,k)=>if (k == .free && C.names.lookup n == some .cell) then (n,.cell) else (n,k)
noncomputable def mN (C:Cfg):List (Str×NameKind)→List (Str×Option Nat)
  | []=>[]
  | (n,k) :: r=>match k with
    | .local=>(n,none) :: mN C r
    | .cell=>(n,none) :: mN C r
    | .free=>match slot C.N n with
      | some j=>if C.names.lookup n=some .cell then (n,some j) :: mN C r else mN C r
      | none=>mN C r
    | _=>mN C r
noncomputable def OF (C:Cfg) (sc:Scope):Bool:=sc.kind == .function && sc.names.all (fun y=>(y.2 != .cell || !sc.names.contains (y.1,.free)) && (y.2 != .local || sc.names.lookup y.1 == some .local) && (y.2 != .free || C.names.lookup y.1 == some .cell)) && decide (((mN C sc.names).map (·.1)).Nodup)
  && (mN C sc.names).all (fun p=>p.2.isNone || ((jN C sc).lookup p.1 == some .cell))
noncomputable def KN (C:Cfg) (sc:Scope):Cfg:={ C with N:=(mN C sc.names).map (·.1),names:=jN C sc,blk:=true,own:=(sc.names.filter (fun y=>y.2 == .cell)).map (·.1) }
mutual
noncomputable def xE:Nat→Cfg→Bool→Expr→Option CE
  | 0,_,_,_=>none
  | n + 1,C,m,e=>match e with
    | .Compare a [.Eq] [b] _=>if sO b || C.eqs.isEmpty then none else (cE n C false a).bind fun a'=>(cE n C false b).bind fun b'=>some (.ceq C.eqs a' b')
    | _=>none
noncomputable def zE:Nat→Cfg→Expr→Option CE
  | 0,_,_=>none
  | n + 1, C,e=>match e with
    | .Subscript (.Name x _) i _=>(match C.gds.lookup x with
      | some ks=>if glB C x && tR x && !ZR i then (cE n C false i).bind fun i'=>some (.gix ks i') else none
      | none=>none)
    | .Compare a [op] [.Name x _] _=>(match C.gds.lookup x with
      | some ks=>if glB C x && tR x then (match op with
          | .In=>(cE n C false a).bind fun a'=>some (.gin false ks a')
          | .NotIn=>(cE n C false a).bind fun a'=>some (.gin true ks a')
          | _=>none) else none
      | none=>none)
    | .Call (.Name x _) (e :: r) [] _=>if !C.fvs.isEmpty && tR x && aC7 C x then (slot C.N x).bind fun i=>(cL n C (e :: r)).bind fun es'=>some (.cav (C.fvs.filter fun s=>s.2.1 == (e :: r).length) i es') else none
    | _=>none
noncomputable def cE:Nat→Cfg→Bool→Expr→Option CE
  | 0,_,_,_=>none
  | n + 1,C,m,e=>match zE n C e with
  | some c=>some c
  | none=>match xE n C m e with
  | some c=>some c
  | none => match e with
    | .Name x _=>if tR x then (match slot C.N x with
      | some i=>if aC7 C x then some (.var i) else none
      | none=>if glB C x && (C.gls.contains x || C.tys.contains x) then some (.glo x) else none) else none
    | .Constant v _ _=>(match v with
      | .int i=>some (.int i)
      | .bool b=>some (.bl b)
      | .none=>some .non
      | .str s=>some (.str s)
      | _=>none)
    | .BinOp a op b _=>(cE n C false a).bind fun a'=>(cE n C false b).bind fun b'=>some (.bin op a' b')
    | .UnaryOp op a _=>(match op with
      | .USub=>(cE n C false a).bind fun a'=>some (.neg a')
      | .Not=>(cE n C false a).bind fun a'=>some (.no a')
      | _=>none)
    | .BoolOp op vs _=>cB n C op vs
    | .Compare a ops bs _=>(match ops,bs with
      | [op],[b]=>if sO b then none else (cE n C false a).bind fun a'=>(cE n C false b).bind fun b'=>some (.cmp op a' b')
      | [op,op'],[b,c]=>if sO c then none else (cE n C false a).bind fun a'=>(cE n C false b).bind fun b'=>(cE n C false c).bind fun c'=>some (.chn op op' a' b' c')
      | _,_=>none)
    | .Tuple es _ _=>(cL n C es).bind fun es'=>some (.tup es')
    | .List es _=>(cL n C es).bind fun es'=>some (.lst m es')
    | .Subscript a s _=>(match s with
      | .Slice lo hi none _=>(cE n C false a).bind fun a'=>(cO n C lo).bind fun l'=>(cO n C hi).bind fun h'=>some (.sli a' l' h')
      | s=>if ZR s then none else (cE n C false a).bind fun a'=>(cE n C false s).bind fun i'=>some (.idx a' i'))
    | .Attribute a f _=>if VW a then none else (cE n C false a).bind fun a'=>some (.att a' f)
    | .Call f es kws pos=>(match f,es,kws with
      | .Name x _,e :: r,[]=>if glB C x then (match aDe.lookup x with
          | some b=>if C.blt.contains x then (cL n C (e :: r)).bind fun es'=>some (.blt b es') else none
          | none=>(match C.shs.find? (fun s=>s.1 == x && s.2.1 == (e :: r).length && s.2.2.1 == []) with
            | some s=>(cL n C (e :: r)).bind fun es'=>some (.cak x es' .nil s.2.2.2)
            | none=>if C.fns.contains x || C.mks.contains x then (cL n C (e :: r)).bind fun es'=>some (.cal x es') else none)) else none
      | .Name x _,e :: r,kw :: kws=>if glB C x then (kwN (kw :: kws)).bind fun ks=>(match C.shs.find? (fun s=>s.1 == x && s.2.1 == (e :: r).length && s.2.2.1 == ks) with
          | some s=>(cL n C (e :: r)).bind fun es'=>(cK n C (kw :: kws)).bind fun ks'=>some (.cak x es' ks' s.2.2.2)
          | none=>none) else none
      | .Name x _,[],kw :: kws=>if glB C x then (kwN (kw :: kws)).bind fun ks=>(match C.shs.find? (fun s=>s.1 == x && s.2.1 == 0 && s.2.2.1 == ks) with
          | some s=>(cK n C (kw :: kws)).bind fun ks'=>some (.cak x .nil ks' s.2.2.2)
          | none=>(match C.mkk.find? (fun s=>s.1 == x && s.2.1 == ks) with
            | some s=>(cK n C (kw :: kws)).bind fun ks'=>some (.cak x .nil ks' s.2.2)
            | none=>none)) else none
      | _,_,_=>none)
    | .ListComp elt gens sc _=>(match gens with
      | [⟨tg,iter,ifs,0⟩]=>if OF C sc && !sO iter then (cI n C tg iter).bind fun it'=>(cG n (KN C sc) tg).bind fun tg'=>(cTs n (KN C sc) ifs).bind fun ts'=>(cE n (KN C sc) false elt).bind fun el'=>some (.cmpr m tg' it' ts' el' ((mN C sc.names).map (·.2))) else none
      | _=>none)
    | _=>none
noncomputable def cL:Nat→Cfg→List Expr→Option CE
  | 0,_,_=>none
  | n + 1,C,es=>match es with
    | []=>some .nil
    | e :: r=>if bV e then none else (cE n C false e).bind fun e'=>(cL n C r).bind fun r'=>some (.cons e' r')
noncomputable def cK:Nat→Cfg→List Keyword→Option CE
  | 0,_,_=>none
  | n + 1,C,ks=>match ks with
    | []=>some .nil
    | ⟨_,v,_⟩ :: r=>(cE n C false v).bind fun e'=>(cK n C r).bind fun r'=>some (.cons e' r')
noncomputable def cB:Nat→Cfg→BoolOp→List Expr→Option CE
  | 0,_,_,_=>none
  | n + 1,C,op,vs=>match vs with
    | []=>none
    | [a]=>cE n C false a
    | a :: b :: r=>(cE n C false a).bind fun a'=>(cB n C op (b :: r)).bind fun b'=>some (match op with | .And=>.an a' b' | .Or=>.oo a' b')
noncomputable def xT:Nat→Cfg→Expr→Option CE
  | 0,_,_=>none
  | n + 1,C,e=>match e with
    | .Compare a [.Eq] [b] _=>if sO b || C.eqs.isEmpty then none else (cE n C false a).bind fun a'=>(cE n C false b).bind fun b'=>some (.tsb (.ceq C.eqs a' b'))
    | _=>none
noncomputable def cT:Nat→Cfg→Expr→Option CE
  | 0,_,_=>none
  | n + 1,C,e=>match xT n C e with
  | some c=>some c
  | none=>match e with
    | .BoolOp op vs _=>cW n C op vs
    | .UnaryOp .Not a _=>(cT n C a).bind fun a'=>some (.no a')
    | .Compare a ops bs _=>(match ops,bs with
      | [op],[b]=>if sO b then none else (cE n C false a).bind fun a'=>(cE n C false b).bind fun b'=>some (.tsb (.cmp op a' b'))
      | [op,op'],[b,c]=>if sO c then none else (cE n C false a).bind fun a'=>(cE n C false b).bind fun b'=>(cE n C false c).bind fun c'=>some (.tsb (.chn op op' a' b' c'))
      | _,_=>none)
    | .Name .. | .Call .. | .Subscript .. | .Attribute .. =>(cE n C false e).bind fun e'=>some (.tst e')
    | _=>none
noncomputable def cW:Nat→Cfg→BoolOp→List Expr→Option CE
  | 0,_,_,_=>none
  | n + 1,C,op,vs=>match vs with
    | []=>none
    | [a]=>cT n C a
    | a :: b :: r=>(cT n C a).bind fun a'=>(cW n C op (b :: r)).bind fun b'=>some (match op with | .And=>.an a' b' | .Or=>.oo a' b')
noncomputable def cO:Nat→Cfg→Option Expr→Option CE
  | 0,_,_=>none
  | n + 1,C,o=>match o with
    | none=>some .nil
    | some e=>(cE n C false e).bind fun e'=>some (.tst e')
noncomputable def cTs:Nat→Cfg→List Expr→Option CE
  | 0,_,_=>none
  | n + 1,C,l=>match l with
    | []=>some .nil
    | [c]=>cT n C c
    | _=>none
noncomputable def cG:Nat→Cfg→Expr→Option CE
  | 0,_,_=>none
  | n + 1,C,e=>match e with
    | .Name x _=>if WI C x then (slot C.N x).bind fun i=>some (.gn i) else none
    | .Tuple es _ _=>(cGs n C es).bind fun g=>some (.gt es.length g)
    | _=>none
noncomputable def cGs:Nat→Cfg→List Expr→Option CE
  | 0,_,_=>none
  | n + 1,C,es=>match es with
    | []=>some .nil
    | e :: r=>if bV e then none else (cG n C e).bind fun g=>(cGs n C r).bind fun r'=>some (.cons g r')
noncomputable def cI:Nat→Cfg→Expr→Expr→Option CE
  | 0,_,_,_=>none
  | n + 1, C,tg,e=>match e with
    | .Call (.Name x p) es kws pos=>if x="zip" then (match kws,tg,es with
        | [],.Tuple ..,_ :: _=>if glB C x && C.blt.contains x then (cL n C es).bind fun es'=>some (.izp es') else none
        | _,_,_=>none)
      else (match kws,es with
      | [],[a]=>if bV a then none else if x="range" then (if glB C x && C.blt.contains x then (cE n C false a).bind fun a'=>some (.irg (.cons a' .nil)) else none)
        else if x="enumerate" then (match tg with
          | .Tuple .. =>if glB C x && C.blt.contains x then (cE n C false a).bind fun a'=>some (.ien a') else none
          | _=>none)
        else (cE n C false (.Call (.Name x p) es kws pos)).bind fun e'=>some (.isq e')
      | [],[a,b]=>if bV a || bV b then none else if x="range" then (if glB C x && C.blt.contains x then (cE n C false a).bind fun a'=>(cE n C false b).bind fun b'=>some (.irg (.cons a' (.cons b' .nil))) else none)
        else (cE n C false (.Call (.Name x p) es kws pos)).bind fun e'=>some (.isq e')
      | _,_=>(cE n C false (.Call (.Name x p) es kws pos)).bind fun e'=>some (.isq e'))
    | e=>if sO e then none else (cE n C false e).bind fun e'=>some (.isq e')
end
structure Fk (P:Program) (w:World) (K:W.Frag) (mg:Str→Option Value) (base:Heap) (E:Ev) (T:Tb) (k:Nat) (f:Str) (ad:Addr) (fd:FuncData) (ps:List Str):Prop where
  ok:cJ P w K mg base CX0 k ad fd ps (fA E (T.S f))
  mg:mg f=some (.ref ad)
  kp:W.keepIn K (.ref ad)=true
  db:(f == ("__debug__":Str))=false
structure Mf (P:Program) (w:World) (K:W.Frag) (mg:Str→Option Value) (base:Heap) (E:Ev) (T:Tb) (k:Nat) (x:Str) (c:String) (xi:Str) (ad:Addr) (fd:FuncData) (ps:List Str):Prop where
  mkr:Mk K (E.cls c) ad
  ok:cJ P w K mg base CX0 k ad fd ps (fA E (T.S xi))
  mg:mg x=some (.ref (E.cls c))
  ms:XR T c x xi
  db:(x == ("__debug__":Str))=false
noncomputable def up1:Ar→Ar
  | .arg i=>.arg (i + 1)
  | a=>a
structure Gf (P:Program) (w:World) (K:W.Frag) (mg:Str→Option Value) (base:Heap) (E:Ev) (T:Tb) (k:Nat) (C:Cfg):Prop where
  fns:∀ f∈C.fns,∃ ad fd ps,Fk P w K mg base E T k f ad fd ps∧L2.aE K fd ps []
  mks:∀ x∈C.mks,∃ c xi ad fd ps,Mf P w K mg base E T k x c xi ad fd ps∧L2.aE K fd ps []
  shs:∀ s∈C.shs,∃ ad fd ps,Fk P w K mg base E T k s.1 ad fd ps∧jI K fd ps s.2.1 s.2.2.1 s.2.2.2
  mkk:∀ s∈C.mkk,∃ c xi ad fd ps,Mf P w K mg base E T k s.1 c xi ad fd ps∧jI K fd ps 1 s.2.1 (.arg 0 :: s.2.2.map up1)
  gls:∀ x∈C.gls,∃ u v,mg x=some u∧aL v u∧RP E (fun _=>none) (T.gv x) v
  tys:∀ x∈C.tys,mg x=none∧(∃ n,bootBuiltins x=some (.type n)∧T.gv x= .ty n)∧x≠"__name__"
  blt:∀ x∈C.blt,mg x=none
  eqs:∀ y∈C.eqs,∃ ad fd,zZ K (E.cls y.1) "__eq__" ad∧cJ P w K mg base CX0 k ad fd ["self","other"] (fA E (T.S y.2))∧L2.aE K fd ["self","other"] []
  nes:∀ y∈C.nes,∃ ad fd,NeC K (E.cls y.1)∧zZ K (E.cls y.1) "__eq__" ad∧cJ P w K mg base CX0 k ad fd ["self","other"] (fA E (T.S y.2))∧L2.aE K fd ["self","other"] []
  lns:∀ y∈C.lns,∃ ad fd,NeC K (E.cls y.1)∧zZ K (E.cls y.1) "__len__" ad∧cJ P w K mg base CX0 k ad fd ["self"] (fA E (T.S y.2))∧L2.aE K fd ["self"] []
  ows:∀ y∈C.ows,∀ b,aDe.lookup y.1=some b→∀ z∈y.2,∃ ad fd k0 nm,k0 + 2≤k∧bwN b=some nm∧NeC K (E.cls z.1)∧zZ K (E.cls z.1) nm ad∧cJ P w K mg base CX0 k0 ad fd ["self"] (fA E (T.S z.2))∧L2.aE K fd ["self"] []
  gds:∀ y∈C.gds,∃ a es n,mg y.1=some (.ref a)∧K.lookup a=some ⟨.type "dict",none,.dict es n, #[]⟩∧W.KeysLit w.params es.toList∧(a == sysModules)=false∧∀ z,findBy Value.isStrOf es z=(y.2.lookup z).map fun f=>.ref (E.fna f)
  fvs:∀ y∈C.fvs,∃ fd ps,cJ P w K mg base CX0 k (E.fna y.1) fd ps (fA E (T.S y.1))∧W.keepIn K (.ref (E.fna y.1))=true∧jI K fd ps y.2.1 [] y.2.2
  mkp:∀ s∈C.mkp,∃ c xi ad fd ps,Mf P w K mg base E T k s.1 c xi ad fd ps∧jI K fd ps (s.2.1 + 1) s.2.2.1 (.arg 0 :: s.2.2.2.map up1)
structure Kn (X:Cx) (E:Ev) (T:Tb) (k:Nat) (C:Cfg):Prop where
  pl:Pl X E T (k + 1)
  N:X.N=C.N
  nd:C.N.Nodup
  nm:X.env.scope.names=C.names
  kd:X.env.scope.kind= .function
  fn:∀ x,(C.blk=false∨x∈C.own)→X.fn x=true
  ce:∀ x,C.names.lookup x=some .cell→∃ c,X.env.cells.lookup x=some c
  ps:PassesOwn (model X.prog X.w) X.A X.env X.xe
  gf:Gf X.prog X.w X.K X.mg X.base E T k C
theorem aDq:∀ y∈aDe,bootBuiltins y.1=some (aH9 y.2)∧y.1≠"__name__"∧(y.1 == ("__debug__":Str))=false:=by
  intro y hy
  simp only [aDe,List.mem_cons,List.not_mem_nil,or_false] at hy
  rcases hy with rfl | rfl | rfl | rfl | rfl | rfl | rfl | rfl | rfl | rfl | rfl | rfl | rfl | rfl | rfl <;> exact ⟨by first | exact PySem.boot_len | (with_unfolding_all rfl),by decide,by decide⟩
theorem dW {α β:Type} [BEq α] [LawfulBEq α]:∀ {l:List (α×β)} {x:α} {b:β},l.lookup x=some b→(x,b)∈l
  | [],_,_,h=>by cases h
  | (y,c) :: r,x,b,h=>by
    rw [List.lookup_cons] at h
    cases e:x == y with
    | true=>rw [e] at h; cases h; rw [beq_iff_eq.mp e]; exact List.mem_cons_self ..
    | false=>rw [e] at h; exact List.mem_cons_of_mem _ (dW h)
section
variable {X:Cx} {E:Ev} {T:Tb} {k:Nat} {C:Cfg}
theorem Kn.vis (K:Kn X E T k C) {x:Str} (h:aC7 C x=true):Vis X.env.scope x:=by
  unfold aC7 at h
  unfold Vis
  rw [K.nm]
  split at h
  · rename_i e; exact .inl e
  · rename_i e; exact .inr (.inl e)
  · rename_i e; exact .inr (.inr e)
  · cases h
theorem Kn.loc (K:Kn X E T k C) {x:Str} (h:WI C x=true):L2.Loc X.env.scope x∧(X.fn x=true∨X.env.scope.names.lookup x=some .local):=by
  unfold WI at h
  unfold L2.Loc
  rw [K.nm]
  split at h
  · rename_i e; exact ⟨.inl e,.inr e⟩
  · rename_i e
    exact ⟨.inr e,.inl (K.fn x (by
      rw [Bool.or_eq_true] at h
      exact h.imp (fun z=>by simpa using z) fun z=>List.contains_iff_mem.mp z))⟩
  · cases h
theorem Kn.gl (K:Kn X E T k C) {x:Str} (h:glB C x=true):Gl X x:=by
  unfold glB at h
  unfold Gl Env.kindOf
  rw [K.nm]
  exact beq_iff_eq.mp h
theorem aV {e:Expr} {es:List Expr} {env:Env} (h:bV e=false):starEach (e :: es) env=(false,eval e env) :: starEach es env:=by
  cases e <;> first | rfl | (cases h)
theorem IB {e:Expr} {es:List Expr} {env:Env} (h:bV e=false):assignEach (e :: es) env=(false,assign e env) :: assignEach es env:=by
  cases e <;> first | rfl | (cases h)
theorem QT {o:Expr} {f:Str} {env:Env} {w:Sem Value} (h:VW o=false):attributeBase o f env w=w:=by
  unfold attributeBase
  split
  · cases h
  · rfl
theorem lM {op:CmpOp} {b:Expr} (h:sO b=false):behindInMarks op b=false:=by
  cases b <;> first | rfl | (cases h)
theorem tF {e:Expr} {env:Env} (h:sO e=false):∀ x,foldedSetIterable e env x=pure x:=by
  intro x
  cases e <;> first | rfl | (cases h)
theorem yC {e:Expr} (h:ZR e=false):vK e:=by
  intro o i
  cases e <;> first | rfl | (cases h)
theorem xY (K:Kn X E T k C) (sc:Scope):(relabel sc X.env).names=jN C sc:=by
  unfold relabel jN Env.kindOf
  rw [K.nm,K.kd]
  simp
theorem KR {cl:List (Str×Addr)} {sc:Scope} (K:Kn X E T k C):∀ {l:List (Str×Option Nat)},(∀ p∈l,∀ j,p.2=some j→X.N[j]? =some p.1∧X.env.kindOf p.1=some .cell∧(relabel sc X.env).names.lookup p.1=some .cell∧∃ c,cl.lookup p.1=some c∧X.env.cells.lookup p.1=some c)→iC X sc cl (l.map (·.1)) (l.map (·.2))
  | [],_=>trivial
  | (n,none) :: r,h=>by
    show iC X sc cl (r.map (·.1)) (r.map (·.2))
    exact KR K fun p hp=>h p (List.mem_cons_of_mem _ hp)
  | (n,some j) :: r,h=>⟨h _ (List.mem_cons_self ..) j rfl,KR K fun p hp=>h p (List.mem_cons_of_mem _ hp)⟩
theorem gW {C:Cfg}:∀ {l:List (Str×NameKind)} {p:Str×Option Nat} {j:Nat},p∈mN C l→p.2=some j→(p.1,NameKind.free)∈l∧slot C.N p.1=some j∧C.names.lookup p.1=some .cell
  | [],_,_,h,_=>by cases h
  | (n, kk) :: r,p,j,h,e=>by
    unfold mN at h
    split at h
    · rcases List.mem_cons.mp h with z | z
      · subst z; cases e
      · obtain ⟨a,b⟩:=gW z e; exact ⟨List.mem_cons_of_mem _ a,b⟩
    · rcases List.mem_cons.mp h with z | z
      · subst z; cases e
      · obtain ⟨a,b⟩:=gW z e; exact ⟨List.mem_cons_of_mem _ a,b⟩
    · split at h
      · rename_i j' hs
        split at h
        · rename_i hc
          rcases List.mem_cons.mp h with z | z
          · subst z; cases e; exact ⟨List.mem_cons_self ..,hs,hc⟩
          · obtain ⟨a,b⟩:=gW z e; exact ⟨List.mem_cons_of_mem _ a,b⟩
        · obtain ⟨a,b⟩:=gW h e; exact ⟨List.mem_cons_of_mem _ a,b⟩
      · obtain ⟨a,b⟩:=gW h e; exact ⟨List.mem_cons_of_mem _ a,b⟩
    · obtain ⟨a,b⟩:=gW h e; exact ⟨List.mem_cons_of_mem _ a,b⟩
theorem NH {cells:List (Str×Addr)}:∀ {l:List (Str×NameKind)} {acc:List (Str×Addr)} {n:Str} {c:Addr},(n,c)∈clos cells l acc→(n,c)∈acc∨(n,NameKind.free)∈l
  | [],_,_,_,h=>.inl h
  | (m, k) :: r,acc,n,c,h=>by
    unfold clos at h
    rcases NH h with z | z
    · split at z
      · rename_i hk
        rcases List.mem_cons.mp z with e | z
        · cases e; subst hk; exact .inr (List.mem_cons_self ..)
        · exact .inl z
      · exact .inl z
    · exact .inr (List.mem_cons_of_mem _ z)
theorem Kn.block (K:Kn X E T k C) {sc:Scope} (h:OF C sc=true):∃ cl,kK X ((mN C sc.names).map (·.1)) sc cl ((mN C sc.names).map (·.2))∧∀ C0 s₀ H₀ ex,Kn (cxC X ((mN C sc.names).map (·.1)) sc cl C0 s₀ H₀ ex) E T k (KN C sc):=by
  unfold OF at h
  simp only [Bool.and_eq_true,List.all_eq_true,decide_eq_true_eq] at h
  obtain ⟨⟨⟨hk,hn⟩,hd⟩,hc⟩:=h
  have hk:sc.kind= .function:=beq_iff_eq.mp hk
  have fr:∀ y∈sc.names,y.2= .free→C.names.lookup y.1=some .cell:=fun y hy e=>by
    have:=(hn y hy).2
    rw [e] at this
    simpa using this
  have ncell:∀ x,(x,NameKind.cell)∈sc.names→(x,NameKind.free)∉ sc.names:=fun x hx hf=>by
    have:=(hn _ hx).1.1
    simp [hf] at this
  have hf:∀ y∈sc.names,y.2= .free→∃ c,X.env.cells.lookup y.1=some c:=fun y hy e=>K.ce y.1 (fr y hy e)
  have hcl:zS X.env.cells (clos X.env.cells sc.names []):=OV hf trivial
  have look:∀ n,(n,NameKind.free)∈sc.names→∃ c,(clos X.env.cells sc.names []).lookup n=some c∧X.env.cells.lookup n=some c:=fun n hn=>BV hcl (xM (.inr hn))
  refine ⟨clos X.env.cells sc.names [],⟨aDl hf,(fun x hx=>by
    cases e:(clos X.env.cells sc.names []).lookup x with
    | none=>rfl
    | some c =>
      rcases NH (dW e) with z | z
      · cases z
      · exact absurd z (ncell x hx)),hk,fun y hy e=>?_,OQ hcl fun n hn=>xM (.inr hn),hcl,KR K fun p hp j e=>?_⟩,fun C0 s₀ H₀ ex=>⟨⟨K.pl.hK,K.pl.calm,K.pl.room,K.pl.cls,K.pl.fld⟩,rfl,hd,xY K sc,hk,(fun x z=>by
    rcases z with z | z
    · cases z
    · obtain ⟨y,hy,e⟩:=List.mem_map.mp z
      obtain ⟨h1,h2⟩:=List.mem_filter.mp hy
      subst e
      refine List.contains_iff_mem.mpr ?_
      rw [show (y.1,NameKind.cell)=y from by rw [←beq_iff_eq.mp h2]]
      exact h1),fun x hx=>?_,PassesOwn.never,⟨K.gf.fns,K.gf.mks,K.gf.shs,K.gf.mkk,K.gf.gls,K.gf.tys,K.gf.blt,K.gf.eqs,K.gf.nes,K.gf.lns,K.gf.ows,K.gf.gds,K.gf.fvs,K.gf.mkp⟩⟩⟩
  · have:=(hn y hy).1.2
    rw [e] at this
    simpa using this
  · obtain ⟨hm,hs,hcell⟩:=gW hp e
    refine ⟨by rw [K.N]; exact bN hs,by unfold Env.kindOf; rw [K.nm]; exact hcell, ?_,look _ hm⟩
    rw [xY K sc]
    have:=hc p hp
    rw [e] at this
    simpa using this
  · have hx:(jN C sc).lookup x=some .cell:=hx
    have hm:=dW hx
    unfold jN at hm
    obtain ⟨⟨n,kk⟩,hy,e⟩:=List.mem_map.mp hm
    have e':(if (kk == NameKind.free && C.names.lookup n == some NameKind.cell)=true then (n,NameKind.cell) else (n,kk))=(x,NameKind.cell):=e
    split at e'
    · rename_i hcond
      cases e'
      have:kk= .free:=by
        rw [Bool.and_eq_true] at hcond
        exact beq_iff_eq.mp hcond.1
      subst this
      obtain ⟨c,h1,_⟩:=look x hy
      exact ⟨c,sN (fun z=>ncell x z hy) h1⟩
    · cases e'
      obtain ⟨c,h1,_⟩:=BM (n:=C0 + 1) (cl:=clos X.env.cells sc.names []) hy
      exact ⟨c,h1⟩
theorem wL {pos:Pos} {env:Env}:∀ {kws:List Keyword} {ks:List Str},kwN kws=some ks→(backToKw pos (keywordEach kws env)).all (·.1.isSome)=true∧(backToKw pos (keywordEach kws env)).filterMap (·.1)=ks∧(backToKw pos (keywordEach kws env)).any (·.1.isNone)=false∧kws.length=ks.length
  | [],ks,h=>by cases h; exact ⟨rfl,rfl,rfl,rfl⟩
  | ⟨some n,v,p⟩ :: r,ks,h=>by
    unfold kwN at h
    cases e:kwN r with
    | none=>rw [e] at h; cases h
    | some l =>
      rw [e] at h
      cases h
      obtain ⟨a,b,c,d⟩:=wL (pos:=pos) (env:=env) e
      refine ⟨?_, ?_, ?_,by rw [List.length_cons,List.length_cons,d]⟩
      · show (true && (backToKw pos (keywordEach r env)).all (·.1.isSome))=true
        rw [a]; rfl
      · show n :: (backToKw pos (keywordEach r env)).filterMap (·.1)=n :: l
        rw [b]
      · show (false || (backToKw pos (keywordEach r env)).any (·.1.isNone))=false
        rw [c]; rfl
  | ⟨none,v,p⟩ :: r,ks,h=>by cases h
end
structure Snd (E:Ev) (T:Tb) (k:Nat) (n:Nat):Prop where
  e:∀ X C m e c,Kn X E T k C→cE n C m e=some c→JE X E e (wpE T c)
  xe:∀ X C m e c,Kn X E T k C→xE n C m e=some c→JE X E e (wpE T c)
  ze:∀ X C e c,Kn X E T k C→zE n C e=some c→JE X E e (wpE T c)
  xt:∀ X C e c,Kn X E T k C→xT n C e=some c→JT X E e (wpT T c)
  l:∀ X C es c,Kn X E T k C→cL n C es=some c→JA X E es (wpL T c)∧∀ e∈es,bV e=false
  kk:∀ X C ks c,Kn X E T k C→cK n C ks=some c→JK X E ks (wpL T c)
  b:∀ X C op vs c pos,Kn X E T k C→cB n C op vs=some c→JE X E (.BoolOp op vs pos) (wpE T c)
  t:∀ X C e c,Kn X E T k C→cT n C e=some c→JT X E e (wpT T c)
  w:∀ X C op vs c pos,Kn X E T k C→cW n C op vs=some c→JW X E (.BoolOp op vs pos) (wpT T c)
  o:∀ X C o c,Kn X E T k C→cO n C o=some c→JO X E o (wpO T c)
  ts:∀ X C l c,Kn X E T k C→cTs n C l=some c→SV X E l (wpT T c)
  g:∀ X C e c,Kn X E T k C→cG n C e=some c→JG X E e (wpG T c)
  gs:∀ X C es c,Kn X E T k C→cGs n C es=some c→JGs X E es (eX T c)∧∀ e∈es,bV e=false
  i:∀ X C tg e c,Kn X E T k C→cI n C tg e=some c→JI X E tg e (wpI T c)
section
variable {E:Ev} {T:Tb} {k n:Nat}
theorem bnd {α β:Type} {o:Option α} {f:α→Option β} {b:β} (h:o.bind f=some b):∃ a,o=some a∧f a=some b:=Option.bind_eq_some_iff.mp h
theorem fK {pos:Pos} {env:Env}:∀ {es:List Expr},(∀ e∈es,bV e=false)→(backTo pos (starEach es env)).any (·.1)=false
  | [],_=>rfl
  | e :: r,h=>by
    rw [aV (h e (List.mem_cons_self ..))]
    show (false || (backTo pos (starEach r env)).any (·.1))=false
    rw [fK fun x hx=>h x (List.mem_cons_of_mem _ hx)]; rfl
theorem vF {env:Env}:∀ {es:List Expr},(∀ e∈es,bV e=false)→(assignEach es env).length=es.length∧(assignEach es env).findIdx? (·.1)=none
  | [],_=>⟨rfl,rfl⟩
  | e :: r,h=>by
    obtain ⟨a,b⟩:=vF (env:=env) (es:=r) fun x hx=>h x (List.mem_cons_of_mem _ hx)
    rw [IB (h e (List.mem_cons_self ..))]
    refine ⟨by rw [List.length_cons,List.length_cons,a], ?_⟩
    rw [List.findIdx?_cons]
    simp only [b]
    rfl
theorem aER {op op':CmpOp} {b c:Expr} (h:sO c=false):lastMarks [op,op'] [b,c]=false:=by
  show lastMarks [op'] [c]=false
  exact lM h
theorem CV {α:Type} {l:List α} {p:α→Bool} {s:α} (h:l.find? p=some s):s∈l∧p s=true:=⟨List.mem_of_find?_eq_some h,List.find?_some h⟩
theorem jB {x:Str} (h:tR x=true):(x == ("__debug__":Str))=false∧(x == ("__classdict__":Str))=false:=by
  unfold tR at h
  rw [Bool.and_eq_true,Bool.not_eq_true',Bool.not_eq_true'] at h
  exact h
theorem or2 {a b:Bool} (h:¬(a || b)=true):a=false∧b=false:=by cases a <;> cases b <;> simp at h ⊢
theorem aMR:Snd E T k 0:=by
  constructor <;> (intros; rename_i h; first | (unfold zE at h; cases h) | (unfold cE at h; cases h) | (unfold cL at h; cases h) | (unfold cK at h; cases h) | (unfold cB at h; cases h) | (unfold cT at h; cases h) | (unfold cW at h; cases h) | (unfold cO at h; cases h) | (unfold cTs at h; cases h) | (unfold cG at h; cases h) | (unfold cGs at h; cases h) | (unfold cI at h; cases h))
theorem aLI (S:Snd E T k n):∀ X C es c,Kn X E T k C→cL (n + 1) C es=some c→JA X E es (wpL T c)∧∀ e∈es,bV e=false:=by
  intro X C es c K h
  cases es with
  | nil=>unfold cL at h; cases h; exact ⟨aHu,fun e he=>nomatch he⟩
  | cons e r =>
    unfold cL at h
    dsimp only at h
    split at h
    · cases h
    · rename_i hs
      obtain ⟨e',h1,h⟩:=bnd h
      obtain ⟨r',h2,h⟩:=bnd h
      cases h
      have hs:bV e=false:=by simpa using hs
      obtain ⟨a,b⟩:=S.l X C r r' K h2
      refine ⟨aCg (S.e X C false e e' K h1) a (aV hs),fun x hx=>?_⟩
      rcases List.mem_cons.mp hx with z | z
      · rw [z]; exact hs
      · exact b x z
theorem aLb (S:Snd E T k n):∀ X C ks c,Kn X E T k C→cK (n + 1) C ks=some c→JK X E ks (wpL T c):=by
  intro X C ks c K h
  cases ks with
  | nil=>unfold cK at h; cases h; exact WY
  | cons e r =>
    obtain ⟨nm,v,p⟩:=e
    unfold cK at h
    dsimp only at h
    obtain ⟨e',h1,h⟩:=bnd h
    obtain ⟨r',h2,h⟩:=bnd h
    cases h
    exact aCe (S.e X C false v e' K h1) (S.kk X C r r' K h2)
theorem aKE (S:Snd E T k n):∀ X C op vs c pos,Kn X E T k C→cB (n + 1) C op vs=some c→JE X E (.BoolOp op vs pos) (wpE T c):=by
  intro X C op vs c pos K h
  unfold cB at h
  split at h
  · cases h
  · exact aHW (S.e X C false _ c K h)
  · obtain ⟨a',h1,h⟩:=bnd h
    obtain ⟨b',h2,h⟩:=bnd h
    cases op with
    | And=>cases h; exact aJf K.pl (S.e X C false _ a' K h1) (S.b X C .And _ b' pos K h2)
    | Or=>cases h; exact aJK K.pl (S.e X C false _ a' K h1) (S.b X C .Or _ b' pos K h2)
theorem aJB (S:Snd E T k n):∀ X C op vs c pos,Kn X E T k C→cW (n + 1) C op vs=some c→JW X E (.BoolOp op vs pos) (wpT T c):=by
  intro X C op vs c pos K h
  unfold cW at h
  split at h
  · cases h
  · cases op with
    | And=>exact aGw (S.t X C _ c K h)
    | Or=>exact aGa (S.t X C _ c K h)
  · obtain ⟨a',h1,h⟩:=bnd h
    obtain ⟨b',h2,h⟩:=bnd h
    cases op with
    | And=>cases h; exact aKa (S.t X C _ a' K h1) (S.w X C .And _ b' pos K h2)
    | Or=>cases h; exact aJz (S.t X C _ a' K h1) (S.w X C .Or _ b' pos K h2)
theorem aLv (S:Snd E T k n):∀ X C o c,Kn X E T k C→cO (n + 1) C o=some c→JO X E o (wpO T c):=by
  intro X C o c K h
  unfold cO at h
  split at h
  · cases h; exact aHk
  · obtain ⟨e',h1,h⟩:=bnd h
    cases h
    exact aCQ (S.e X C false _ e' K h1)
theorem aIz (S:Snd E T k n):∀ X C l c,Kn X E T k C→cTs (n + 1) C l=some c→SV X E l (wpT T c):=by
  intro X C l c K h
  unfold cTs at h
  split at h
  · cases h; exact aNC
  · exact aND (S.t X C _ c K h)
  · cases h
theorem aK3 (S:Snd E T k n):∀ X C e c,Kn X E T k C→cG (n + 1) C e=some c→JG X E e (wpG T c):=by
  intro X C e c K h
  unfold cG at h
  split at h
  · split at h
    · rename_i hl
      obtain ⟨i,h1,h⟩:=bnd h
      cases h
      obtain ⟨a,b⟩:=K.loc hl
      exact DV (by rw [K.N]; exact K.nd) (by rw [K.N]; exact bN h1) a b
    · cases h
  · obtain ⟨g,h1,h⟩:=bnd h
    cases h
    obtain ⟨a,b⟩:=S.gs X C _ g K h1
    obtain ⟨l1,l2⟩:=vF (env:=X.env) b
    exact UI K.pl a l1 l2
  · cases h
theorem aIF (S:Snd E T k n):∀ X C es c,Kn X E T k C→cGs (n + 1) C es=some c→JGs X E es (eX T c)∧∀ e∈es,bV e=false:=by
  intro X C es c K h
  cases es with
  | nil=>unfold cGs at h; cases h; exact ⟨aB7,fun e he=>nomatch he⟩
  | cons e r =>
    unfold cGs at h
    dsimp only at h
    split at h
    · cases h
    · rename_i hs
      obtain ⟨e',h1,h⟩:=bnd h
      obtain ⟨r',h2,h⟩:=bnd h
      cases h
      have hs:bV e=false:=by simpa using hs
      obtain ⟨a,b⟩:=S.gs X C r r' K h2
      refine ⟨aBa (S.g X C e e' K h1) a (by rw [IB hs]; rfl),fun x hx=>?_⟩
      rcases List.mem_cons.mp hx with z | z
      · rw [z]; exact hs
      · exact b x z
theorem aLJ (S:Snd E T k n):∀ X C e c,Kn X E T k C→cT (n + 1) C e=some c→JT X E e (wpT T c):=by
  intro X C e c K h
  unfold cT at h
  split at h
  · rename_i c2 hx
    cases h
    exact S.xt X C e _ K hx
  split at h
  · exact (S.w X C _ _ c _ K h).jt
  · obtain ⟨a',h1,h⟩:=bnd h
    cases h
    exact aKF (S.t X C _ a' K h1)
  · split at h
    · split at h
      · cases h
      · rename_i hs
        obtain ⟨a',h1,h⟩:=bnd h
        obtain ⟨b',h2,h⟩:=bnd h
        cases h
        exact aGr K.pl (lM (by simpa using hs)) (S.e X C false _ a' K h1) (S.e X C false _ b' K h2)
    · split at h
      · cases h
      · rename_i hs
        obtain ⟨a',h1,h⟩:=bnd h
        obtain ⟨b',h2,h⟩:=bnd h
        obtain ⟨c',h3,h⟩:=bnd h
        cases h
        exact aIt K.pl (aER (by simpa using hs)) (S.e X C false _ a' K h1) (S.e X C false _ b' K h2) (S.e X C false _ c' K h3)
    · cases h
  · obtain ⟨e',h1,h⟩:=bnd h
    cases h
    exact EU K.pl (S.e X C false _ e' K h1) fun _=>rfl
  · obtain ⟨e',h1,h⟩:=bnd h
    cases h
    exact EU K.pl (S.e X C false _ e' K h1) fun _=>rfl
  · obtain ⟨e',h1,h⟩:=bnd h
    cases h
    exact EU K.pl (S.e X C false _ e' K h1) fun _=>rfl
  · obtain ⟨e',h1,h⟩:=bnd h
    cases h
    exact EU K.pl (S.e X C false _ e' K h1) fun _=>rfl
  · cases h
theorem aJH (S : Snd E T k n):∀ X C tg e c,Kn X E T k C→cI (n + 1) C tg e=some c→JI X E tg e (wpI T c):=by
  intro X C tg e c K h
  unfold cI at h
  split at h
  · split at h
    · rename_i hx
      split at h
      · split at h
        · rename_i hb
          rw [Bool.and_eq_true] at hb
          obtain ⟨es',h1,h⟩:=bnd h
          cases h
          subst hx
          obtain ⟨a,b⟩:=S.l X C _ es' K h1
          exact aHJ K.pl (K.gl hb.1) (K.gf.blt _ (by simpa using hb.2)) a (aV (b _ (List.mem_cons_self ..))) (fK fun y hy=>b y (List.mem_cons_of_mem _ hy))
        · cases h
      · cases h
    · split at h
      · split at h
        · cases h
        · rename_i hs
          split at h
          · rename_i hx
            split at h
            · rename_i hb
              rw [Bool.and_eq_true] at hb
              obtain ⟨a',h1,h⟩:=bnd h
              cases h
              subst hx
              exact aB3 (K.gl hb.1) (K.gf.blt _ (by simpa using hb.2)) (S.e X C false _ a' K h1) (aV (by simpa using hs))
            · cases h
          · split at h
            · rename_i hx
              split at h
              · split at h
                · rename_i hb
                  rw [Bool.and_eq_true] at hb
                  obtain ⟨a',h1,h⟩:=bnd h
                  cases h
                  subst hx
                  exact aIg K.pl (K.gl hb.1) (K.gf.blt _ (by simpa using hb.2)) (S.e X C false _ a' K h1) (aV (by simpa using hs))
                · cases h
              · cases h
            · obtain ⟨e',h1,h⟩:=bnd h
              cases h
              exact EA K.pl (S.e X C false _ e' K h1)
      · split at h
        · cases h
        · rename_i hs
          have hs':=or2 hs
          split at h
          · rename_i hx
            split at h
            · rename_i hb
              rw [Bool.and_eq_true] at hb
              obtain ⟨a',h1,h⟩:=bnd h
              obtain ⟨b',h2,h⟩:=bnd h
              cases h
              subst hx
              exact aBP (K.gl hb.1) (K.gf.blt _ (by simpa using hb.2)) (S.e X C false _ a' K h1) (S.e X C false _ b' K h2) (by rw [aV hs'.1,aV hs'.2]; rfl) (aV hs'.2)
            · cases h
          · obtain ⟨e',h1,h⟩:=bnd h
            cases h
            exact EA K.pl (S.e X C false _ e' K h1)
      · obtain ⟨e',h1,h⟩:=bnd h
        cases h
        exact EA K.pl (S.e X C false _ e' K h1)
  · split at h
    · cases h
    · obtain ⟨e',h1,h⟩:=bnd h
      cases h
      exact EA K.pl (S.e X C false _ e' K h1)
theorem aBb (S:Snd E T k n) {X:Cx} {C:Cfg} {x:Str} {p pos:Pos} {e:Expr} {r:List Expr} {es':CE} (K:Kn X E T k C) (hg:glB C x=true) (hc:C.fns.contains x=true∨C.mks.contains x=true) (h:cL n C (e :: r)=some es'):JE X E (.Call (.Name x p) (e :: r) [] pos) (wpE T (.cal x es')):=by
  obtain ⟨a,b⟩:=S.l X C _ es' K h
  have s1:=aV (env:=X.env) (es:=r) (b e (List.mem_cons_self ..))
  have s2:=fK (pos:=pos) (env:=X.env) fun y hy=>b y (List.mem_cons_of_mem _ hy)
  rcases hc with hc | hc
  · obtain ⟨ad,fd,ps,F,hb⟩:=K.gf.fns x (by simpa using hc)
    exact aIy F.ok (K.pl.room.mono (Nat.le_succ _)) (K.gl hg) F.mg F.kp hb F.db a s1 s2
  · obtain ⟨c,xi,ad,fd,ps,F,hb⟩:=K.gf.mks x (by simpa using hc)
    exact aGG F.mkr F.ok K.pl.room (K.gl hg) F.mg hb F.ms F.db a s1 s2
theorem ZZ (S:Snd E T k n) {X:Cx} {C:Cfg} {x:Str} {p pos:Pos} {e:Expr} {r:List Expr} {kws:List Keyword} {ks:List Str} {s:Str×Nat×List Str×List Ar} {es' ks':CE} (K:Kn X E T k C) (hg:glB C x=true) (hk:kwN kws=some ks)
    (hf:C.shs.find? (fun s=>s.1 == x && s.2.1 == (e :: r).length && s.2.2.1 == ks)=some s) (h:cL n C (e :: r)=some es') (h2:JK X E kws (wpL T ks')):JE X E (.Call (.Name x p) (e :: r) kws pos) (wpE T (.cak x es' ks' s.2.2.2)):=by
  obtain ⟨a,b⟩:=S.l X C _ es' K h
  have s1:=aV (env:=X.env) (es:=r) (b e (List.mem_cons_self ..))
  have s2:=fK (pos:=pos) (env:=X.env) (es:=e :: r) b
  obtain ⟨hm,hp⟩:=CV hf
  simp only [Bool.and_eq_true,beq_iff_eq] at hp
  obtain ⟨⟨e1,e2⟩,e3⟩:=hp
  obtain ⟨ad,fd,ps,F,hb⟩:=K.gf.shs s hm
  rw [e1] at F
  obtain ⟨k1,k2,k3,k4⟩:=wL (pos:=pos) (env:=X.env) hk
  exact aH5 F.ok (K.pl.room.mono (Nat.le_succ _)) (K.gl hg) F.mg F.kp hb F.db a h2 e2.symm (by rw [e3]; exact k4) k1 (by rw [e3]; exact k2) s1 (by rw [s2,k3]; rfl)
theorem aFt {X:Cx} {C:Cfg} (K:Kn X E T k C):∀ y∈C.eqs,EqM X E T k y.1 y.2:=fun y hy=>⟨K.gf.eqs y hy⟩
theorem aGN (S:Snd E T k n):∀ X C e c,Kn X E T k C→zE (n + 1) C e=some c→JE X E e (wpE T c):=by
  intro X C e c K h
  unfold zE at h
  split at h
  · split at h
    · rename_i ks hk
      split at h
      · rename_i hc
        simp only [Bool.and_eq_true,Bool.not_eq_true'] at hc
        obtain ⟨i',h1,h⟩:=bnd h
        cases h
        exact aGb ⟨K.gf.gds _ (dW hk)⟩ (K.gl hc.1.1) (jB hc.1.2).1 (S.e X C false _ i' K h1) (yC hc.2)
      · cases h
    · cases h
  · split at h
    · rename_i ks hk
      split at h
      · rename_i hc
        simp only [Bool.and_eq_true] at hc
        split at h
        · obtain ⟨a',h1,h⟩:=bnd h
          cases h
          exact UG (neg:=false) rfl ⟨K.gf.gds _ (dW hk)⟩ (K.gl hc.1) (jB hc.2).1 (S.e X C false _ a' K h1)
        · obtain ⟨a',h1,h⟩:=bnd h
          cases h
          exact UG (neg:=true) rfl ⟨K.gf.gds _ (dW hk)⟩ (K.gl hc.1) (jB hc.2).1 (S.e X C false _ a' K h1)
        · cases h
      · cases h
    · cases h
  · split at h
    · rename_i hc
      simp only [Bool.and_eq_true,Bool.not_eq_true'] at hc
      obtain ⟨i,h0,h⟩:=bnd h
      obtain ⟨es',h1,h⟩:=bnd h
      cases h
      obtain ⟨a,b⟩:=S.l X C _ es' K h1
      refine aGd (by rw [K.N]; exact bN h0) (K.vis hc.2) (jB hc.1.2).1 (jB hc.1.2).2 (K.pl.room.mono (Nat.le_succ _)) (fun y hy=>?_) a (aV (b _ (List.mem_cons_self ..))) ?_
      · rw [List.mem_filter] at hy
        exact ⟨⟨K.gf.fvs y hy.1⟩,beq_iff_eq.mp hy.2⟩
      · rw [fK (pos:=_) (env:=X.env) b]; rfl
    · cases h
  · cases h
theorem aFQ (S:Snd E T k n):∀ X C m e c,Kn X E T k C→xE (n + 1) C m e=some c→JE X E e (wpE T c):=by
  intro X C m e c K h
  unfold xE at h
  split at h
  · split at h
    · cases h
    · rename_i hs
      obtain ⟨a',h1,h⟩:=bnd h
      obtain ⟨b',h2,h⟩:=bnd h
      cases h
      simp only [Bool.or_eq_true,not_or,Bool.not_eq_true] at hs
      exact aHo K.pl (aFt K) (lM hs.1) (S.e X C false _ a' K h1) (S.e X C false _ b' K h2)
  · cases h
theorem aId (S:Snd E T k n):∀ X C e c,Kn X E T k C→xT (n + 1) C e=some c→JT X E e (wpT T c):=by
  intro X C e c K h
  unfold xT at h
  split at h
  · split at h
    · cases h
    · rename_i hs
      obtain ⟨a',h1,h⟩:=bnd h
      obtain ⟨b',h2,h⟩:=bnd h
      cases h
      simp only [Bool.or_eq_true,not_or,Bool.not_eq_true] at hs
      exact aH0 K.pl (aFt K) (lM hs.1) (S.e X C false _ a' K h1) (S.e X C false _ b' K h2)
  · cases h
theorem aIZ (S:Snd E T k n):∀ X C m e c,Kn X E T k C→cE (n + 1) C m e=some c→JE X E e (wpE T c):=by
  intro X C m e c K h
  unfold cE at h
  split at h
  · rename_i c2 hx
    cases h
    exact S.ze X C e _ K hx
  split at h
  · rename_i c2 hx
    cases h
    exact S.xe X C m e _ K hx
  split at h
  · -- a name
    split at h
    · rename_i hp
      obtain ⟨d1,d2⟩:=jB hp
      split at h
      · rename_i i hs
        split at h
        · rename_i hv
          cases h
          exact aGh (by rw [K.N]; exact bN hs) (K.vis hv) d1 d2
        · cases h
      · split at h
        · rename_i hg
          rw [Bool.and_eq_true,Bool.or_eq_true] at hg
          cases h
          rcases hg.2 with hh | hh
          · obtain ⟨u,v,h1,h2,h3⟩:=K.gf.gls _ (by simpa using hh)
            exact aIA (K.gl hg.1) h1 h2 h3 d1
          · obtain ⟨h1,⟨nn,h2,h3⟩,h4⟩:=K.gf.tys _ (by simpa using hh)
            exact aKh (K.gl hg.1) h1 h2 h3 h4 d1
        · cases h
    · cases h
  · split at h
    · cases h; exact aIE
    · cases h; exact aKi
    · cases h; exact aHY
    · cases h; exact aHP
    · cases h
  · obtain ⟨a',h1,h⟩:=bnd h
    obtain ⟨b',h2,h⟩:=bnd h
    cases h
    exact aGY K.pl (S.e X C false _ a' K h1) (S.e X C false _ b' K h2)
  · split at h
    · obtain ⟨a',h1,h⟩:=bnd h
      cases h
      exact aGF (S.e X C false _ a' K h1)
    · obtain ⟨a',h1,h⟩:=bnd h
      cases h
      exact aKx K.pl (S.e X C false _ a' K h1)
    · cases h
  · exact S.b X C _ _ c _ K h
  · split at h
    · split at h
      · cases h
      · rename_i hs
        obtain ⟨a',h1,h⟩:=bnd h
        obtain ⟨b',h2,h⟩:=bnd h
        cases h
        exact aHO K.pl (lM (by simpa using hs)) (S.e X C false _ a' K h1) (S.e X C false _ b' K h2)
    · split at h
      · cases h
      · rename_i hs
        obtain ⟨a',h1,h⟩:=bnd h
        obtain ⟨b',h2,h⟩:=bnd h
        obtain ⟨c',h3,h⟩:=bnd h
        cases h
        exact aFU K.pl (aER (by simpa using hs)) (S.e X C false _ a' K h1) (S.e X C false _ b' K h2) (S.e X C false _ c' K h3)
    · cases h
  · obtain ⟨es',h1,h⟩:=bnd h
    cases h
    exact aH1 (S.l X C _ es' K h1).1
  · obtain ⟨es',h1,h⟩:=bnd h
    cases h
    exact aGH (S.l X C _ es' K h1).1
  · split at h
    · obtain ⟨a',h1,h⟩:=bnd h
      obtain ⟨l',h2,h⟩:=bnd h
      obtain ⟨u',h3,h⟩:=bnd h
      cases h
      exact aFY K.pl (S.e X C false _ a' K h1) (S.o X C _ l' K h2) (S.o X C _ u' K h3)
    · split at h
      · cases h
      · rename_i hs
        obtain ⟨a',h1,h⟩:=bnd h
        obtain ⟨i',h2,h⟩:=bnd h
        cases h
        exact aFS K.pl (S.e X C false _ a' K h1) (S.e X C false _ i' K h2) (yC (by simpa using hs))
  · split at h
    · cases h
    · rename_i hs
      obtain ⟨a',h1,h⟩:=bnd h
      cases h
      exact aGo K.pl (S.e X C false _ a' K h1) (QT (by simpa using hs))
  · split at h
    · split at h
      · rename_i hg
        split at h
        · rename_i b hb
          split at h
          · rename_i hc
            obtain ⟨es',h1,h⟩:=bnd h
            cases h
            obtain ⟨a,st⟩:=S.l X C _ es' K h1
            obtain ⟨b1,b2,b3⟩:=aDq _ (dW hb)
            exact aHE K.pl (K.gl hg) (K.gf.blt _ (by simpa using hc)) b1 b2 b3 a (aV (st _ (List.mem_cons_self ..))) (fK fun y hy=>st y (List.mem_cons_of_mem _ hy))
          · cases h
        · split at h
          · rename_i s hf
            obtain ⟨es',h1,h⟩:=bnd h
            cases h
            exact ZZ S K hg (ks:=[]) rfl hf h1 WY
          · split at h
            · rename_i hc
              obtain ⟨es',h1,h⟩:=bnd h
              cases h
              rw [Bool.or_eq_true] at hc
              exact aBb S K hg hc h1
            · cases h
      · cases h
    · split at h
      · rename_i hg
        obtain ⟨ks,hk,h⟩:=bnd h
        split at h
        · rename_i s hf
          obtain ⟨es',h1,h⟩:=bnd h
          obtain ⟨ks',h2,h⟩:=bnd h
          cases h
          exact ZZ S K hg hk hf h1 (S.kk X C _ ks' K h2)
        · cases h
      · cases h
    · split at h
      · rename_i hg
        obtain ⟨ks,hk,h⟩:=bnd h
        obtain ⟨k1,k2,k3,k4⟩:=wL (pos:=_) (env:=X.env) hk
        split at h
        · rename_i s hf
          obtain ⟨ks',h2,h⟩:=bnd h
          cases h
          obtain ⟨hm,hp⟩:=CV hf
          simp only [Bool.and_eq_true,beq_iff_eq] at hp
          obtain ⟨⟨e1,e2⟩,e3⟩:=hp
          obtain ⟨ad,fd,ps,F,hb⟩:=K.gf.shs s hm
          rw [e1] at F
          rw [e2] at hb
          exact aCx F.ok (K.pl.room.mono (Nat.le_succ _)) (K.gl hg) F.mg F.kp hb F.db (S.kk X C _ ks' K h2) (by rw [e3]; exact k4) k1 (by rw [e3]; exact k2) (by rw [k3]; rfl)
        · split at h
          · rename_i s hf
            obtain ⟨ks',h2,h⟩:=bnd h
            cases h
            obtain ⟨hm,hp⟩:=CV hf
            simp only [Bool.and_eq_true,beq_iff_eq] at hp
            obtain ⟨e1,e3⟩:=hp
            obtain ⟨c,xi,ad,fd,ps,F,hb⟩:=K.gf.mkk s hm
            rw [e1] at F
            exact aC0 F.mkr F.ok K.pl.room (K.gl hg) F.mg hb F.ms F.db (S.kk X C _ ks' K h2) (by rw [e3]; exact k4) k1 (by rw [e3]; exact k2) (by rw [k3]; rfl)
          · cases h
      · cases h
    · cases h
  · split at h
    · split at h
      · rename_i hb
        rw [Bool.and_eq_true] at hb
        obtain ⟨it',h1,h⟩:=bnd h
        obtain ⟨tg',h2,h⟩:=bnd h
        obtain ⟨ts',h3,h⟩:=bnd h
        obtain ⟨el',h4,h⟩:=bnd h
        cases h
        obtain ⟨cl,B,KB⟩:=K.block hb.1
        exact aDD B K.pl (S.i X C _ _ it' K h1) (fun C0 s₀ H₀ ex=>S.g _ _ _ tg' (KB C0 s₀ H₀ ex) h2) (fun C0 s₀ H₀ ex=>S.ts _ _ _ ts' (KB C0 s₀ H₀ ex) h3) (fun C0 s₀ H₀ ex=>S.e _ _ false _ el' (KB C0 s₀ H₀ ex) h4) (tF (by simpa using hb.2))
      · cases h
    · cases h
  · cases h
theorem snd:∀ n,Snd E T k n
  | 0=>aMR
  | n + 1=>⟨aIZ (snd n),aFQ (snd n),aGN (snd n),aId (snd n),aLI (snd n),aLb (snd n),aKE (snd n),aLJ (snd n),aJB (snd n),aLv (snd n),aIz (snd n),aK3 (snd n),aIF (snd n),aJH (snd n)⟩
end
section
variable {X:Cx} {E:Ev} {T:Tb} {k:Nat} {C:Cfg}
theorem vI (K:Kn X E T k C):X.env.blockKind= .function:=by
  unfold Env.blockKind
  rw [K.kd]; rfl
noncomputable def aB2:Expr→Bool
  | .Tuple .. =>true
  | _=>false
noncomputable def LO:Expr→Bool
  | .Tuple vs _ _=> !(vs.all (foldedForSure 8))
  | _=>false
theorem aFV {ts:List Expr} {kt:Nat} {pt:Pos} {value:Expr} {env:Env} (h:aB2 value=false):swappedStores [.Tuple ts kt pt] value env=pure none:=by
  cases value <;> first | rfl | (cases h)
theorem aCM {ts vs:List Expr} {kt kv:Nat} {pt pv:Pos} {env:Env} (h:vs.all (foldedForSure 8)=true):swappedStores [.Tuple ts kt pt] (.Tuple vs kv pv) env=pure none:=by
  unfold swappedStores
  dsimp only
  split
  · rfl
  · split
    · rfl
    · split
      · rfl
      · first | rfl | rw [if_pos h]
theorem ZQ {ts:List Expr} {kt:Nat} {pt:Pos} {v:Expr} {env:Env} (h:¬LO v=true):swappedStores [.Tuple ts kt pt] v env=pure none:=by
  cases v with
  | Tuple vs kv pv =>
    refine aCM ?_
    cases e:vs.all (foldedForSure 8) with
    | true=>rfl
    | false=>exact absurd (show (!(vs.all (foldedForSure 8)))=true by rw [e]; rfl) h
  | _=>exact aFV rfl
theorem aG9 (K:Kn X E T k C) {x y:Str} {px py pt pt2:Pos} {kt k2:Nat} {a b:Expr} (hx:C.names.lookup x=some .local) (hy:C.names.lookup y=some .local) (hl:py.line=px.line) (hne:x≠y) (sa:bV a=false) (sb:bV b=false)
    (nf: [a,b].all (foldedForSure 8)=false) (nc: [a,b].all (constantsAlone 8)=false):swappedStores [.Tuple [.Name x px,.Name y py] kt pt] (.Tuple [a,b] k2 pt2) X.env=pure (some [x,y]):=by
  unfold swappedStores
  dsimp only
  have kx:(X.env.kindOf x == some .local)=true:=by unfold Env.kindOf; rw [K.nm,hx]; rfl
  have ky:(X.env.kindOf y == some .local)=true:=by unfold Env.kindOf; rw [K.nm,hy]; rfl
  have e:∀ e:Expr,bV e=false→(match e with | .Starred .. =>true | _=>false)=false:=fun e h=>by cases e <;> first | rfl | (cases h)
  have c1:(!([Expr.Name x px,Expr.Name y py].length == 2 || [Expr.Name x px,Expr.Name y py].length == 3) || [a,b].length != [Expr.Name x px,Expr.Name y py].length || X.env.blockKind != ScopeKind.function)=false:=by
    rw [vI K]; rfl
  rw [if_neg (by rw [c1]; exact Bool.false_ne_true)]
  have nm:([x,y]:List Str).eraseDups.length=2:=by
    have hb:(y == x)=false:=beq_eq_false_iff_ne.mpr (Ne.symm hne)
    simp [List.eraseDups_cons,hb]
  split
  · rename_i h2
    exfalso
    simp only [List.any_cons,List.any_nil,Bool.or_false,Bool.or_eq_true] at h2
    rcases h2 with h2 | h2
    · cases a <;> first | (cases h2; done) | (cases sa)
    · cases b <;> first | (cases h2; done) | (cases sb)
  · simp only [List.filterMap_cons,List.filterMap_nil,kx,ky,List.head?_cons,Option.map_some,Option.getD_some,Bool.true_and,Expr.pos,hl,beq_self_eq_true,if_true,List.length_cons,List.length_nil,nm,nf,nc]
    rfl
theorem aCL (K:Kn X E T k C) {x y z:Str} {px py pz pt pt2:Pos} {kt k2:Nat} {a b c:Expr} (hx:C.names.lookup x=some .local) (hy:C.names.lookup y=some .local) (hz:C.names.lookup z=some .local) (hl:py.line=px.line) (hl2:pz.line=px.line) (hne:x≠y) (hne2:x≠z) (hne3:y≠z) (sa:bV a=false) (sb:bV b=false) (sc:bV c=false)
    (nf: [a,b,c].all (foldedForSure 8)=false) (nc: [a,b,c].all (constantsAlone 8)=false):swappedStores [.Tuple [.Name x px,.Name y py,.Name z pz] kt pt] (.Tuple [a,b,c] k2 pt2) X.env=pure (some [x,y,z]):=by
  unfold swappedStores
  dsimp only
  have kx:(X.env.kindOf x == some .local)=true:=by unfold Env.kindOf; rw [K.nm,hx]; rfl
  have ky:(X.env.kindOf y == some .local)=true:=by unfold Env.kindOf; rw [K.nm,hy]; rfl
  have kz:(X.env.kindOf z == some .local)=true:=by unfold Env.kindOf; rw [K.nm,hz]; rfl
  have c1:(!([Expr.Name x px,Expr.Name y py,Expr.Name z pz].length == 2 || [Expr.Name x px,Expr.Name y py,Expr.Name z pz].length == 3) || [a,b,c].length != [Expr.Name x px,Expr.Name y py,Expr.Name z pz].length || X.env.blockKind != ScopeKind.function)=false:=by
    rw [vI K]; rfl
  rw [if_neg (by rw [c1]; exact Bool.false_ne_true)]
  have nm:([x,y,z]:List Str).eraseDups.length=3:=by
    have hb:(y == x)=false:=beq_eq_false_iff_ne.mpr (Ne.symm hne)
    have hb2:(z == x)=false:=beq_eq_false_iff_ne.mpr (Ne.symm hne2)
    have hb3:(z == y)=false:=beq_eq_false_iff_ne.mpr (Ne.symm hne3)
    simp [List.eraseDups_cons,hb,hb2,hb3]
  split
  · rename_i h2
    exfalso
    simp only [List.any_cons,List.any_nil,Bool.or_false,Bool.or_eq_true] at h2
    rcases h2 with h2 | h2 | h2
    · cases a <;> first | (cases h2; done) | (cases sa)
    · cases b <;> first | (cases h2; done) | (cases sb)
    · cases c <;> first | (cases h2; done) | (cases sc)
  · simp only [List.filterMap_cons,List.filterMap_nil,kx,ky,kz,List.head?_cons,Option.map_some,Option.getD_some,Bool.true_and,Expr.pos,hl,hl2,beq_self_eq_true,if_true,List.length_cons,List.length_nil,nm,nf,nc]
    rfl
theorem DI {N:List Str} {x y:Str} {i j:Nat} (h1:slot N x=some i) (h2:slot N y=some j) (hne:x≠y):i≠j:=fun e=>by
  subst e
  have a1:=bN h1
  have a2:=bN h2
  rw [a1] at a2
  exact hne (Option.some.inj a2)
noncomputable def aLn (C:Cfg):Expr→Bool
  | .Name x _=> !(C.names.lookup x == some .local)
  | _=>false
theorem aEF {α β:Type} {f:α→Option β}:∀ {l:List α},(∃ x∈l,f x=none)→(l.filterMap f).length < l.length
  | [],⟨_,h,_⟩=>nomatch h
  | a :: r,⟨x,h,e⟩=>by
    have le:(r.filterMap f).length≤r.length:=List.length_filterMap_le ..
    rcases List.mem_cons.mp h with z | z
    · subst z
      rw [List.filterMap_cons_none e,List.length_cons]; omega
    · have:=aEF ⟨x,z,e⟩
      cases ea:f a with
      | none=>rw [List.filterMap_cons_none ea,List.length_cons]; omega
      | some b=>rw [List.filterMap_cons_some ea,List.length_cons,List.length_cons]; omega
theorem aIl (K:Kn X E T k C) {ts:List Expr} {kt:Nat} {pt:Pos} {v:Expr} (hv:aB2 v=true) (h:ts.any (aLn C)=true):swappedStores [.Tuple ts kt pt] v X.env=pure none:=by
  cases v with
  | Tuple vs kv pv =>
    unfold swappedStores
    dsimp only
    split
    · rfl
    · split
      · rfl
      · rw [if_pos ?_]
        obtain ⟨x,hx,hc⟩:=List.any_eq_true.mp h
        rw [Bool.or_eq_true]
        refine .inl ?_
        rw [bne_iff_ne]
        refine Nat.ne_of_lt (aEF ⟨x,hx, ?_⟩)
        cases x with
        | Name y p =>
          dsimp only
          rw [if_neg]
          intro z
          rw [Bool.and_eq_true] at z
          have e1:X.env.kindOf y=C.names.lookup y:=by unfold Env.kindOf; rw [K.nm]
          rw [e1] at z
          have hc:(!(C.names.lookup y == some NameKind.local))=true:=hc
          rw [z.1] at hc
          cases hc
        | _=>cases hc
  | _=>cases hv
noncomputable def aAF (C:Cfg):Expr→Bool
  | .ListComp .. =>true
  | .List .. =>true
  | .Name x _=>C.ls.contains x
  | _=>false
noncomputable def yS (n:Nat) (C:Cfg) (s:Stmt):Option CS:=match s with
  | .Assign [.Tuple gs kt pt] v pos=>if aAF C v then (cE n C false v).bind fun v'=>(cGs n C gs).bind fun g'=>some (.asg (.gl gs.length g') v')
      else if aB2 v && gs.any (aLn C) then (cE n C false v).bind fun v'=>(cGs n C gs).bind fun g'=>some (.asg (.gt gs.length g') v') else none
  | .Assign [.Name x px] (.ListComp elt gens sc vp) pos=>if WI C x && C.names.lookup x == some .cell then (slot C.N x).bind fun i=>(cE n C (C.M.contains x) (.ListComp elt gens sc vp)).bind fun v'=>some (.asg (.gn i) v') else none
  | _=>none
theorem ME {X:Cx} {E:Ev} {T:Tb} {k:Nat} {C:Cfg} (K:Kn X E T k C) {x:Str} {px vp:Pos} {l:Nat} {elt:Expr} {gens:List Comprehension} {sc:Scope} (c3:(C.names.lookup x == some .cell)=true) :
    swapsWithSole [.Name x px] (.ListComp elt gens sc vp) l X.env=pure false:=by
  unfold swapsWithSole swapsWith
  dsimp only
  have e1:X.env.kindOf x=C.names.lookup x:=by unfold Env.kindOf; rw [K.nm]
  rw [vI K,e1,beq_iff_eq.mp c3]
  rfl
mutual
noncomputable def cS:Nat→Cfg→Stmt→Option CS
  | 0,_,_=>none
  | n + 1,C,s=>match yS n C s with
  | some c=>some c
  | none => match s with
    | .Expr e _=>(match e with
      | .Constant (.str _) _ _=>some .nil
      | e=>if wA e then none else (cE n C false e).bind fun e'=>some (.ex e'))
    | .Pass _=>some .nil
    | .Raise .. =>some .nev
    | .Return o _=>(match o with
      | none=>some .retN
      | some e=>(cE n C C.rm e).bind fun e'=>some (.ret e'))
    | .If c a b _=>(cT n C c).bind fun c'=>(cSs n C a).bind fun a'=>(cSs n C b).bind fun b'=>some (.iff c' a' b')
    | .While c b o _=>(match o with
      | []=>(cT n C c).bind fun c'=>some (.wh c' ((cSs n C b).getD .nev))
      | _=>none)
    | .For tg it b o _=>(match o with
      | []=>if sO it then none else (cI n C tg it).bind fun i'=>(cG n C tg).bind fun g'=>(cSs n C b).bind fun b'=>some (.fr g' i' b')
      | _=>none)
    | .Assign ts v pos=>(match ts with
      | [.Name x px]=>if WI C x then (slot C.N x).bind fun i=>(match v with
          | .ListComp elt gens sc vp=>(match gens with
            | [⟨tg,iter,ifs,0⟩]=>if OF C sc && !sO iter && C.names.lookup x == some .local && px.line == vp.line && !(sc.names.any fun y=>y.1 == x && (y.2 == .local || y.2 == .cell)) then
                (cI n C tg iter).bind fun it'=>(cG n (KN C sc) tg).bind fun tg'=>(cTs n (KN C sc) ifs).bind fun ts'=>(cE n (KN C sc) false elt).bind fun el'=>some (.asg (.gn i) (.cmpr (C.M.contains x) tg' it' ts' el' ((mN C sc.names).map (·.2))))
              else none
            | _=>none)
          | v=>if wA v then none else (cE n C (C.M.contains x) v).bind fun v'=>some (.asg (.gn i) v')) else none
      | [.Attribute o f _]=>if wA v then none else (cE n C false o).bind fun o'=>(cE n C false v).bind fun v'=>some (.fld o' f v')
      | [.Subscript o i _]=>if wA v || ZR i then none else (cE n C false o).bind fun o'=>(cE n C false i).bind fun i'=>(cE n C false v).bind fun v'=>some (.sub o' i' v')
      | [.Tuple gs kt pt]=>if LO v then (match gs,v with
          | [.Name x px,.Name y py],.Tuple [a,b] _ _=>if C.names.lookup x == some .local && C.names.lookup y == some .local && py.line == px.line && x != y && !bV a && !bV b && !([a,b].all (constantsAlone 8)) then
              (slot C.N x).bind fun i=>(slot C.N y).bind fun j=>(cE n C false a).bind fun a'=>(cE n C false b).bind fun b'=>some (.par i j a' b') else none
          | [.Name x px,.Name y py,.Name z pz],.Tuple [a,b,c] _ _=>if C.names.lookup x == some .local && C.names.lookup y == some .local && C.names.lookup z == some .local && py.line == px.line && pz.line == px.line && x != y && x != z && y != z && !bV a && !bV b && !bV c && !([a,b,c].all (constantsAlone 8)) then
              (slot C.N x).bind fun i=>(slot C.N y).bind fun j=>(slot C.N z).bind fun l=>(cE n C false a).bind fun a'=>(cE n C false b).bind fun b'=>(cE n C false c).bind fun c'=>some (.par3 i j l a' b' c') else none
          | _,_=>none)
        else if wA v then none else (cE n C false v).bind fun v'=>(cG n C (.Tuple gs kt pt)).bind fun g'=>some (.asg g' v')
      | _=>none)
    | _=>none
noncomputable def cSs:Nat→Cfg→List Stmt→Option CS
  | 0,_,_=>none
  | n + 1,C,l=>match l with
    | []=>some .nil
    | [s]=>cS n C s
    | s :: t :: r=>(cS n C s).bind fun s'=>(cSs n C (t :: r)).bind fun r'=>some (.seq s' r')
end
theorem sC {e:Expr} {t:Option Expr} {l:Nat} {env:Env} (h:wA e=false):swapsWith e t l env=pure false:=by
  cases e <;> first | rfl | (cases h)
theorem LD (K:Kn X E T k C) {x:Str} {px vp:Pos} {l:Nat} {elt:Expr} {gens:List Comprehension} {sc:Scope} (c3:(C.names.lookup x == some .local)=true) (c4:(px.line == vp.line)=true) (c5:(!(sc.names.any fun y=>y.1 == x && (y.2 == .local || y.2 == .cell)))=true) :
    swapsWith (.ListComp elt gens sc vp) (some (.Name x px)) l X.env=pure true:=by
  unfold swapsWith
  dsimp only
  have e1:X.env.kindOf x=C.names.lookup x:=by unfold Env.kindOf; rw [K.nm]
  rw [vI K,e1,c3]
  have e2:(!(sc.names.any fun (n,k)=>n == x && (k == .local || k == .cell)))=true:=by rw [←c5]
  show pure (true && true && (px.line == vp.line) && !(sc.names.any fun (n,k)=>n == x && (k == .local || k == .cell)))=pure true
  rw [c4,e2]; rfl
theorem nL {e t:Expr} {l:Nat} {env:Env} (h:wA e=false):swapsWithSole [t] e l env=pure false:=sC h
theorem aDv {o i:Expr} {pos':Pos} {env:Env} (h:ZR i=false) (v:Value):assign (.Subscript o i pos') env v=(do
      let ov ←holding [v] (eval o env)
      let iv ←holding [v,ov] (eval i env)
      standAt pos'
      holding [v,ov,iv] (setItem ov iv v)
      release [v,ov,iv] []):=by
  cases i <;> first | rfl | (cases h)
theorem QG {gs:List Expr} {kt:Nat} {pt:Pos} {v:Expr} {l:Nat} {env:Env} (h:aAF C v=true):swapsWithSole [.Tuple gs kt pt] v l env=pure false:=by
  cases v <;> first | rfl | (cases h)
theorem VF {gs:List Expr} {kt:Nat} {pt:Pos} {v:Expr} {l:Nat} {env:Env} (h:aB2 v=true):swapsWithSole [.Tuple gs kt pt] v l env=pure false:=by
  cases v <;> first | rfl | (cases h)
theorem WN {v:Expr} (h:aAF C v=true):¬LO v=true:=by
  cases v <;> first | (intro z; cases z; done) | (cases h)
structure Sns (E:Ev) (T:Tb) (k:Nat) (n:Nat):Prop where
  s:∀ X C s c,Kn X E T k C→cS n C s=some c→JS X E s (wpS T c)
  ss:∀ X C s c,Kn X E T k C→cSs n C s=some c→JSs X E s (wpS T c)
theorem aIp {n:Nat} (S:Sns E T k n):∀ X C l c,Kn X E T k C→cSs (n + 1) C l=some c→JSs X E l (wpS T c):=by
  intro X C l c K h
  unfold cSs at h
  split at h
  · cases h; exact aG2
  · exact aGz (S.s X C _ c K h)
  · obtain ⟨s',h1,h⟩:=bnd h
    obtain ⟨r',h2,h⟩:=bnd h
    cases h
    exact aHq (S.s X C _ s' K h1) (S.ss X C _ r' K h2)
theorem aJy {n:Nat} (S:Sns E T k n):∀ X C l c,Kn X E T k C→cS (n + 1) C l=some c→JS X E l (wpS T c):=by
  intro X C l c K h
  have R:Snd E T k n:=snd n
  unfold cS at h
  split at h
  · rename_i c2 hx
    cases h
    unfold yS at hx
    split at hx
    · split at hx
      · rename_i hl
        obtain ⟨v',h1,hx⟩:=bnd hx
        obtain ⟨g',h2,hx⟩:=bnd hx
        cases hx
        obtain ⟨ga,gb⟩:=R.gs X C _ g' K h2
        obtain ⟨l1,l2⟩:=vF (env:=X.env) gb
        exact xR (R.e X C _ _ v' K h1) (aHl K.pl ga l1 l2) (QG hl) (ZQ (WN hl)) rfl
      · split at hx
        · rename_i hl
          obtain ⟨hl1,hl2⟩:=Bool.and_eq_true_iff.mp hl
          obtain ⟨v',h1,hx⟩:=bnd hx
          obtain ⟨g',h2,hx⟩:=bnd hx
          cases hx
          obtain ⟨ga,gb⟩:=R.gs X C _ g' K h2
          obtain ⟨l1,l2⟩:=vF (env:=X.env) gb
          exact xR (R.e X C _ _ v' K h1) (UI K.pl ga l1 l2) (VF hl1) (aIl K hl1 hl2) rfl
        · cases hx
    · split at hx
      · rename_i hc
        obtain ⟨c1,c2⟩:=Bool.and_eq_true_iff.mp hc
        obtain ⟨l1,l2⟩:=K.loc c1
        obtain ⟨i,h1,hx⟩:=bnd hx
        obtain ⟨v',h2,hx⟩:=bnd hx
        cases hx
        exact xR (R.e X C _ _ v' K h2) (DV (by rw [K.N]; exact K.nd) (by rw [K.N]; exact bN h1) l1 l2) (ME K c2) rfl rfl
      · cases hx
    · cases hx
  split at h
  · split at h
    · cases h; exact aHr
    · split at h
      · cases h
      · rename_i hc
        obtain ⟨e',h1,h⟩:=bnd h
        cases h
        exact aIM (R.e X C false _ e' K h1) (sC (by simpa using hc))
  · cases h; exact aBV
  · cases h; exact aHH
  · split at h
    · cases h; exact aCG
    · obtain ⟨e',h1,h⟩:=bnd h
      cases h
      exact aGQ (R.e X C C.rm _ e' K h1)
  · obtain ⟨c',h1,h⟩:=bnd h
    obtain ⟨a',h2,h⟩:=bnd h
    obtain ⟨b',h3,h⟩:=bnd h
    cases h
    exact aKr (R.t X C _ c' K h1) (S.ss X C _ a' K h2) (S.ss X C _ b' K h3)
  · split at h
    · obtain ⟨c',h1,h⟩:=bnd h
      cases h
      refine aKX K.ps (R.t X C _ c' K h1) ?_
      cases h2:cSs n C _ with
      | none=>exact aCh
      | some b'=>exact S.ss X C _ b' K h2
    · cases h
  · split at h
    · split at h
      · cases h
      · rename_i hs
        obtain ⟨i',h1,h⟩:=bnd h
        obtain ⟨g',h2,h⟩:=bnd h
        obtain ⟨b',h3,h⟩:=bnd h
        cases h
        exact aG3 K.pl K.ps (R.i X C _ _ i' K h1) (R.g X C _ g' K h2) (S.ss X C _ b' K h3) (tF (by simpa using hs))
    · cases h
  · split at h
    · split at h
      · rename_i hl
        obtain ⟨i,h1,h⟩:=bnd h
        obtain ⟨l1,l2⟩:=K.loc hl
        split at h
        · split at h
          · split at h
            · rename_i hc
              rw [Bool.and_eq_true,Bool.and_eq_true,Bool.and_eq_true,Bool.and_eq_true] at hc
              obtain ⟨⟨⟨⟨c1,c2⟩,c3⟩,c4⟩,c5⟩:=hc
              obtain ⟨it',g1,h⟩:=bnd h
              obtain ⟨tg',g2,h⟩:=bnd h
              obtain ⟨ts',g3,h⟩:=bnd h
              obtain ⟨el',g4,h⟩:=bnd h
              cases h
              obtain ⟨cl,B,KB⟩:=K.block c1
              refine aDF B K.pl (by rw [K.N]; exact K.nd) (by rw [K.N]; exact bN h1) (by rw [K.nm]; exact beq_iff_eq.mp c3) (R.i X C _ _ it' K g1) (fun C0 s₀ H₀ ex=>R.g _ _ _ tg' (KB C0 s₀ H₀ ex) g2) (fun C0 s₀ H₀ ex=>R.ts _ _ _ ts' (KB C0 s₀ H₀ ex) g3) (fun C0 s₀ H₀ ex=>R.e _ _ false _ el' (KB C0 s₀ H₀ ex) g4) ?_ (tF (by simpa using c2))
              exact LD K c3 c4 c5
            · cases h
          · cases h
        · split at h
          · cases h
          · rename_i hc
            obtain ⟨v',h2,h⟩:=bnd h
            cases h
            exact xR (R.e X C _ _ v' K h2) (DV (by rw [K.N]; exact K.nd) (by rw [K.N]; exact bN h1) l1 l2) (nL (by simpa using hc)) rfl rfl
      · cases h
    · split at h
      · cases h
      · rename_i hc
        obtain ⟨o',h1,h⟩:=bnd h
        obtain ⟨v',h2,h⟩:=bnd h
        cases h
        exact aHh K.pl (R.e X C _ _ o' K h1) (R.e X C _ _ v' K h2) (sC (by simpa using hc))
    · split at h
      · cases h
      · rename_i hc
        obtain ⟨hc1,hc2⟩:=or2 hc
        obtain ⟨o',h1,h⟩:=bnd h
        obtain ⟨i',h2,h⟩:=bnd h
        obtain ⟨v',h3,h⟩:=bnd h
        cases h
        exact aGL (R.e X C _ _ v' K h3) (R.e X C _ _ o' K h1) (R.e X C _ _ i' K h2) (aDv hc2) (nL hc1) rfl
    · split at h
      · split at h
        · split at h
          · rename_i hc
            simp only [Bool.and_eq_true,Bool.not_eq_true',beq_iff_eq,bne_iff_ne,ne_eq] at hc
            obtain ⟨⟨⟨⟨⟨⟨c1,c2⟩,c3⟩,c4⟩,c5⟩,c6⟩,c7⟩:=hc
            obtain ⟨i,g1,h⟩:=bnd h
            obtain ⟨j,g2,h⟩:=bnd h
            obtain ⟨a',g3,h⟩:=bnd h
            obtain ⟨b',g4,h⟩:=bnd h
            cases h
            have ij:i≠j:=fun e=>by
              subst e
              have a1:=bN g1
              have a2:=bN g2
              rw [a1] at a2
              exact c4 (Option.some.inj a2)
            exact aGR K.pl (by rw [K.N]; exact K.nd) (by rw [K.N]; exact bN g1) (by rw [K.N]; exact bN g2) ij (by rw [K.nm]; exact c1) (by rw [K.nm]; exact c2) (R.e X C _ _ a' K g3) (R.e X C _ _ b' K g4) (aV c5) (aV c6) (aG9 K c1 c2 c3 c4 c5 c6 (by have hf:= ‹LO _=true›; unfold LO at hf; exact Bool.not_eq_true' _▸hf) c7) rfl
          · cases h
        · split at h
          · rename_i hc
            simp only [Bool.and_eq_true,Bool.not_eq_true',beq_iff_eq,bne_iff_ne,ne_eq] at hc
            obtain ⟨⟨⟨⟨⟨⟨⟨⟨⟨⟨⟨c1,c2⟩,c3⟩,c4⟩,c5⟩,c6⟩,c7⟩,c8⟩,c9⟩,c10⟩,c11⟩,c12⟩:=hc
            obtain ⟨i,g1,h⟩:=bnd h
            obtain ⟨j,g2,h⟩:=bnd h
            obtain ⟨l,g3,h⟩:=bnd h
            obtain ⟨a',g4,h⟩:=bnd h
            obtain ⟨b',g5,h⟩:=bnd h
            obtain ⟨c',g6,h⟩:=bnd h
            cases h
            exact aC4 K.pl (by rw [K.N]; exact K.nd) (by rw [K.N]; exact bN g1) (by rw [K.N]; exact bN g2) (by rw [K.N]; exact bN g3) (DI g1 g2 c6) (DI g1 g3 c7) (DI g2 g3 c8) (by rw [K.nm]; exact c1) (by rw [K.nm]; exact c2) (by rw [K.nm]; exact c3) (R.e X C _ _ a' K g4) (R.e X C _ _ b' K g5) (R.e X C _ _ c' K g6) (aV c9) (aV c10) (aV c11)
              (aCL K c1 c2 c3 c4 c5 c6 c7 c8 c9 c10 c11 (by have hf:= ‹LO _=true›; unfold LO at hf; exact Bool.not_eq_true' _▸hf) c12) rfl
          · cases h
        · cases h
      · rename_i hf
        split at h
        · cases h
        · rename_i hc
          obtain ⟨v',h1,h⟩:=bnd h
          obtain ⟨g',h2,h⟩:=bnd h
          cases h
          exact xR (R.e X C _ _ v' K h1) (R.g X C _ g' K h2) (nL (by simpa using hc)) (ZQ hf) rfl
    · cases h
  · cases h
theorem sns:∀ n,Sns E T k n
  | 0=>⟨(fun X C s c K h=>by unfold cS at h; cases h),(fun X C s c K h=>by unfold cSs at h; cases h)⟩
  | n + 1=>⟨aJy (sns n),aIp (sns n)⟩
end
structure aY (K:W.Frag) (x qual:Str) (st:Stmt) (dV:Value) (f:Addr) (fd:FuncData):Prop where
  ex :∃ (oc:Value) (od:Option Addr) (kV doc pm:Value) (an:Option Addr) (cdv ct:Value) (osl:Array (Option Value)),
    fd=W.fnOf x qual (fN st) (aB st) (aA st) dV kV doc pm an cdv ct∧K.lookup f=some ⟨oc,od,.func fd,osl⟩∧W.codeIn K cdv qual=true
  kp:W.keepIn K (.ref f)=true
noncomputable def Wk (Q:PK1):PK1:=fun x G=>∃ G2:Gh,(∀ a o,G2 a=some o→G a=some o)∧(Q x G2∨∃ p xs,x= .ref p∧G2 p=none∧G p=some (.lst xs)∧Q (.lst xs) G2)
theorem Wk.here {Q:PK1} {x:PV} {G:Gh} (q:Q x G):Wk Q x G:=⟨G,fun _ _ z=>z,.inl q⟩
theorem Wk.of {Q:PK1} {x:PV} {G G2:Gh} (q:Q x G2) (h:∀ a o,G2 a=some o→G a=some o):Wk Q x G:=⟨G2,h,.inl q⟩
theorem Wk.frz {Q:PK1} {p:Addr} {xs:List PV} {G G2:Gh} (hG:G p=some (.lst xs)) (q:Q (.lst xs) G2) (h:∀ a o,G2 a=some o→G a=some o) (n:G2 p=none):Wk Q (.ref p) G:=⟨G2,h,.inr ⟨p,xs,rfl,n,hG,q⟩⟩
theorem aBc {E:Ev} {F Z Z1 H1:Hp} {G1:Gh} {Q':PK1} {Q:VK} {y:PV} {v:V} (kq:Kq E F Z Q' Q) (s1:aR Z Z1) (S1:Sim E F H1 Z1 G1) (r1:RP E Z1 y v) (w:Wk Q' y G1):Q v H1:=by
  obtain ⟨G2,hG,q1 | ⟨p,xs,e,n,hp,q1⟩⟩:=w
  · exact kq _ _ _ _ _ s1 (S1.weak hG) r1 q1
  · subst e
    have e:v= .ref p:=r1
    subst e
    obtain ⟨z,o',ho,vs,e,t⟩:=S1.g _ _ hp
    subst e
    refine kq _ _ _ _ _ (s1.trans (cM z _)) ((S1.frz hp ho).weak fun a o q=>?_) (mJ z t) q1
    by_cases ea:a=p
    · subst ea; rw [n] at q; cases q
    · rw [EJ ea]; exact hG a o q
noncomputable def aM (Q:PK1):hJ:=⟨fun _ G=>Wk Q .non G,Wk Q,fun _ _=>False,fun _ _=>False⟩
structure aI (st:Stmt) (ps:List Str) (C:Cfg):Prop where
  sc:vL C.N ps (aA st)
  nm:(aA st).names=C.names
  bk:C.blk=false
structure Ck (K:W.Frag) (E:Ev) (T:Tb):Prop where
  hK:E.K=K
  cls:UU E T.cs
  fld:∀ c f,(c,f)∈T.fl→Cls K (E.cls c)∧gF K (E.cls c) f
theorem aJ {P:Program} {w:World} {K:W.Frag} {mg:Str→Option Value} {base:Heap} {E:Ev} {T:Tb} {k n:Nat} {C:Cfg} {x qual:Str} {st:Stmt} {dV:Value} {f:Addr} {fd:FuncData} {ps:List Str} {sp:Sp3} {code:CS}
    (F:aY K x qual st dV f fd) (D:aI st ps C) (ck:Ck K E T) (gf:Gf P w K mg base E T k C) (hc:cSs n C (aB st)=some code)
    (len:∀ xs G Q,sp xs G Q→xs.length=ps.length) (hw:∀ xs G Q,sp xs G Q→wpS T code (aM Q) (aC C.N.length xs) G):cJ P w K mg base CX0 (k + 2) f fd ps (fA E sp):=by
  obtain ⟨oc,od,kV,doc,pm,an,cdv,ct,osl,e,lk,hcd⟩:=F.ex
  subst e
  refine aEI lk hcd D.sc (fun vs H Q E' ⟨xs,Z,G,F',Q',r,S,q,kq⟩=>by rw [←r.length]; exact len xs G Q' q) fun A outer s H vs Q E' hr hsp=>?_
  obtain ⟨xs,Z,G,F',Q',r,S,q,kq⟩:=hsp
  have kn:Kn (JV CX0 P w K mg base C.N qual (aA st) f cdv A outer s H E').nox E T k C:=by
    refine ⟨⟨ck.hK,rfl,hr,ck.cls,ck.fld⟩,rfl,D.sc.nd,D.nm,D.sc.kind,fun _ _=>rfl,fun y hy=>?_,PassesOwn.never,gf⟩
    exact vZ (n:=s.heap.objs.size + 1) (by rw [D.nm]; exact hy)
  have js:=(sns n).ss _ C _ code kn hc F'
  refine ⟨_,js.nox,aC C.N.length xs,Z,G,aM Q',RSt.start r,S,hw xs G Q' q,⟨?_, ?_, ?_, ?_⟩⟩
  · rintro σ1 σ2 Z1 G1 H1 s1 S1 rs1 w
    exact aBc kq s1 S1 xK w
  · rintro y v Z1 G1 H1 s1 S1 r1 w
    exact aBc kq s1 S1 r1 w
  · rintro σ1 σ2 Z1 G1 H1 s1 S1 rs1 z; exact z
  · rintro σ1 σ2 Z1 G1 H1 s1 S1 rs1 z; exact z
noncomputable def EW:Sp3:=fun xs G Q=>∃ ns:List Int,xs=[.scr ns]∧ns.length≤63∧∀ G',Q (.bl true) G'
noncomputable def NN (K:W.Frag):Sp:=fun vs H Q _=>∃ (p:Addr) (ns:List Int),vs=[.ref p]∧SqL K H p (ns.map V.int)∧ns.length≤63∧∀ H',Q (.bl true) H'
theorem aGK {E:Ev} {vs:List V} {H:Hp} {Q:VK} {X:XK} (h:NN E.K vs H Q X):fA E EW vs H Q X:=by
  obtain ⟨p,ns,e,hS,hl,q⟩:=h
  subst e
  refine ⟨[.scr ns],H,fun _=>none,fun _=>none,fun x _=>x= .bl true,⟨.ref p,[],rfl,⟨p,rfl,hS⟩,rfl⟩,⟨aR.refl H,(fun a o z=>nomatch z),(fun a o z=>nomatch z)⟩,⟨ns,rfl,hl,fun _=>rfl⟩, ?_⟩
  intro x v Z1 G1 H1 s1 S1 r1 e
  subst e
  have e:v= .bl true:=r1
  subst e
  exact q H1
theorem QC {K:W.Frag} {H:Hp} {a:Addr} {ns:List Int} (hl:ns.length≤63) (_:XX H) (h:SqL K H a (ns.map V.int)):NN K [.ref a] H (fun v _=>v= .bl true) fun _ _ _=>False:=⟨a,ns,rfl,h,hl,fun _=>rfl⟩
theorem aD {K:W.Frag} {x qual:Str} {st:Stmt} {f:Addr} {oc:Value} {od an:Option Addr} {osl:Array (Option Value)} {dV kV doc pm cdv ct:Value} (l:K.lookup f=some ⟨oc,od,.func (W.fnOf x qual (fN st) (aB st) (aA st) dV kV doc pm an cdv ct),osl⟩)
    (c:W.codeIn K cdv qual=true) (k:W.keepIn K (.ref f)=true):aY K x qual st dV f (W.fnOf x qual (fN st) (aB st) (aA st) dV kV doc pm an cdv ct):=⟨⟨oc,od,kV,doc,pm,an,cdv,ct,osl,rfl,l,c⟩,k⟩
theorem aY.binds {K:W.Frag} {x qual:Str} {st:Stmt} {dV:Value} {f:Addr} {fd:FuncData} {ps:List Str} (F:aY K x qual st dV f fd)
    (h:∀ (kV doc pm:Value) (an:Option Addr) (cdv ct:Value) (s:Shared) (us:List Value),K.In s.heap→us.length=ps.length→BindsTo s (W.fnOf x qual (fN st) (aB st) (aA st) dV kV doc pm an cdv ct) ⟨us,[]⟩ (ps.zip us)):L2.aE K fd ps []:=by
  obtain ⟨oc,od,kV,doc,pm,an,cdv,ct,osl,rfl,lk,hcd⟩:=F.ex
  intro s us hK hl
  rw [List.append_nil] at hl ⊢
  exact h kV doc pm an cdv ct s us hK hl
theorem aY.sh {K:W.Frag} {x qual:Str} {st:Stmt} {dV:Value} {f:Addr} {fd:FuncData} {ps:List Str} {n:Nat} {ks:List Str} {ar:List Ar} (F:aY K x qual st dV f fd) (hl:ar.length=ps.length)
    (h:∀ (kV doc pm:Value) (an:Option Addr) (cdv ct:Value) (s:Shared) (us ws:List Value),K.In s.heap→us.length=n→ws.length=ks.length→∃ bs,BindsTo s (W.fnOf x qual (fN st) (aB st) (aA st) dV kV doc pm an cdv ct) ⟨us,ks.zip ws⟩ (ps.zip bs)∧∀ vs zs,aG vs us→aG zs ws→aG (ar.map (Ar.valV (vs ++ zs))) bs):jI K fd ps n ks ar:=by
  obtain ⟨oc,od,kV,doc,pm,an,cdv,ct,osl,rfl,lk,hcd⟩:=F.ex
  exact ⟨hl,h kV doc pm an cdv ct⟩
theorem ac {α:Type} {P:α→Prop} {x:α} {l:List α} (h:P x) (t:∀ y∈l,P y):∀ y∈x :: l,P y:=List.forall_mem_cons.mpr ⟨h,t⟩
theorem an {α:Type} {P:α→Prop}:∀ y∈([]:List α),P y:=fun _ h=>nomatch h
theorem MP {E:Ev} {mg:Str→Option Value} {x:Str} {i:Int} {t:Tok} (h:mg x=some (.int i t)):∃ u v,mg x=some u∧aL v u∧RP E (fun _=>none) (.int i) v:=⟨_,.int i,h,⟨t,rfl⟩,rfl⟩
theorem ER {E:Ev} {mg:Str→Option Value} {x:Str} {c:String} {a:Addr} (h:mg x=some (.ref a)) (e:E.cls c=a):∃ u v,mg x=some u∧aL v u∧RP E (fun _=>none) (.cl c) v:=⟨_,.ref a,h,rfl,by rw [←e]; rfl⟩
theorem oJ {E:Ev} {K:W.Frag} {mg:Str→Option Value} {x:Str} {a:Addr} {i j:Int} {t u:Tok} {n:Nat} {sl:Array (Option Value)} (hK:E.K=K) (h:mg x=some (.ref a)) (l:K.lookup a=some ⟨.type "tuple",none,.seq #[.int i t,.int j u] n,sl⟩):∃ u v,mg x=some u∧aL v u∧RP E (fun _=>none) (.tup [.int i,.int j]) v :=
  ⟨_,.ref a,h,rfl,a,[.int i,.int j],rfl,.inr ⟨_,_,_,by rw [hK]; exact l,rfl,rfl,by show 2≤sizeLine; decide,.cons ⟨t,rfl⟩ (.cons ⟨u,rfl⟩ .nil),rfl⟩,_,_,rfl,rfl,_,_,rfl,rfl,rfl⟩
theorem rH {E:Ev} {mg:Str→Option Value} {x:Str} {y z:PV} (h:∃ u v,mg x=some u∧aL v u∧RP E (fun _=>none) y v) (e:z=y):∃ u v,mg x=some u∧aL v u∧RP E (fun _=>none) z v:=e▸h
noncomputable def pJ (K:W.Frag) (a:Addr) (ns:List Int):Prop:= ∃ us n sl,K.lookup a=some ⟨.type "tuple",none,.seq us.toArray n,sl⟩∧aG (ns.map V.int) us
theorem pJ.rp {E:Ev} {K:W.Frag} {a:Addr} {ns:List Int} (hK:E.K=K) (h:pJ K a ns) (hz:(ns.map V.int).length≤sizeLine):RP E (fun _=>none) (.tup (ns.map PV.int)) (.ref a):=by
  obtain ⟨us,n,sl,l,r⟩:=h
  exact ⟨a,ns.map V.int,rfl,.inr ⟨_,_,_,by rw [hK]; exact l,rfl,rfl,by show us.length≤sizeLine; rw [←r.length]; exact hz,r,rfl⟩,RPs.ofInts ns⟩
theorem aB8 {E:Ev} {K:W.Frag} {mg:Str→Option Value} {x:Str} {a:Addr} {xs:List PV} {us:List Value} {vs:List V} {n:Nat} {sl:Array (Option Value)} (hK:E.K=K) (h:mg x=some (.ref a)) (l:K.lookup a=some ⟨.type "tuple",none,.seq us.toArray n,sl⟩) (r:aG vs us) (hz:vs.length≤sizeLine)
    (rp:RPs E (fun _=>none) xs vs):∃ u v,mg x=some u∧aL v u∧RP E (fun _=>none) (.tup xs) v:=⟨_,.ref a,h,rfl,a,vs,rfl,.inr ⟨_,_,_,by rw [hK]; exact l,rfl,rfl,by show us.length≤sizeLine; rw [←r.length]; exact hz,r,rfl⟩,rp⟩
end L3
namespace L3
open PySem PySem.W PyProof.Rows
theorem aJt {p q:Program} {loose:List Str} {Xt:Shared→Bool} {α:Type} {Yf:Shared→α} {Ya:World→α} {N:Nat} {g0:Bool} {H₀:Params→Heap} {gs₀:Array GenState} {d₀:Drawn} {k₀ m₀:Nat} {ann:Option Value} {M:Nat}
    (open_:∀ w:World,(fencedOpening treeTable p w N).map (fun s=>(s.heap,s.gens,s.drawn,s.toks))=some (H₀ w.params,gs₀,d₀,k₀))
    (size:∀ w:World,((H₀ w.params).isNs mainGlobals && gs₀.size == 0,(H₀ w.params).objs.size,(H₀ w.params).nsMap mainGlobals "__annotations__")=(true,m₀,ann)) (le:Nat.ble M N=true)
    (run:∀ (w:World) (os:OsState),∃ s₁,topRun treeTable p w m₀ ann M ⟨H₀ w.params,gs₀,d₀,k₀,os⟩ (topStub p)=some s₁∧
      (staticsOk (importedModules p.main.body) (H₀ w.params) s₁.heap && namesBound p s₁.heap && gensDone s₁ && laidKept (H₀ w.params) s₁.heap,openSeen q loose (importedModules p.main.body) Xt g0 s₁,Yf s₁)=(true,openGood q loose,Ya w)):LeftO p q loose Xt Yf Ya N g0:=fun w=>by
  obtain ⟨⟨h,gs,d,k,os⟩,e,e'⟩:=Option.map_eq_some_iff.mp (open_ w)
  obtain ⟨rfl,rfl,rfl,rfl⟩:h=H₀ w.params∧gs=gs₀∧d=d₀∧k=k₀:=by simpa using e'
  obtain ⟨z1,z2,z3⟩:_∧_∧_:=by simpa only [Prod.mk.injEq] using size w
  obtain ⟨s₁,r,l⟩:=run w os
  obtain ⟨l1,l2,l3⟩:_∧_∧_:=by simpa only [Prod.mk.injEq] using l
  have r:=topRun_mono (N - M) _ _ _ _ r
  rw [show M + (N - M)=N by have:=Nat.le_of_ble_eq_true le; omega] at r
  have t:topFrom treeTable p w N ⟨H₀ w.params,gs,d,k,os⟩=some s₁:=by
    unfold topFrom
    dsimp only
    rw [z1,z2,z3,r]
    show (match staticsOk (importedModules p.main.body) (H₀ w.params) s₁.heap && namesBound p s₁.heap && gensDone s₁ && laidKept (H₀ w.params) s₁.heap with | true=>_ | false=>_)=_
    rw [l1]
  unfold openEnds
  rw [e]
  show (topFrom treeTable p w N _).map _=_
  rw [t]
  exact congrArg some (Prod.ext l2 l3)
noncomputable def aJl (o:Option (Shared×Thread)) (s:Shared):Shared:=match o with | some x=>x.1 | none=>s
noncomputable def aK0 (o:Option (Flow×Shared×Code×Pos)) (s:Shared):Shared:=match o with | some x=>x.2.1 | none=>s
end L3
namespace L3
open PySem PySem.Spec
open PyProof.Rows hiding St
open L2
section
variable {G:Gh} {Q:PK1} {x y:PV} {i j:Int} {s:Str} {b c:Bool} {a:Addr}
theorem iM {C:Int→Int→Prop} {g:Int→Int→PV}:pI C g (.int i) (.int j) G Q=(C i j∧Q (g i j) G):=rfl
theorem gQ:EZ .Add=LC:=rfl
theorem lF:EZ .Sub=pI (fun _ _=>True) fun i j=>.int (i - j):=rfl
theorem mB:EZ .Mult (.int i) (.int j) G Q=(BB i j∧Q (.int (i * j)) G):=rfl
theorem XW {xs:List PV}:EZ .Mult (.tup xs) (.int j) G Q=(xs≠ []∧1≤j∧xs.length * j.toNat≤10000∧Q (.tup (List.replicate j.toNat xs).flatten) G):=rfl
theorem oZ:EZ .FloorDiv=pI AW fun i j=>.int (i / j):=rfl
theorem lI:EZ .Mod=pI OA fun i j=>.int (i % j):=rfl
theorem UF:EZ .Pow=pI VO fun i j=>.int (i ^ j.toNat):=rfl
theorem gX:LC (.int i) (.int j) G Q=Q (.int (i + j)) G:=rfl
theorem aLt {t:Str}:LC (.str s) (.str t) G Q=(s.length + t.length≤sizeLine∧Q (.str (s ++ t)) G):=rfl
theorem aJq {xs ys:List PV}:LC (.tup xs) (.tup ys) G Q=(xs≠ []∧ys≠ []∧xs.length + ys.length≤sizeLine∧Q (.tup (xs ++ ys)) G):=rfl
theorem DB:mM .Lt=pI (fun _ _=>True) fun i j=>.bl (decide (i < j)):=rfl
theorem OG:mM .LtE=pI (fun _ _=>True) fun i j=>.bl (decide (i≤j)):=rfl
theorem vG:mM .Gt=pI (fun _ _=>True) fun i j=>.bl (decide (j < i)):=rfl
theorem DT:mM .GtE=pI (fun _ _=>True) fun i j=>.bl (decide (j≤i)):=rfl
theorem eG:mM .Eq=pEq false:=rfl
theorem CT:mM .NotEq=pEq true:=rfl
theorem oH:mM .Is=pIs false:=rfl
theorem aKe:mM .IsNot=pIs true:=rfl
theorem gP:pEq false (.int i) (.int j) G Q=Q (.bl (decide (i=j))) G:=by
  show (true=true∧true=true∧Q (.bl (i == j)) G)=_
  simp only [true_and]; congr 2
theorem vY:pEq true (.int i) (.int j) G Q=Q (.bl (!decide (i=j))) G:=by
  show (true=true∧true=true∧Q (.bl (!(i == j))) G)=_
  simp only [true_and]; congr 2
theorem cX {R:Bool→Gh→Prop}:BQ (.bl b) G R=R b G:=rfl
theorem aI9 {R:Bool→Gh→Prop}:BQ .non G R=R false G:=rfl
theorem aKU {R:Bool→Gh→Prop} {xs:List PV}:BQ (.tup xs) G R=R (!xs.isEmpty) G:=rfl
theorem IC:aGp (.int i) G Q=Q (.int (-i)) G:=rfl
theorem rN:pIs false .non .non G Q=Q (.bl true) G:=propext ⟨fun h=>h.elim (fun z=>z.2) (fun z=>absurd rfl z.1),fun h=>.inl ⟨rfl,h⟩⟩
theorem BS (h:x≠.non):pIs false x .non G Q=Q (.bl false) G:=propext ⟨fun z=>z.elim (fun z=>absurd z.1 h) (fun z=>z.2),fun q=>.inr ⟨h,q⟩⟩
theorem eL {xs:List PV}:xB (.tup xs) (.int i) G Q=(∃ v,atI xs i=some v∧Q v G):=rfl
theorem aAG {ns:List Int}:xB (.scr ns) (.int i) G Q=(∃ n,atI ns i=some n∧Q (.int n) G):=rfl
theorem lZ {xs:List PV}:xB (.lst xs) (.int i) G Q=(∃ v,atI xs i=some v∧Q v G):=by
  show (∃ ys v,some xs=some ys∧_)=_
  exact propext ⟨fun ⟨_,v,e1,h⟩=>by cases e1; exact ⟨v,h⟩,fun ⟨v,h⟩=>⟨_,v,rfl,h⟩⟩
theorem mG {xs:List PV} (h:G a=some (.lst xs)):dR G (.ref a)=some xs:=by unfold dR; dsimp only; rw [h]
theorem tH {xs:List PV}:dR G (.lst xs)=some xs:=rfl
theorem aAM {xs:List PV} (h:G a=some (.lst xs)):xB (.ref a) (.int i) G Q=(∃ v,atI xs i=some v∧Q v G):=by
  show (∃ ys v,dR G (.ref a)=some ys∧_)=_
  rw [mG h]
  exact propext ⟨fun ⟨_,v,e1,h⟩=>by cases e1; exact ⟨v,h⟩,fun ⟨v,h⟩=>⟨_,v,rfl,h⟩⟩
theorem JB {xs:List PV}:xB (.ref a) (.int i) (gup G a (.lst xs)) Q=(∃ v,atI xs i=some v∧Q v (gup G a (.lst xs))):=aAM bA
theorem pP {xs:List PV} {v:PV} {R:Gh→Prop} (h:G a=some (.lst xs)):aB4 (.ref a) (.int i) v G R=(∃ j,ixN xs.length i=some j∧R (gup G a (.lst (xs.set j v)))):=propext
  ⟨fun ⟨_,_,_,j,e1,e2,e3,e4,r⟩=>by cases e1; cases e2; rw [h] at e3; cases e3; exact ⟨j,e4,r⟩,fun ⟨j,e4,r⟩=>⟨_,_,_,j,rfl,rfl,h,e4,r⟩⟩
theorem aBo {xs:List PV} {v:PV} {R:Gh→Prop}:aB4 (.ref a) (.int i) v (gup G a (.lst xs)) R=(∃ j,ixN xs.length i=some j∧R (gup G a (.lst (xs.set j v)))):=by
  rw [pP bA]; simp only [vM]
variable {cs:List String}
theorem lE {xs:List PV}:eW cs .len [.tup xs] G Q=Q (.int xs.length) G:=by
  refine propext ⟨fun h=>?_,fun q=>.inl ⟨_,rfl,q⟩⟩
  rcases h with ⟨ys,e,q⟩ | ⟨ys,e,q⟩ | ⟨z,e,_⟩ | ⟨ys,e,q⟩
  · cases e; exact q
  · cases e
  · cases e
  · cases e
theorem HW {xs:List Int}:eW cs .len [.scr xs] G Q=Q (.int xs.length) G:=by
  refine propext ⟨fun h=>?_,fun q=>.inr (.inl ⟨_,rfl,q⟩)⟩
  rcases h with ⟨ys,e,q⟩ | ⟨ys,e,q⟩ | ⟨z,e,_⟩ | ⟨ys,e,q⟩
  · cases e
  · cases e; exact q
  · cases e
  · cases e
theorem GT:eW cs .abs [.int i] G Q=Q (.int (i.natAbs:Int)) G:=rfl
theorem GQ:eW cs .max [.int i,.int j] G Q=Q (.int (max i j)) G:=rfl
theorem YT:eW cs .min [.int i,.int j] G Q=Q (.int (min i j)) G:=rfl
theorem aLu:eW cs .int [.int i] G Q=Q (.int i) G:=rfl
theorem aBQ:eW cs .int [.bl b] G Q=Q (.int (if b then 1 else 0)) G:=rfl
theorem EK {n T:String} (h:sQ x G=some n):eW cs .isi [x,.ty T] G Q=(T∈pA∧Q (.bl (zM n T)) G):=propext
  ⟨fun ⟨hT,h'⟩=>⟨hT,by
    rcases h' with ⟨m,e,q⟩ | ⟨c,e,_,q⟩
    · rw [h] at e; cases e; exact q
    · exfalso; cases x <;> first | (cases e; done) | skip
      · cases h
      · unfold sQ at h; unfold TN at e; dsimp only at h e
        split at h
        · rename_i q; rw [q] at e; cases e
        · cases h⟩,fun ⟨hT,q⟩=>⟨hT,.inl ⟨n,h,q⟩⟩⟩
theorem aKd:sQ (.int i) G=some "int":=rfl
theorem aLT:sQ (.bl b) G=some "bool":=rfl
theorem aLy:sQ (.str s) G=some "str":=rfl
theorem aKM:sQ .non G=some "NoneType":=rfl
theorem aKC {xs:List PV}:sQ (.tup xs) G=some "tuple":=rfl
theorem aK9 {xs:List PV}:sQ (.lst xs) G=some "list":=rfl
theorem aBu {T:String}:eW cs .isi [.int i,.ty T] G Q=(T∈pA∧Q (.bl (zM "int" T)) G):=EK rfl
theorem yJ {T:String} {xs:List PV}:eW cs .isi [.tup xs,.ty T] G Q=(T∈pA∧Q (.bl (zM "tuple" T)) G):=EK rfl
theorem aDJ {c:String} {ns:List Str} {xs:List PV}:eW cs .isi [.ob c ns xs,.cl c] G Q=(c∈cs∧Q (.bl true) G):=propext
  ⟨fun ⟨hc,h'⟩=>⟨hc,by
    rcases h' with ⟨m,e,q⟩ | ⟨c',e,_,q⟩
    · cases e
    · cases e; rw [decide_eq_true rfl] at q; exact q⟩,fun ⟨hc,q⟩=>⟨hc,.inr ⟨c,rfl,hc,by rw [decide_eq_true rfl]; exact q⟩⟩⟩
theorem wJ {xs:List PV}:eW cs .tuple [.lst xs] G Q=Q (.tup xs) G:=propext
  ⟨fun h=>by
    rcases h with ⟨ys,e,q⟩ | ⟨ys,e,q⟩
    · cases e
    · cases e; exact q,fun q=>.inr ⟨_,rfl,q⟩⟩
theorem GG {xs:List PV} (h:G a=some (.lst xs)):eW cs .tuple [.ref a] G Q=Q (.tup xs) G:=propext
  ⟨fun h'=>by
    rcases h' with ⟨ys,e,q⟩ | ⟨ys,e,q⟩
    · cases e
    · rw [mG h] at e; cases e; exact q,fun q=>.inr ⟨_,mG h,q⟩⟩
theorem oI {xs:List PV}:eW cs .tuple [.ref a] (gup G a (.lst xs)) Q=Q (.tup xs) (gup G a (.lst xs)):=GG bA
theorem XD {xs:List PV}:eW cs .all [.lst xs] G Q=(∃ b,HF xs=some b∧Q (.bl b) G):=propext
  ⟨fun ⟨_,b,e,eb,q⟩=>by cases e; exact ⟨b,eb,q⟩,fun ⟨b,eb,q⟩=>⟨_,b,rfl,eb,q⟩⟩
theorem KE {xs:List PV}:yO true G xs Q= ∀ p,G p=none→Q (.ref p) (gup G p (.lst xs)):=rfl
theorem fS {xs:List PV}:yO false G xs Q=Q (.lst xs) G:=rfl
theorem cY {xs:List PV} {R:(Gh→Prop)→List PV→Gh→Prop}:aAp (.tup xs) G R=R (fun _=>True) xs G:=rfl
theorem yD {xs:List PV} {R:(Gh→Prop)→List PV→Gh→Prop}:aAp (.lst xs) G R=R (fun _=>True) xs G:=rfl
theorem aJI {xs:List Int} {R:(Gh→Prop)→List PV→Gh→Prop}:aAp (.scr xs) G R=R (fun _=>True) (xs.map .int) G:=rfl
theorem OU {α:Type} {v:α} {R:α→Prop}:(∃ c,some v=some c∧R c)=R v:=propext ⟨fun ⟨_,e,r⟩=>by cases e; exact r,fun r=>⟨v,rfl,r⟩⟩
end
theorem at0 {α:Type} {x:α} {xs:List α}:atI (x :: xs) 0=some x:=eM (xs:=x :: xs) (j:=0) rfl
theorem at1 {α:Type} {x y:α} {xs:List α}:atI (x :: y :: xs) 1=some y:=eM (xs:=x :: y :: xs) (j:=1) rfl
theorem at2 {α:Type} {x y z:α} {xs:List α}:atI (x :: y :: z :: xs) 2=some z:=eM (xs:=x :: y :: z :: xs) (j:=2) rfl
theorem at3 {α:Type} {x y z u:α} {xs:List α}:atI (x :: y :: z :: u :: xs) 3=some u:=eM (xs:=x :: y :: z :: u :: xs) (j:=3) rfl
theorem at4 {α:Type} {x y z u v:α} {xs:List α}:atI (x :: y :: z :: u :: v :: xs) 4=some v:=eM (xs:=x :: y :: z :: u :: v :: xs) (j:=4) rfl
theorem aLU {Q:PK1}:(aM Q).rt=Wk Q:=rfl
theorem aLV {Q:PK1} {σ:PSt} {G:Gh}:(aM Q).nx σ G=Wk Q .non G:=rfl
theorem aH:("int"∈pA)=True∧("bool"∈pA)=True∧("tuple"∈pA)=True∧("str"∈pA)=True∧("list"∈pA)=True:=⟨eq_true (by decide),eq_true (by decide),eq_true (by decide),eq_true (by decide),eq_true (by decide)⟩
theorem aF9:zM "int" "int"=true:=by decide
theorem aF5:zM "int" "bool"=false:=by decide
theorem DJ:zM "tuple" "tuple"=true:=by decide
theorem sz2:(2:Nat)≤sizeLine:=by decide
theorem sz1:(1:Nat)≤sizeLine:=by decide
theorem sz3:(3:Nat)≤sizeLine:=by decide
theorem szN {n:Nat} (h:n≤1000):n≤sizeLine:=Nat.le_trans h (by decide)
noncomputable def FQ (q:Rat):PV:=.tup [.int q.num,.int (q.den:Int)]
noncomputable def cV:Sp3:=fun xs G Q=>∃ i,xs=[.int i]∧Q (.bl true) G
noncomputable def mE:Sp3:=fun xs G Q=>∃ i j:Int,xs=[.int i,.int j]∧0≤i∧0≤j∧Q (.int (Int.gcd i j)) G
noncomputable def jP:Sp3:=fun xs G Q=>∃ q,xs=[FQ q]∧Q (.bl true) G
noncomputable def bT:Sp3:=fun xs G Q=>∃ t b:Int,xs=[.int t,.int b]∧b≠0∧Sm 9000 b∧Q (FQ (Rat.divInt t b)) G
noncomputable def Bd (n:Nat) (q:Rat):Prop:=Sm n q.num∧Sm n (q.den:Int)
theorem Bd.mono {n m:Nat} {q:Rat} (h:Bd n q) (e:n≤m):Bd m q:=⟨h.1.mono e,h.2.mono e⟩
theorem ZS {t b:Int} (hb:b≠0):0 < b.gcd t:=Int.gcd_pos_of_ne_zero_left _ hb
theorem Bd.divInt {n:Nat} {t b:Int} (ht:Sm n t) (hb:Sm n b) (h0:b≠0):Bd n (Rat.divInt t b):=by
  have gp:(0:Int) < (b.gcd t:Int):=by have:=ZS (t:=t) h0; omega
  constructor
  · rw [Rat.num_divInt]
    have e:Sm n (b.sign * t):=by
      rcases Int.lt_trichotomy b 0 with z | z | z
      · rw [Int.sign_eq_neg_one_of_neg z,Int.neg_one_mul]; exact ht.neg
      · exact absurd z h0
      · rw [Int.sign_eq_one_of_pos z,Int.one_mul]; exact ht
    exact e.div gp
  · rw [Rat.den_divInt,if_neg h0]
    have e:Sm n ((b.natAbs:Int)):=by unfold Sm at *; omega
    have:=e.div gp
    rw [Int.natCast_ediv]
    exact this
theorem KZ {t b:Int} (hb:0 < b):FQ (Rat.divInt t b)= .tup [.int (t / (Int.gcd t b:Int)),.int (b / (Int.gcd t b:Int))]:=by
  unfold FQ
  rw [Rat.num_divInt,Rat.den_divInt,if_neg (by omega),Int.sign_eq_one_of_pos hb,Int.one_mul,Int.gcd_comm,Int.natCast_ediv]
  have:(b.natAbs:Int)=b:=by omega
  rw [this]
theorem ZL (a b:Rat):Rat.divInt (a.num * (b.den:Int) + b.num * (a.den:Int)) ((a.den:Int) * (b.den:Int))=a + b:=by
  rw [Rat.add_def',←Rat.divInt_ofNat,Int.natCast_mul]
theorem OL (a b:Rat):Rat.divInt (a.num * (b.den:Int) - b.num * (a.den:Int)) ((a.den:Int) * (b.den:Int))=a - b:=by
  rw [Rat.sub_def',←Rat.divInt_ofNat,Int.natCast_mul]
theorem WA (a b:Rat):Rat.divInt (a.num * b.num) ((a.den:Int) * (b.den:Int))=a * b:=by
  rw [Rat.mul_def',←Rat.divInt_ofNat,Int.natCast_mul]
theorem aEE (a b:Rat):Rat.divInt (a.num * (b.den:Int)) ((a.den:Int) * b.num)=a / b:=by
  rw [Rat.div_def,Rat.inv_def]
  conv=>rhs; rw [←Rat.num_divInt_den a]
  rw [Rat.divInt_mul_divInt]
theorem bU {q:Rat}:(q.den:Int)≠0:=by have:=q.den_pos; omega
theorem xS {q:Rat}:(0:Int) < q.den:=by have:=q.den_pos; omega
theorem gA {a b:Int} (ha:a≠0) (hb:b≠0):a * b≠0:=Int.mul_ne_zero ha hb
theorem Bd.add {n m l:Nat} {a b:Rat} (ha:Bd n a) (hb:Bd m b) (e:n + m + 1≤l):Bd l (a + b):=by
  rw [←ZL]
  refine Bd.divInt ?_ ?_ (gA bU bU)
  · exact ((ha.1.mul hb.2)).add ((hb.1.mul ha.2).mono (by omega)) e
  · exact (ha.2.mul hb.2).mono (by omega)
theorem Bd.sub {n m l:Nat} {a b:Rat} (ha:Bd n a) (hb:Bd m b) (e:n + m + 1≤l):Bd l (a - b):=by
  rw [←OL]
  refine Bd.divInt ?_ ?_ (gA bU bU)
  · exact ((ha.1.mul hb.2)).sub ((hb.1.mul ha.2).mono (by omega)) e
  · exact (ha.2.mul hb.2).mono (by omega)
theorem Bd.mul {n m l:Nat} {a b:Rat} (ha:Bd n a) (hb:Bd m b) (e:n + m≤l):Bd l (a * b):=by
  rw [←WA]
  exact Bd.divInt ((ha.1.mul hb.1).mono e) ((ha.2.mul hb.2).mono e) (gA bU bU)
theorem Bd.dv {n m l:Nat} {a b:Rat} (ha:Bd n a) (hb:Bd m b) (h0:b≠0) (e:n + m≤l):Bd l (a / b):=by
  rw [←aEE]
  exact Bd.divInt ((ha.1.mul hb.2).mono e) ((ha.2.mul hb.1).mono e) (gA bU (fun z=>h0 (Rat.num_eq_zero.mp z)))
theorem Bd.int {n:Nat} {i:Int} (h:Sm n i) (e:1≤n):Bd n (i:Rat):=⟨h,by
  show Sm n ((1:Nat):Int)
  unfold Sm
  have:2 ^ 1≤2 ^ n:=Nat.pow_le_pow_right (by decide) e
  show 1 < 2 ^ n
  omega⟩
theorem rQ {i:Int}:PV.tup [.int i,.int 1]=FQ (i:Rat):=rfl
theorem smK {x:Int} {n:Nat} (a: -1000000000000≤x) (b:x < 1000000000000) (e:41≤n):Sm n x:=by
  have:Sm 41 x:=by unfold Sm; omega
  exact this.mono e
noncomputable def pV:Sp3:=fun xs G Q=>∃ qs:List Rat,xs=[.tup (qs.map FQ)]∧qs.length≤2∧Q .non G
noncomputable def gH:Sp3:=fun xs G Q=>∃ a b,xs=[FQ a,FQ b]∧Bd 4000 a∧Bd 4000 b∧Q (FQ (a + b)) G
noncomputable def dU:Sp3:=fun xs G Q=>∃ a b,xs=[FQ a,FQ b]∧Bd 4000 a∧Bd 4000 b∧Q (FQ (a - b)) G
noncomputable def dB:Sp3:=fun xs G Q=>∃ a b,xs=[FQ a,FQ b]∧Bd 4000 a∧Bd 4000 b∧Q (FQ (a * b)) G
noncomputable def iS:Sp3:=fun xs G Q=>∃ a b,xs=[FQ a,FQ b]∧Bd 4000 a∧Bd 4000 b∧b≠0∧Q (FQ (a / b)) G
noncomputable def gL:Sp3:=fun xs G Q=>∃ a b,xs=[FQ a,FQ b]∧Bd 4000 a∧Bd 4000 b∧Q (.bl (decide (a < b))) G
noncomputable def nw (q:Rat):Int:=(2 * q.num + (q.den:Int)) / (2 * (q.den:Int))
noncomputable def DY:Sp3:=fun xs G Q=>∃ a,xs=[FQ a]∧Bd 8900 a∧Q (.int (nw a)) G
noncomputable def eE:Sp3:=fun xs G Q=>∃ a,xs=[FQ a]∧0≤a∧a≤1∧Q (.bl true) G
noncomputable def SH (a b c:Rat):PV:=.ob "Shade" ["ember","leaf","sky"] [FQ a,FQ b,FQ c]
noncomputable def In1 (a:Rat):Prop:=0≤a∧a≤1
noncomputable def mK:Sp3:=fun xs G Q=>∃ a b c,xs=[FQ a,FQ b,FQ c]∧In1 a∧In1 b∧In1 c∧Q (SH a b c) G
noncomputable def pU:Sp3:=fun xs G Q=>∃ p a b c,xs=[.ref p,FQ a,FQ b,FQ c]∧G p=some (.ins "Shade" [] [])∧In1 a∧In1 b∧In1 c∧Q .non (gup G p (.ins "Shade" ["ember","leaf","sky"] [FQ a,FQ b,FQ c]))
noncomputable def fH:Sp3:=fun xs G Q=>∃ a b c,xs=[SH a b c]∧Q (.bl true) G
noncomputable def iI:Sp3:=fun xs G Q=>∃ a b c,xs=[SH a b c]∧Q .non G
noncomputable def bD:Sp3:=fun xs G Q=>∃ a b c,xs=[SH a b c]∧Q (.tup [FQ a,FQ b,FQ c]) G
noncomputable def fI:Sp3:=fun xs G Q=>∃ x a b c,xs=[x]∧dR G x=some [FQ a,FQ b,FQ c]∧In1 a∧In1 b∧In1 c∧Q (SH a b c) G
noncomputable def oK:Sp3:=fun xs G Q=>∃ g:Int,xs=[.int g]∧1≤g∧g≤1000∧Q .non G
noncomputable def DW:Sp3:=fun xs G Q=>∃ g:Int,xs=[.int g]∧1≤g∧g≤1000∧Q (.bl true) G
noncomputable def pL:Sp3:=fun xs G Q=>∃ s g:Int,xs=[.int s,.int g]∧0≤s∧s≤g∧Q (.bl true) G
noncomputable def kC:Sp3:=fun xs G Q=>∃ s g:Int,xs=[.int s,.int g]∧0≤s∧s≤g∧Q .non G
noncomputable def stp (a:Rat) (g:Int):PV:=.int (nw (a * (g:Rat)))
noncomputable def sH:Sp3:=fun xs G Q=>∃ a b c g,xs=[SH a b c,.int g]∧1≤g∧g≤1000∧Bd 3000 a∧Bd 3000 b∧Bd 3000 c∧Q (.tup [stp a g,stp b g,stp c g]) G
noncomputable def aHD (s g:Int):Rat:=Rat.divInt (max (2 * s - 1) 0) (2 * g)
noncomputable def aHe (s g:Int):Rat:=if s=g then 1 else Rat.divInt (2 * s + 1) (2 * g)
noncomputable def KM:Sp3:=fun xs G Q=>∃ s g:Int,xs=[.int s,.int g]∧1≤g∧g≤1000∧0≤s∧s≤g∧Q (.tup [FQ (aHD s g),FQ (aHe s g),.bl (decide (s=g))]) G
structure PT (T:Tb):Prop where
  is_whole:T.S "is_whole"=cV
  common:T.S "common"=mE
  is_fraction:T.S "is_fraction"=jP
  lowest:T.S "lowest"=bT
  need_fractions:T.S "need_fractions"=pV
  plus:T.S "plus"=gH
  minus:T.S "minus"=dU
  times:T.S "times"=dB
  over:T.S "over"=iS
  below:T.S "below"=gL
  nearest_whole:T.S "nearest_whole"=DY
  is_share:T.S "is_share"=eE
  shade:T.S "Shade"=mK
  shadeI:T.S "Shade.__init__"=pU
  is_shade:T.S "is_shade"=fH
  need_shade:T.S "need_shade"=iI
  shares_of:T.S "shares_of"=bD
  shade_of:T.S "shade_of"=fI
  is_grade:T.S "is_grade"=DW
  need_grade:T.S "need_grade"=oK
  is_step:T.S "is_step"=pL
  need_step:T.S "need_step"=kC
  printed:T.S "printed"=sH
  span_of:T.S "span_of"=KM
  gv_ONE:T.gv "ONE"=FQ 1
  gv_ZERO:T.gv "ZERO"=FQ 0
  gv_MOST_GRADE:T.gv "MOST_GRADE"= .int 1000
  gv_Shade:T.gv "Shade"= .cl "Shade"
  cs: "Shade"∈T.cs
  fl_e:("Shade",("ember":Str))∈T.fl
  fl_l:("Shade",("leaf":Str))∈T.fl
  fl_s:("Shade",("sky":Str))∈T.fl
  ty_int:T.gv "int"= .ty "int"
  ty_bool:T.gv "bool"= .ty "bool"
  ty_tuple:T.gv "tuple"= .ty "tuple"
theorem XN {q:Rat} {G:Gh} {Q:PK1}:xB (FQ q) (.int 0) G Q=Q (.int q.num) G:=by unfold FQ; rw [eL,at0,OU]
theorem aA0 {q:Rat} {G:Gh} {Q:PK1}:xB (FQ q) (.int 1) G Q=Q (.int q.den) G:=by unfold FQ; rw [eL,at1,OU]
theorem iN {a b:Rat}:(FQ a=FQ b)=(a=b):=propext ⟨fun h=>by
  unfold FQ at h
  injection h with h
  injection h with h1 h
  injection h with h2 _
  injection h1 with h1
  injection h2 with h2
  exact Rat.ext h1 (by omega),fun h=>by rw [h]⟩
theorem aGS {q:Rat}:(1:Int)≤q.den:=by have:=q.den_pos; omega
theorem aHN {q:Rat}:Int.gcd (q.num.natAbs:Int) (q.den:Int)=1:=q.reduced
theorem LK {G:Gh} {Q:PK1} {a b:Rat}:pV [.tup [FQ a,FQ b]] G Q=Q .non G:=propext ⟨fun ⟨_,e,_,q⟩=>q,fun q=>⟨[a,b],rfl,by show 2≤2; decide,q⟩⟩
theorem GX {chk:Gh→Prop} {g:PTG} {tb:PTS} {D:hJ} {σ:PSt} {G:Gh}:oV chk g tb D [] σ G=(chk G∧D.nx σ G):=rfl
theorem AQ {chk:Gh→Prop} {g:PTG} {tb:PTS} {D:hJ} {x:PV} {r:List PV} {σ:PSt} {G:Gh}:oV chk g tb D (x :: r) σ G=(chk G∧g x σ G fun σ2 G2=>tb { D with nx:=oV chk g tb D r,ct:=oV chk g tb D r,bk:=D.nx } σ2 G2):=rfl
theorem jC {chk:Gh→Prop} {g:PTG} {ts:PTT} {te:PTE} {acc:List PV} {σ:PSt} {G:Gh} {Q:List PV→Gh→Prop}:gU chk g ts te [] acc σ G Q=(chk G∧Q acc G):=rfl
theorem gZ {chk:Gh→Prop} {g:PTG} {ts:PTT} {te:PTE} {x:PV} {r acc:List PV} {σ:PSt} {G:Gh} {Q:List PV→Gh→Prop}:gU chk g ts te (x :: r) acc σ G Q=(chk G∧g x σ G fun σ2 G2=>ts σ2 G2 fun ok G3=>if ok=true then te σ2 G3 fun y G4=>gU chk g ts te r (acc ++ [y]) σ2 G4 Q else gU chk g ts te r acc σ2 G3 Q):=rfl
theorem aKJ {a:PV}:EH [a]=[.tup [.int 0,a]]:=rfl
theorem aKW {a b:PV}:EH [a,b]=[.tup [.int 0,a],.tup [.int 1,b]]:=rfl
theorem aIP {a b c:PV}:EH [a,b,c]=[.tup [.int 0,a],.tup [.int 1,b],.tup [.int 2,c]]:=rfl
theorem aNS:pY 0 (3:Int).toNat=[.int 0,.int 1,.int 2]:=rfl
theorem EX:pY 0 3=[.int 0,.int 1,.int 2]:=rfl
theorem jZ {a b c a' b' c':Rat}:(SH a b c=SH a' b' c')=(a=a'∧b=b'∧c=c'):=propext ⟨fun h=>by
  unfold SH at h
  injection h with _ _ h
  injection h with h1 h
  injection h with h2 h
  injection h with h3 _
  rw [iN] at h1 h2 h3
  exact ⟨h1,h2,h3⟩,fun ⟨h1,h2,h3⟩=>by rw [h1,h2,h3]⟩
set_option hygiene false in
local macro_rules | `(tactic| walk_at "rd") => `(tactic| simp only [wpS, wpE, wpL, wpT, wpO, wpI, wpG, eX, aM, aC, List.length_cons, List.length_nil, List.cons_append, List.nil_append, List.append_nil, List.replicate, Nat.reduceAdd, Nat.reduceSub, Nat.zero_add, List.getElem?_cons_zero, List.getElem?_cons_succ, List.set_cons_zero, List.set_cons_succ, Option.some.injEq, exists_eq_left', true_and, and_true, ite_self, iM, oZ, lI, DB, DT, eG, CT, gP, vY, cX, IC, lE, GT, aBu, yJ, aH.1, aH.2.1, aH.2.2.1, aF9, aF5, DJ, aBg, XC, List.cons.injEq, PV.int.injEq, PV.bl.injEq, PV.str.injEq, PV.ref.injEq, PV.tup.injEq, and_assoc, exists_and_left, eq_self, cV, mE, List.map, Bool.not_true, Bool.not_false, Bool.and_self, Bool.and_true, Bool.true_and, if_true, if_false, ite_true, ite_false, Bool.false_eq_true, decide_eq_true_eq, decide_true, decide_false, reduceCtorEq, sz2, Wk.here, *])
section
variable {T:Tb}
noncomputable def iP:CS:=(.ret (.an (.blt .isi (.cons (.var 0) (.cons (.glo "int") .nil))) (.no (.blt .isi (.cons (.var 0) (.cons (.glo "bool") .nil))))))
theorem MJ (h:PT T):∀ xs G Q,cV xs G Q→wpS T iP (aM Q) (aC 1 xs) G:=by
  rintro xs G Q ⟨i,rfl,q⟩
  unfold iP
  have:=h.ty_int
  have:=h.ty_bool
  walk_at "rd"
theorem GV {x y:Int} (hx:0≤x) (hy:0 < y):Int.gcd y (x % y)=Int.gcd x y:=by
  rw [Int.gcd_comm x y]
  show y.natAbs.gcd (x % y).natAbs=y.natAbs.gcd x.natAbs
  have e:(x % y).natAbs=x.natAbs % y.natAbs:=by rw [Int.natAbs_emod_of_nonneg hx]
  rw [e,Nat.gcd_rec y.natAbs x.natAbs,Nat.gcd_comm]
noncomputable def lY:CS:=(.seq (.wh (.tsb (.cmp .NotEq (.var 1) (.int 0))) (.par 0 1 (.var 1) (.bin .Mod (.var 0) (.var 1))))
  (.ret (.var 0)))
theorem XZ (h:PT T):∀ xs G Q,mE xs G Q→wpS T lY (aM Q) (aC 2 xs) G:=by
  rintro xs G Q ⟨i,j,rfl,hi,hj,q⟩
  unfold lY
  walk_at "rd"
  refine ⟨fun m σ H=>∃ x y,σ=[some (.int x),some (.int y)]∧H=G∧0≤x∧0≤y∧Int.gcd x y=Int.gcd i j∧m=y.toNat,⟨_,i,j,rfl,rfl,hi,hj,rfl,rfl⟩, ?_⟩
  rintro m σ H ⟨x,y,rfl,rfl,hx,hy,hg,rfl⟩
  walk_at "rd"
  split
  · rename_i hy0
    have hy0:y≠0:=by simpa using hy0
    have h2:=Int.emod_lt_of_pos x (show 0 < y by omega)
    have h3:=Int.emod_nonneg x (show y≠0 by omega)
    exact ⟨by show 0 < y; omega,(x % y).toNat,by omega,h3,(GV hx (by omega)).trans hg,rfl⟩
  · rename_i hy0
    have e:y=0:=by simpa using hy0
    subst e
    have g:((Int.gcd x 0:Nat):Int)=x:=by rw [Int.gcd_zero_right]; omega
    refine Wk.here ?_
    rw [←g,hg]; exact q
noncomputable def fM:CS:=(.seq (.iff (.oo (.no (.tst (.blt .isi (.cons (.var 0) (.cons (.glo "tuple") .nil))))) (.tsb (.cmp .NotEq (.blt .len (.cons (.var 0) .nil)) (.int 2)))) (.ret (.bl false)) .nil)
  (.seq (.asg (.gt 2 (.cons (.gn 1) (.cons (.gn 2) .nil))) (.var 0))
  (.ret (.an (.cal "is_whole" (.cons (.var 1) .nil)) (.an (.cal "is_whole" (.cons (.var 2) .nil)) (.an (.cmp .GtE (.var 2) (.int 1)) (.cmp .Eq (.cal "common" (.cons (.blt .abs (.cons (.var 1) .nil)) (.cons (.var 2) .nil))) (.int 1))))))))
theorem zH (h:PT T):∀ xs G Q,jP xs G Q→wpS T fM (aM Q) (aC 3 xs) G:=by
  rintro xs G Q ⟨q,rfl,hq⟩
  unfold fM
  have:=h.ty_tuple
  have:=h.is_whole
  have:=h.common
  have h1:=aGS (q:=q)
  have h2:=aHN (q:=q)
  unfold FQ
  walk_at "rd"
  exact ⟨by omega,by omega⟩
noncomputable def lR:CS:=(.seq (.iff (.tsb (.cmp .Lt (.var 1) (.int 0))) (.par 0 1 (.neg (.var 0)) (.neg (.var 1))) .nil)
  (.seq (.asg (.gn 2) (.cal "common" (.cons (.blt .abs (.cons (.var 0) .nil)) (.cons (.var 1) .nil))))
  (.ret (.tup (.cons (.bin .FloorDiv (.var 0) (.var 2)) (.cons (.bin .FloorDiv (.var 1) (.var 2)) .nil))))))
theorem DU (t b:Int):Int.gcd (t.natAbs:Int) b=Int.gcd t b:=by show (t.natAbs:Int).natAbs.gcd _=_; rw [Int.natAbs_natCast]; rfl
theorem CK {t b:Int} (hb:0 < b) (sb:Sm 9000 b):AW t (Int.gcd t b:Int)∧AW b (Int.gcd t b:Int):=by
  have gp:(0:Int) < (Int.gcd t b:Int):=by have:=Int.gcd_pos_of_ne_zero_right t (show b≠0 by omega); omega
  have gl:(Int.gcd t b:Int)≤b:=Int.le_of_dvd hb (Int.gcd_dvd_right _ _)
  have sg:Sm 9000 (Int.gcd t b:Int):=sb.le (by omega) gl
  exact ⟨aDs gp sg,aDs gp sg⟩
theorem aAf (h:PT T):∀ xs G Q,bT xs G Q→wpS T lR (aM Q) (aC 3 xs) G:=by
  rintro xs G Q ⟨t,b,rfl,h0,sb,hq⟩
  unfold lR
  have:=h.common
  walk_at "rd"
  split
  · rename_i hb
    obtain ⟨d1,d2⟩:=CK (t:= -t) (b:= -b) (by omega) sb.neg
    simp only [DU]
    refine ⟨by omega,by omega,d1,d2,Wk.here ?_⟩
    rw [←KZ (by omega),Rat.neg_divInt_neg]; exact hq
  · rename_i hb
    obtain ⟨d1,d2⟩:=CK (t:=t) (b:=b) (by omega) sb
    simp only [DU]
    refine ⟨by omega,by omega,d1,d2,Wk.here ?_⟩
    rw [←KZ (by omega)]; exact hq
end
set_option hygiene false in
local macro_rules | `(tactic| walk_at "rd") => `(tactic| simp only [wpS, wpE, wpL, wpT, wpO, wpI, wpG, eX, aM, aC, List.map_cons, List.map_nil, List.length_cons, List.length_nil, List.cons_append, List.nil_append, List.append_nil, List.replicate, Nat.reduceAdd, Nat.reduceSub, Nat.zero_add, List.getElem?_cons_zero, List.getElem?_cons_succ, List.set_cons_zero, List.set_cons_succ, Option.some.injEq, exists_eq_left', true_and, and_true, ite_self, iM, gQ, lF, mB, oZ, gX, OG, eG, gP, cX, GQ, wJ, fS, cY, aH.1, aH.2.1, aH.2.2.1, List.cons.injEq, PV.int.injEq, PV.bl.injEq, PV.str.injEq, PV.ref.injEq, PV.tup.injEq, and_assoc, exists_and_left, eq_self, XN, aA0, iN, cV, jP, bT, LK, exists_eq', GX, AQ, jC, gZ, aKJ, aKW, aIP, jZ, wV, Option.getD_some, List.map, dB, DY, eE, fH, iI, bD, oK, DW, pL, kC, Bool.not_true, Bool.not_false, Bool.and_self, Bool.and_true, Bool.true_and, if_true, if_false, ite_true, ite_false, Bool.false_eq_true, decide_eq_true_eq, decide_true, decide_false, reduceCtorEq, sz1, sz2, sz3, Wk.here, *])
section
variable {T:Tb}
noncomputable def dJ:CS:=(.fr (.gt 2 (.cons (.gn 1) (.cons (.gn 2) .nil))) (.ien (.var 0)) (.iff (.no (.tst (.cal "is_fraction" (.cons (.var 2) .nil)))) .nev .nil))
theorem sU (h:PT T):∀ xs G Q,pV xs G Q→wpS T dJ (aM Q) (aC 3 xs) G:=by
  rintro xs G Q ⟨qs,rfl,hl,hq⟩
  unfold dJ
  have:=h.is_fraction
  match qs,hl with
  | [],_=>simp only [List.map_nil]; walk_at "rd"; exact ⟨trivial,Wk.here hq⟩
  | [a],_=>simp only [List.map_cons,List.map_nil]; walk_at "rd"
  | [a,b],_=>simp only [List.map_cons,List.map_nil]; walk_at "rd"
noncomputable def nV:CS:=(.seq (.ex (.cal "need_fractions" (.cons (.tup (.cons (.var 0) (.cons (.var 1) .nil))) .nil)))
  (.ret (.cal "lowest" (.cons (.bin .Mult (.idx (.var 0) (.int 0)) (.idx (.var 1) (.int 0))) (.cons (.bin .Mult (.idx (.var 0) (.int 1)) (.idx (.var 1) (.int 1))) .nil)))))
theorem QD {a b:Rat} (ha:Bd 4000 a) (hb:Bd 4000 b):Sm 9000 ((a.den:Int) * (b.den:Int)):=(ha.2.mul hb.2).mono (by decide)
theorem aBB (h:PT T):∀ xs G Q,dB xs G Q→wpS T nV (aM Q) (aC 2 xs) G:=by
  rintro xs G Q ⟨a,b,rfl,ha,hb,hq⟩
  unfold nV
  have:=h.need_fractions
  have:=h.lowest
  walk_at "rd"
  refine ⟨fV ha.1 hb.1,fV ha.2 hb.2,gA bU bU,QD ha hb,Wk.here ?_⟩
  rw [WA]; exact hq
noncomputable def tB:CS:=(.seq (.ex (.cal "need_fractions" (.cons (.tup (.cons (.var 0) (.cons (.var 1) .nil))) .nil)))
  (.ret (.cal "lowest" (.cons (.bin .Add (.bin .Mult (.idx (.var 0) (.int 0)) (.idx (.var 1) (.int 1))) (.bin .Mult (.idx (.var 1) (.int 0)) (.idx (.var 0) (.int 1)))) (.cons (.bin .Mult (.idx (.var 0) (.int 1)) (.idx (.var 1) (.int 1))) .nil)))))
theorem aGx (h:PT T):∀ xs G Q,gH xs G Q→wpS T tB (aM Q) (aC 2 xs) G:=by
  rintro xs G Q ⟨a,b,rfl,ha,hb,hq⟩
  unfold tB
  have:=h.need_fractions
  have:=h.lowest
  walk_at "rd"
  refine ⟨fV ha.1 hb.2,fV hb.1 ha.2,fV ha.2 hb.2,gA bU bU,QD ha hb,Wk.here ?_⟩
  rw [ZL]; exact hq
noncomputable def nX:CS:=(.seq (.ex (.cal "need_fractions" (.cons (.tup (.cons (.var 0) (.cons (.var 1) .nil))) .nil)))
  (.ret (.cal "lowest" (.cons (.bin .Sub (.bin .Mult (.idx (.var 0) (.int 0)) (.idx (.var 1) (.int 1))) (.bin .Mult (.idx (.var 1) (.int 0)) (.idx (.var 0) (.int 1)))) (.cons (.bin .Mult (.idx (.var 0) (.int 1)) (.idx (.var 1) (.int 1))) .nil)))))
theorem aBZ (h:PT T):∀ xs G Q,dU xs G Q→wpS T nX (aM Q) (aC 2 xs) G:=by
  rintro xs G Q ⟨a,b,rfl,ha,hb,hq⟩
  unfold nX
  have:=h.need_fractions
  have:=h.lowest
  walk_at "rd"
  refine ⟨fV ha.1 hb.2,fV hb.1 ha.2,fV ha.2 hb.2,gA bU bU,QD ha hb,Wk.here ?_⟩
  rw [OL]; exact hq
noncomputable def iZ:CS:=(.ret (.an (.cal "is_fraction" (.cons (.var 0) .nil)) (.chn .LtE .LtE (.int 0) (.idx (.var 0) (.int 0)) (.idx (.var 0) (.int 1)))))
theorem aGD {a:Rat} (h:0≤a):0≤a.num:=Rat.num_nonneg.mpr h
theorem aHv {a:Rat} (h:a≤1):a.num≤(a.den:Int):=by
  have:=(Rat.le_iff a 1).mp h
  simpa using this
theorem MH (h:PT T):∀ xs G Q,eE xs G Q→wpS T iZ (aM Q) (aC 1 xs) G:=by
  rintro xs G Q ⟨a,rfl,h0,h1,hq⟩
  unfold iZ
  have:=h.is_fraction
  have:=aGD h0
  have:=aHv h1
  walk_at "rd"
noncomputable def iQ:CS:=(.ret (.blt .isi (.cons (.var 0) (.cons (.glo "Shade") .nil))))
theorem UE {a b c:Rat} {G:Gh} {Q:PK1} {cs:List String}:eW cs .isi [SH a b c,.cl "Shade"] G Q=("Shade"∈cs∧Q (.bl true) G):=aDJ
theorem MN (h:PT T):∀ xs G Q,fH xs G Q→wpS T iQ (aM Q) (aC 1 xs) G:=by
  rintro xs G Q ⟨a,b,c,rfl,hq⟩
  unfold iQ
  have:=h.gv_Shade
  have:=h.cs
  have:=@UE
  walk_at "rd"
noncomputable def fW:CS:=(.iff (.no (.tst (.cal "is_shade" (.cons (.var 0) .nil)))) .nev .nil)
theorem FH (h:PT T):∀ xs G Q,iI xs G Q→wpS T fW (aM Q) (aC 1 xs) G:=by
  rintro xs G Q ⟨a,b,c,rfl,hq⟩
  unfold fW
  have:=h.is_shade
  walk_at "rd"
noncomputable def hW:CS:=(.seq (.ex (.cal "need_shade" (.cons (.var 0) .nil)))
  (.ret (.tup (.cons (.att (.var 0) "ember") (.cons (.att (.var 0) "leaf") (.cons (.att (.var 0) "sky") .nil))))))
theorem DG {c:String} {ns:List Str} {xs:List PV} {f:Str} {v:PV} {G:Gh} {Q:PK1} (hf:(c,f)∈T.fl) (hl:(ns.zip xs).lookup f=some v):YH T (.ob c ns xs) f G Q=Q v G:=by
  refine propext ⟨fun h=>?_,fun q=>⟨_,_,_,_,.inl rfl,hf,hl,q⟩⟩
  obtain ⟨c',ns',xs',v',e,_,l,q⟩:=h
  rcases e with e | ⟨_,e,_⟩
  · cases e
    rw [hl] at l
    cases l
    exact q
  · cases e
theorem aJ9 (h:PT T) {a b c:Rat} {G:Gh} {Q:PK1}:YH T (SH a b c) "ember" G Q=Q (FQ a) G:=DG h.fl_e rfl
theorem aJu (h:PT T) {a b c:Rat} {G:Gh} {Q:PK1}:YH T (SH a b c) "leaf" G Q=Q (FQ b) G:=DG h.fl_l rfl
theorem aLM (h:PT T) {a b c:Rat} {G:Gh} {Q:PK1}:YH T (SH a b c) "sky" G Q=Q (FQ c) G:=DG h.fl_s rfl
theorem HX (h:PT T):∀ xs G Q,bD xs G Q→wpS T hW (aM Q) (aC 1 xs) G:=by
  rintro xs G Q ⟨a,b,c,rfl,hq⟩
  unfold hW
  have:=h.need_shade
  have e1:=@aJ9 T h
  have e2:=@aJu T h
  have e3:=@aLM T h
  walk_at "rd"
noncomputable def dL:CS:=(.seq (.fr (.gt 2 (.cons (.gn 4) (.cons (.gn 5) .nil))) (.ien (.tup (.cons (.var 1) (.cons (.var 2) (.cons (.var 3) .nil))))) (.iff (.no (.tst (.cal "is_share" (.cons (.var 5) .nil)))) .nev .nil))
  (.seq (.fld (.var 0) "ember" (.var 1))
  (.seq (.fld (.var 0) "leaf" (.var 2))
  (.fld (.var 0) "sky" (.var 3)))))
theorem sV (h:PT T):∀ xs G Q,pU xs G Q→wpS T dL (aM Q) (aC 6 xs) G:=by
  rintro xs G Q ⟨p,a,b,c,rfl,hp,⟨a1,a2⟩,⟨b1,b2⟩,⟨c1,c2⟩,hq⟩
  unfold dL
  have:=h.is_share
  walk_at "rd"
  refine ⟨"Shade",[],[],rfl,h.fl_e,by decide,"Shade",["ember"],[FQ a],bA,h.fl_l,by decide,"Shade",["ember","leaf"],[FQ a,FQ b],bA,h.fl_s,by decide, ?_⟩
  simp only [vM]
  exact Wk.here hq
theorem nZ (h:PT T):XR T "Shade" "Shade" "Shade.__init__":=by
  intro xs G Q q p hp
  rw [h.shade] at q
  rw [h.shadeI]
  obtain ⟨a,b,c,rfl,ha,hb,hc,q⟩:=q
  refine ⟨p,a,b,c,rfl,bA,ha,hb,hc,rfl,_,_,bA, ?_⟩
  rw [vM,aAu hp]
  exact q
end
noncomputable def PU (x y z:Int):GO:=.lst [.int x,.int y,.int z]
noncomputable def Pu (p:Addr) (G:Gh):Prop:= ∃ x y z,G p=some (PU x y z)
noncomputable def Pn (p:Addr) (G G':Gh):Prop:= ∃ x y z,G'=gup G p (PU x y z)
theorem Pn.pu {p:Addr} {G G':Gh} (h:Pn p G G'):Pu p G':=let ⟨x,y,z,e⟩:=h; ⟨x,y,z,by rw [e]; exact bA⟩
theorem Pn.ne {p q:Addr} {G G':Gh} (h:Pn p G G') (n:q≠p):G' q=G q:=let ⟨x,y,z,e⟩:=h; by rw [e]; exact eC n
theorem Pn.trans {p:Addr} {G G1 G2:Gh} (a:Pn p G G1) (b:Pn p G1 G2):Pn p G G2:=let ⟨x,y,z,e⟩:=a; let ⟨x',y',z',e'⟩:=b; ⟨x',y',z',by rw [e',e,vM]⟩
theorem Pu.ne {p q:Addr} {G:Gh} (h:Pu p G) (n:G q=none):q≠p:=fun e=>by subst e; obtain ⟨_,_,_,e⟩:=h; rw [n] at e; cases e
theorem Pu.new {p q:Addr} {G:Gh} {o:GO} (h:Pu p G) (n:G q=none):Pu p (gup G q o):=let ⟨x,y,z,e⟩:=h; ⟨x,y,z,by rw [eC (Ne.symm (h.ne n))]; exact e⟩
theorem Pn.drop {p q:Addr} {G G1 G2:Gh} {o:GO} (h:Pn p (gup G q o) G1) (n:G q=none) (hp:Pu p G):∃ G',Pn p G G'∧∀ a u,G' a=some u→G1 a=some u:=by
  obtain ⟨x,y,z,e⟩:=h
  refine ⟨gup G p (PU x y z),⟨x,y,z,rfl⟩,fun a u q'=>?_⟩
  rw [e]
  by_cases ea:a=p
  · subst ea; rw [bA] at q' ⊢; exact q'
  · rw [eC ea] at q' ⊢
    have:a≠q:=fun z=>by subst z; rw [n] at q'; cases q'
    rw [eC this]; exact q'
noncomputable def nD:Sp3:=fun xs G Q=>∃ p m,xs=[.ref p,.int m]∧Pu p G∧0 < m∧Sm 8000 m∧∀ r G',0≤r→r < m→Pn p G G'→Q (.int r) G'
noncomputable def vV:Sp3:=fun xs G Q=>∃ (ns:List Int) (k:Int),xs=[.scr ns,.int k]∧0≤k∧k < 64∧∀ c,Q (.int c) G
noncomputable def rF:Sp3:=fun xs G Q=>∃ c:Int,xs=[.int c]∧∀ p x y z,G p=none→Q (.ref p) (gup G p (PU x y z))
noncomputable def jS:Sp3:=fun xs G Q=>∃ p,xs=[.ref p]∧Pu p G∧∀ q G',In1 q→Bd 12 q→Pn p G G'→Q (FQ q) G'
noncomputable def jO:Sp3:=fun xs G Q=>∃ p,xs=[.ref p]∧Pu p G∧∀ a b c G',In1 a→In1 b→In1 c→Bd 12 a→Bd 12 b→Bd 12 c→Pn p G G'→Q (.tup [FQ a,FQ b,FQ c]) G'
noncomputable def wO:Sp3:=fun xs G Q=>∃ p a b c,xs=[.ref p,.tup [FQ a,FQ b,FQ c]]∧Pu p G∧In1 a∧In1 b∧In1 c∧∀ G',Pn p G G'→Q (SH a b c) G'
noncomputable def sB:Sp3:=fun xs G Q=>∃ q,xs=[FQ q]∧Bd 8900 q∧Q (.bl true) G
structure LT (T:Tb):Prop where
  cell:T.S "_law_cell"=vV
  purse:T.S "_law_purse"=rF
  pick:T.S "_law_pick"=nD
  whole:T.S "_law_whole"=cV
  low:T.S "_law_low"=bT
  plus:T.S "_law_plus"=gH
  minus:T.S "_law_minus"=dU
  times:T.S "_law_times"=dB
  over:T.S "_law_over"=iS
  below:T.S "_law_below"=gL
  is_fraction:T.S "_law_is_fraction"=sB
  share:T.S "_law_share"=jS
  shares:T.S "_law_shares"=jO
structure LM (T:Tb):Prop where
  made:T.S "_law_made"=wO
set_option hygiene false in
local macro_rules | `(tactic| walk_at "rd") => `(tactic| simp only [wpS, wpE, wpL, wpT, wpO, wpI, wpG, eX, aM, aC, List.length_cons, List.length_nil, List.cons_append, List.nil_append, List.append_nil, List.replicate, Nat.reduceAdd, Nat.reduceSub, Nat.zero_add, List.getElem?_cons_zero, List.getElem?_cons_succ, List.set_cons_zero, List.set_cons_succ, Option.some.injEq, exists_eq_left', true_and, and_true, ite_self, iM, gQ, lF, mB, oZ, lI, UF, gX, DB, vG, DT, eG, CT, vY, cX, lZ, JB, aBo, GT, aBQ, KE, fS, aH.1, aH.2.1, aH.2.2.1, DJ, at0, at1, at2, aLr, aEq, aE3, List.cons.injEq, PV.int.injEq, PV.bl.injEq, PV.str.injEq, PV.ref.injEq, PV.tup.injEq, and_assoc, exists_and_left, eq_self, XN, aA0, cV, bT, List.map, Bool.not_true, Bool.not_false, Bool.and_self, Bool.and_true, Bool.true_and, if_true, if_false, ite_true, ite_false, Bool.false_eq_true, decide_eq_true_eq, decide_true, decide_false, reduceCtorEq, sz2, sz3, Wk.here, *])
section
variable {T:Tb}
noncomputable def lQ:CS:=(.seq (.sub (.var 0) (.int 2) (.bin .Add (.idx (.var 0) (.int 2)) (.int 1)))
  (.seq (.asg (.gn 2) (.bin .Mod (.idx (.var 0) (.int 0)) (.int 999999937)))
  (.seq (.sub (.var 0) (.int 0) (.bin .Add (.bin .Mult (.var 2) (.bin .Add (.bin .Mod (.var 2) (.int 50021)) (.int 20011))) (.bin .Mult (.int 90001) (.idx (.var 0) (.int 2)))))
  (.seq (.iff (.tsb (.cmp .Gt (.idx (.var 0) (.int 1)) (.int 0))) (.seq (.asg (.gn 3) (.bin .Mod (.idx (.var 0) (.int 1)) (.var 1)))
  (.seq (.sub (.var 0) (.int 1) (.bin .FloorDiv (.idx (.var 0) (.int 1)) (.var 1)))
  (.ret (.var 3)))) .nil)
  (.ret (.bin .Mod (.bin .FloorDiv (.bin .Mod (.idx (.var 0) (.int 0)) (.int 999999937)) (.int 16)) (.var 1)))))))
theorem XH {G:Gh} {p:Addr} {o:GO} (h:G p=some o):gup G p o=G:=by
  funext b; unfold gup; split
  · rename_i e; rw [e]; exact h.symm
  · rfl
theorem LB {x:Int} (a:0≤x) (b:x < 1000000000000):Sm 64 x:=by unfold Sm; omega
theorem VH:∀ xs G Q,nD xs G Q→wpS T lQ (aM Q) (aC 4 xs) G:=by
  rintro xs G Q ⟨p,m,rfl,⟨x,y,z,hp⟩,h0,h1,hq⟩
  unfold lQ
  have e:G=gup G p (.lst [.int x,.int y,.int z]):=(XH hp).symm
  have fin:∀ r x' y' z',0≤r→r < m→Q (.int r) (gup G p (.lst [.int x',.int y',.int z'])):=fun r x' y' z' a b=>hq r _ a b ⟨x',y',z',rfl⟩
  generalize hG:gup G p (.lst [.int x,.int y,.int z])=G1 at e
  rw [←hG] at e
  rw [e]
  clear e hG
  walk_at "rd"
  refine ⟨by show (0:Int) < 999999937; decide,by show (0:Int) < 50021; decide,XB (LB (Int.emod_nonneg _ (by decide)) (Int.lt_trans (Int.emod_lt_of_pos _ (by decide)) (by decide))),XB (LB (by decide) (by decide)), ?_⟩
  split
  · exact ⟨h0,aDs (k:=8000) h0 h1,Wk.here (fin _ _ _ _ (Int.emod_nonneg _ (by omega)) (Int.emod_lt_of_pos _ h0))⟩
  · exact ⟨by show (0:Int) < 999999937; decide,aDs (k:=64) (by decide) (LB (by decide) (by decide)),h0,Wk.here (fin _ _ _ _ (Int.emod_nonneg _ (by omega)) (Int.emod_lt_of_pos _ h0))⟩
noncomputable def jW:CS:=(.ret (.lst true (.cons (.bin .Add (.bin .Mult (.bin .Mod (.var 0) (.int 999999937)) (.int 7001)) (.int 3301)) (.cons (.idx (.lst false (.cons (.int 0) (.cons (.var 0) .nil))) (.blt .int (.cons (.cmp .GtE (.var 0) (.bin .Pow (.int 10) (.int 18))) .nil))) (.cons (.int 0) .nil)))))
theorem TM:∀ xs G Q,rF xs G Q→wpS T jW (aM Q) (aC 1 xs) G:=by
  rintro xs G Q ⟨c,rfl,hq⟩
  unfold jW
  walk_at "rd"
  refine ⟨by show (0:Int) < 999999937; decide,aLf (LB (by decide) (by decide)),⟨by decide,by decide,by decide⟩, ?_⟩
  have e:∃ x,atI [PV.int 0,PV.int c] (if decide ((10:Int) ^ Int.toNat 18≤c)=true then 1 else 0)=some (.int x):=by
    split
    · exact ⟨_,at1⟩
    · exact ⟨_,at0⟩
  obtain ⟨x,e⟩:=e
  simp only [decide_eq_true_eq] at e
  refine ⟨_,e,fun p n=>Wk.here (hq p _ _ _ n)⟩
noncomputable def xF:CS:=(.seq (.par 2 3 (.blt .abs (.cons (.var 0) .nil)) (.var 1))
  (.seq (.wh (.tsb (.cmp .Gt (.var 3) (.int 0))) (.par 2 3 (.var 3) (.bin .Mod (.var 2) (.var 3))))
  (.ret (.tup (.cons (.bin .FloorDiv (.var 0) (.var 2)) (.cons (.bin .FloorDiv (.var 1) (.var 2)) .nil))))))
noncomputable def nQ:CS:=(.seq (.iff (.tsb (.cmp .Lt (.var 1) (.int 0))) (.par 0 1 (.bin .Sub (.int 0) (.var 0)) (.bin .Sub (.int 0) (.var 1))) .nil) xF)
theorem JH {t b:Int} {G:Gh} {Q:PK1} (hb:0 < b) (sb:Sm 9000 b) (hq:Q (FQ (Rat.divInt t b)) G) :
    wpS T xF (aM Q) [some (.int t),some (.int b),none,none] G:=by
  unfold xF
  walk_at "rd"
  refine ⟨fun m σ H=>∃ x y,σ=[some (.int t),some (.int b),some (.int x),some (.int y)]∧H=G∧0≤x∧0≤y∧Int.gcd x y=Int.gcd t b∧m=y.toNat,⟨_,_,_,rfl,rfl,by omega,by omega,DU t b,rfl⟩, ?_⟩
  rintro m σ H ⟨x,y,rfl,rfl,hx,hy,hg,rfl⟩
  walk_at "rd"
  split
  · rename_i hy0
    have h2:=Int.emod_lt_of_pos x (show 0 < y by omega)
    have h3:=Int.emod_nonneg x (show y≠0 by omega)
    exact ⟨by show 0 < y; omega,(x % y).toNat,by omega,h3,(GV hx (by omega)).trans hg,rfl⟩
  · rename_i hy0
    have e:y=0:=by omega
    subst e
    have g:x=((Int.gcd t b:Nat):Int):=by rw [←hg,Int.gcd_zero_right]; omega
    obtain ⟨d1,d2⟩:=CK (t:=t) (b:=b) hb sb
    subst g
    refine ⟨d1,d2,Wk.here ?_⟩
    rw [←KZ hb]; exact hq
theorem aBA:∀ xs G Q,bT xs G Q→wpS T nQ (aM Q) (aC 4 xs) G:=by
  rintro xs G Q ⟨t,b,rfl,h0,sb,hq⟩
  unfold nQ
  have e0:∀ x:Int,0 - x= -x:=fun x=>by omega
  walk_at "rd"
  split
  · rename_i hb
    refine JH (by omega) sb.neg ?_
    rw [Rat.neg_divInt_neg]; exact hq
  · rename_i hb
    exact JH (by omega) sb hq
noncomputable def lK:CS:=(.ret (.cal "_law_low" (.cons (.bin .Add (.bin .Mult (.idx (.var 0) (.int 0)) (.idx (.var 1) (.int 1))) (.bin .Mult (.idx (.var 1) (.int 0)) (.idx (.var 0) (.int 1)))) (.cons (.bin .Mult (.idx (.var 0) (.int 1)) (.idx (.var 1) (.int 1))) .nil))))
theorem aAr (h:LT T):∀ xs G Q,gH xs G Q→wpS T lK (aM Q) (aC 2 xs) G:=by
  rintro xs G Q ⟨a,b,rfl,ha,hb,hq⟩
  unfold lK
  have:=h.low
  walk_at "rd"
  refine ⟨fV ha.1 hb.2,fV hb.1 ha.2,fV ha.2 hb.2,gA bU bU,QD ha hb,Wk.here ?_⟩
  rw [ZL]; exact hq
noncomputable def kH:CS:=(.ret (.cal "_law_low" (.cons (.bin .Sub (.bin .Mult (.idx (.var 0) (.int 0)) (.idx (.var 1) (.int 1))) (.bin .Mult (.idx (.var 1) (.int 0)) (.idx (.var 0) (.int 1)))) (.cons (.bin .Mult (.idx (.var 0) (.int 1)) (.idx (.var 1) (.int 1))) .nil))))
theorem SS (h:LT T):∀ xs G Q,dU xs G Q→wpS T kH (aM Q) (aC 2 xs) G:=by
  rintro xs G Q ⟨a,b,rfl,ha,hb,hq⟩
  unfold kH
  have:=h.low
  walk_at "rd"
  refine ⟨fV ha.1 hb.2,fV hb.1 ha.2,fV ha.2 hb.2,gA bU bU,QD ha hb,Wk.here ?_⟩
  rw [OL]; exact hq
noncomputable def kR:CS:=(.ret (.cal "_law_low" (.cons (.bin .Mult (.idx (.var 0) (.int 0)) (.idx (.var 1) (.int 0))) (.cons (.bin .Mult (.idx (.var 0) (.int 1)) (.idx (.var 1) (.int 1))) .nil))))
theorem OX (h:LT T):∀ xs G Q,dB xs G Q→wpS T kR (aM Q) (aC 2 xs) G:=by
  rintro xs G Q ⟨a,b,rfl,ha,hb,hq⟩
  unfold kR
  have:=h.low
  walk_at "rd"
  refine ⟨fV ha.1 hb.1,fV ha.2 hb.2,gA bU bU,QD ha hb,Wk.here ?_⟩
  rw [WA]; exact hq
noncomputable def kI:CS:=(.ret (.cmp .Lt (.bin .Mult (.idx (.var 0) (.int 0)) (.idx (.var 1) (.int 1))) (.bin .Mult (.idx (.var 1) (.int 0)) (.idx (.var 0) (.int 1)))))
theorem RZ:∀ xs G Q,gL xs G Q→wpS T kI (aM Q) (aC 2 xs) G:=by
  rintro xs G Q ⟨a,b,rfl,ha,hb,hq⟩
  unfold kI
  walk_at "rd"
  refine ⟨fV ha.1 hb.2,fV hb.1 ha.2,Wk.here ?_⟩
  rw [show decide (a.num * (b.den:Int) < b.num * (a.den:Int))=decide (a < b) from decide_eq_decide.mpr (Rat.lt_iff a b).symm]
  exact hq
theorem UM {q:Rat}:shp (FQ q)=true:=rfl
theorem aAC {G:Gh} {q:Rat}:pur G (FQ q)=FQ q:=rfl
theorem FC {a b:Rat}:peq (FQ a) (FQ b)=decide (a=b):=by
  have:peq (FQ a) (FQ b)=(a.num == b.num && ((a.den:Int) == (b.den:Int) && true)):=by unfold FQ; simp only [peq,oG]
  rw [this,Bool.and_true,Bool.eq_iff_iff,Bool.and_eq_true,decide_eq_true_eq,beq_iff_eq,beq_iff_eq]
  exact ⟨fun ⟨x,y⟩=>Rat.ext x (by omega),fun e=>by rw [e]; exact ⟨rfl,rfl⟩⟩
theorem DM {G:Gh} {Q:PK1} {a b:Rat}:pEq false (FQ a) (FQ b) G Q=Q (.bl (decide (a=b))) G:=by
  show (shp (pur G (FQ a))=true∧shp (pur G (FQ b))=true∧Q (.bl (peq (FQ a) (FQ b))) G)=_
  rw [aAC,aAC,UM,UM,FC]; simp
end
set_option hygiene false in
local macro_rules | `(tactic| walk_at "rd") => `(tactic| simp only [wpS, wpE, wpL, wpT, wpO, wpI, wpG, eX, aM, aC, List.length_cons, List.length_nil, List.cons_append, List.nil_append, List.append_nil, List.replicate, Nat.reduceAdd, Nat.reduceSub, Nat.zero_add, List.getElem?_cons_zero, List.getElem?_cons_succ, List.set_cons_zero, List.set_cons_succ, Option.some.injEq, exists_eq_left', true_and, and_true, exists_false, ite_self, false_and, and_false, or_false, iM, gQ, mB, lI, gX, DB, eG, gP, eL, aAG, lZ, JB, HW, oI, KE, fS, yD, aH.1, aH.2.1, aH.2.2.1, at0, at1, at2, List.cons.injEq, PV.int.injEq, PV.bl.injEq, PV.str.injEq, PV.ref.injEq, PV.tup.injEq, and_assoc, exists_and_left, eq_self, iN, bT, Int.reduceToNat, Int.reducePow, jC, gZ, EX, wV, Option.getD_some, List.map, nD, jS, mK, Bool.not_true, Bool.not_false, Bool.and_self, Bool.and_true, Bool.true_and, if_true, if_false, ite_true, ite_false, Bool.false_eq_true, decide_eq_true_eq, decide_true, decide_false, reduceCtorEq, sz3, Wk.here, *])
section
variable {T:Tb}
noncomputable def mD:CS:=(.seq (.iff (.tsb (.cmp .Lt (.var 1) (.blt .len (.cons (.var 0) .nil)))) (.ret (.idx (.var 0) (.var 1))) .nil)
  (.seq (.asg (.gn 2) (.bin .Mod (.bin .Mult (.int 60013) (.bin .Add (.bin .Add (.bin .Mult (.var 1) (.var 1)) (.bin .Mult (.int 7) (.var 1))) (.int 3))) (.int 999999937)))
  (.seq (.fr (.gn 3) (.isq (.sli (.var 0) .nil (.tst (.int 4)))) (.asg (.gn 2) (.bin .Mod (.bin .Add (.bin .Mult (.var 2) (.int 30103)) (.var 3)) (.int 999999937))))
  (.ret (.var 2)))))
theorem jE {g:PTG} {tb:PTS} {D:hJ} (I:PSt→Gh→Prop):∀ {xs:List PV} {σ:PSt} {G:Gh},I σ G→(∀ x∈xs,∀ σ G R,I σ G→(∀ σ' G',I σ' G'→R σ' G')→g x σ G fun σ2 G2=>tb { D with nx:=R,ct:=R,bk:=D.nx } σ2 G2)→(∀ σ G,I σ G→D.nx σ G)→oV (fun _=>True) g tb D xs σ G
  | [],σ,G,h,_,hd=>⟨trivial,hd σ G h⟩
  | x :: r,σ,G,h,hs,hd=>⟨trivial,hs x (List.mem_cons_self ..) σ G _ h fun σ' G' h'=>jE I h' (fun y hy=>hs y (List.mem_cons_of_mem _ hy)) hd⟩
theorem XT {ns:List Int} {lo hi:Option Int} {G:Gh} {Q:PK1}:aAi (.scr ns) lo hi G Q=Q (.lst (yM (ns.map .int) lo hi)) G:=rfl
theorem aAg:∀ xs G Q,vV xs G Q→wpS T mD (aM Q) (aC 4 xs) G:=by
  rintro xs G Q ⟨ns,k,rfl,h0,h1,hq⟩
  unfold mD
  have:=@XT
  walk_at "rd"
  split
  · rename_i hk
    obtain ⟨j,rfl⟩:=Int.eq_ofNat_of_zero_le h0
    have hj:j < ns.length:=by omega
    exact ⟨ns[j],eM (by simp [hj])⟩
  · have sk:Sm 64 k:=LB h0 (by omega)
    refine ⟨XB sk,aLf sk,XB (LB (by decide) (by decide)),by show (0:Int) < 999999937; decide, ?_⟩
    refine jE (fun σ G'=>G'=G∧∃ st u,σ=[some (.scr ns),some (.int k),some (.int st),u]∧0≤st∧st < 999999937) ⟨rfl,_,_,rfl,Int.emod_nonneg _ (by decide),Int.emod_lt_of_pos _ (by decide)⟩ ?_ ?_
    · rintro x hx σ G' R ⟨rfl,st,u,rfl,a1,a2⟩ hR
      have hx':x∈ns.map PV.int:=by
        unfold yM at hx
        exact List.mem_of_mem_drop (List.mem_of_mem_take hx)
      obtain ⟨c,_,rfl⟩:=List.mem_map.mp hx'
      walk_at "rd"
      exact ⟨XB (LB a1 (by omega)),by show (0:Int) < 999999937; decide,hR _ _ ⟨rfl,_,_,rfl,Int.emod_nonneg _ (by decide),Int.emod_lt_of_pos _ (by decide)⟩⟩
    · rintro σ G' ⟨rfl,st,u,rfl,a1,a2⟩
      walk_at "rd"
theorem aGW {r k:Int} (a:0≤r) (b:r < 10) (c:0≤k) (d:k < 997):∃ v,atI [PV.int 1,PV.int 2,PV.int 3,PV.int 4,PV.int 6,PV.int 12,PV.int 60,PV.int 255,PV.int 510,PV.int (1 + k)] r=some (.int v)∧1≤v∧v≤997:=by
  have e:r=0∨r=1∨r=2∨r=3∨r=4∨r=5∨r=6∨r=7∨r=8∨r=9:=by omega
  rcases e with rfl | rfl | rfl | rfl | rfl | rfl | rfl | rfl | rfl | rfl
  · exact ⟨_,at0,by omega,by omega⟩
  · exact ⟨_,at1,by omega,by omega⟩
  · exact ⟨_,at2,by omega,by omega⟩
  · exact ⟨_,at3,by omega,by omega⟩
  · exact ⟨_,at4,by omega,by omega⟩
  · exact ⟨_,eM (j:=5) rfl,by omega,by omega⟩
  · exact ⟨_,eM (j:=6) rfl,by omega,by omega⟩
  · exact ⟨_,eM (j:=7) rfl,by omega,by omega⟩
  · exact ⟨_,eM (j:=8) rfl,by omega,by omega⟩
  · exact ⟨_,eM (j:=9) rfl,by omega,by omega⟩
noncomputable def jV:CS:=(.seq (.asg (.gn 1) (.cal "_law_pick" (.cons (.var 0) (.cons (.int 10) .nil))))
  (.seq (.asg (.gn 2) (.idx (.lst false (.cons (.int 1) (.cons (.int 2) (.cons (.int 3) (.cons (.int 4) (.cons (.int 6) (.cons (.int 12) (.cons (.int 60) (.cons (.int 255) (.cons (.int 510) (.cons (.bin .Add (.int 1) (.cal "_law_pick" (.cons (.var 0) (.cons (.int 997) .nil)))) .nil))))))))))) (.var 1)))
  (.ret (.cal "_law_low" (.cons (.cal "_law_pick" (.cons (.var 0) (.cons (.bin .Add (.var 2) (.int 1)) .nil))) (.cons (.var 2) .nil))))))
theorem smP {x:Int} (a:0≤x) (b:x < 1000000000000):Sm 8000 x:=smK (by omega) b (by decide)
theorem aDa {t b:Int} (h0:0≤t) (h1:t≤b) (hb:0 < b):In1 (Rat.divInt t b):=by
  constructor
  · exact Rat.divInt_nonneg h0 (by omega)
  · rw [Rat.divInt_eq_div]
    have hb':(0:Rat) < (b:Rat):=Rat.intCast_pos.mpr hb
    have h2:(t:Rat)≤(b:Rat):=Rat.intCast_le_intCast.mpr h1
    have h3:(t:Rat) / (b:Rat) * (b:Rat)=(t:Rat):=Rat.div_mul_cancel (by grind)
    refine Rat.le_of_mul_le_mul_right (c:=(b:Rat)) ?_ hb'
    grind
theorem aH6 {t b:Int} {n:Nat} (ht:Sm n t) (hb:Sm n b) (h0:b≠0):Bd n (Rat.divInt t b):=Bd.divInt ht hb h0
theorem QA (h:LT T):∀ xs G Q,jS xs G Q→wpS T jV (aM Q) (aC 3 xs) G:=by
  rintro xs G Q ⟨p,rfl,hp,hq⟩
  unfold jV
  have:=h.pick
  have:=h.low
  walk_at "rd"
  refine ⟨by decide,smP (by decide) (by decide),fun r1 G1 a1 b1 n1=>⟨n1.pu,by decide,smP (by decide) (by decide),fun r2 G2 a2 b2 n2=>?_⟩⟩
  obtain ⟨v,e,c1,c2⟩:=aGW a1 b1 a2 b2
  refine ⟨by decide,_,e, ?_⟩
  walk_at "rd"
  refine ⟨n2.pu,by omega,smP (by omega) (by omega),fun r3 G3 a3 b3 n3=>?_⟩
  refine ⟨by omega,smK (by omega) (by omega) (by decide),Wk.here (hq _ _ (aDa a3 (by omega) (by omega)) (aH6 ?_ ?_ (by omega)) ((n1.trans n2).trans n3))⟩
  · unfold Sm; omega
  · unfold Sm; omega
noncomputable def Pk (p:Addr) (G K:Gh):Prop:= ∃ G',Pn p G G'∧∀ a u,G' a=some u→K a=some u
theorem Pk.of {p:Addr} {G G':Gh} (h:Pn p G G'):Pk p G G':=⟨G',h,fun _ _ z=>z⟩
theorem Pk.new {p l:Addr} {G K:Gh} {o:GO} (h:Pk p G K) (n:K l=none):Pk p G (gup K l o):=by
  obtain ⟨G',a,b⟩:=h
  refine ⟨G',a,fun x u q=>?_⟩
  have:=b x u q
  rw [eC (fun e=>by rw [e,n] at this; cases this)]; exact this
theorem Pk.set {p l:Addr} {G K:Gh} {o:GO} (h:Pk p G K) (n:G l=none) (ne:l≠p):Pk p G (gup K l o):=by
  obtain ⟨G',a,b⟩:=h
  refine ⟨G',a,fun x u q=>?_⟩
  have e:x≠l:=fun e=>by rw [e,a.ne ne,n] at q; cases q
  rw [eC e]; exact b x u q
theorem Pk.pick {p:Addr} {G K K':Gh} (h:Pk p G K) (m:Pn p K K'):Pk p G K':=by
  obtain ⟨G',a,b⟩:=h
  obtain ⟨x,y,z,e⟩:=m
  refine ⟨gup G' p (PU x y z),a.trans ⟨x,y,z,rfl⟩,fun c u q=>?_⟩
  rw [e]
  by_cases ec:c=p
  · subst ec; rw [bA] at q ⊢; exact q
  · rw [eC ec] at q ⊢; exact b c u q
theorem Pk.end_ {p:Addr} {G K:Gh} {Q:PK1} {x:PV} (h:Pk p G K) (q:∀ G',Pn p G G'→Q x G'):Wk Q x K:=let ⟨G',a,b⟩:=h; Wk.of (q G' a) b
noncomputable def iW:CS:=(.seq (.asg (.gn 1) (.cal "_law_pick" (.cons (.var 0) (.cons (.int 8) .nil))))
  (.seq (.asg (.gn 2) (.cmpr true (.gn 1) (.irg (.cons (.int 3) .nil)) .nil (.cal "_law_share" (.cons (.var 2) .nil)) [none,none,some 0]))
  (.seq (.iff (.tsb (.cmp .Eq (.var 1) (.int 1))) (.sub (.var 2) (.bin .Add (.int 1) (.cal "_law_pick" (.cons (.var 0) (.cons (.int 2) .nil)))) (.idx (.var 2) (.int 0))) .nil)
  (.seq (.iff (.tsb (.cmp .Eq (.var 1) (.int 3))) (.asg (.gn 2) (.lst true (.cons (.idx (.var 2) (.int 0)) (.cons (.idx (.var 2) (.int 0)) (.cons (.idx (.var 2) (.int 0)) .nil))))) .nil)
  (.ret (.blt .tuple (.cons (.var 2) .nil)))))))
theorem AE {j:Int} {R:Int→Prop} {A:Int→Int→Prop}:((∃ k,[PV.int j]=[PV.int k]∧R k)∨(∃ i k,[PV.int j]=[PV.int i,PV.int k]∧A i k))=R j:=propext
  ⟨fun h=>h.elim (fun ⟨_,e,r⟩=>by cases e; exact r) (fun ⟨_,_,e,_⟩=>by cases e),fun r=>.inl ⟨_,rfl,r⟩⟩
theorem NE (h:LT T):∀ xs G Q,jO xs G Q→wpS T iW (aM Q) (aC 3 xs) G:=by
  rintro xs G Q ⟨p,rfl,hp,hq⟩
  unfold iW
  have:=h.pick
  have:=h.share
  walk_at "rd"
  refine ⟨by decide,smP (by decide) (by decide),fun r1 G1 a1 b1 n1=>?_⟩
  refine ⟨by decide,by decide,n1.pu,fun q1 G2 i1 d1 m1=>⟨m1.pu,fun q2 G3 i2 d2 m2=>⟨m2.pu,fun q3 G4 i3 d3 m3 l hl=>?_⟩⟩⟩
  have nn:=((n1.trans m1).trans m2).trans m3
  have lp:l≠p:=m3.pu.ne hl
  have gl:G l=none:=by rw [←nn.ne lp]; exact hl
  have k0:Pk p G (gup G4 l (.lst [FQ q1,FQ q2,FQ q3])):=(Pk.of nn).new hl
  split
  · rename_i e1
    refine ⟨m3.pu.new hl,by decide,smP (by decide) (by decide),fun r G5 a b m4=>?_⟩
    have g5:G5 l=some (.lst [FQ q1,FQ q2,FQ q3]):=by rw [m4.ne lp]; exact bA
    have hr:r=0∨r=1:=by omega
    rw [pP g5]
    have ne3:¬r1=3:=by omega
    have k1:∀ o,Pk p G (gup G5 l o):=fun o=>(k0.pick m4).set gl lp
    rcases hr with rfl | rfl
    · refine ⟨1,aEq, ?_⟩
      rw [if_neg ne3,oI]
      exact (k1 _).end_ fun G' g=>hq _ _ _ G' i1 i1 i3 d1 d1 d3 g
    · refine ⟨2,aE3, ?_⟩
      rw [if_neg ne3,oI]
      exact (k1 _).end_ fun G' g=>hq _ _ _ G' i1 i2 i1 d1 d2 d1 g
  · split
    · intro l2 hl2
      exact (k0.new hl2).end_ fun G' g=>hq _ _ _ G' i1 i1 i1 d1 d1 d1 g
    · exact k0.end_ fun G' g=>hq _ _ _ G' i1 i2 i3 d1 d2 d3 g
noncomputable def lD:CS:=(.seq (.iff (.tsb (.cmp .Eq (.cal "_law_pick" (.cons (.var 0) (.cons (.int 2) .nil))) (.int 1))) (.ret (.cak "Shade" .nil (.cons (.idx (.var 1) (.int 2)) (.cons (.idx (.var 1) (.int 0)) (.cons (.idx (.var 1) (.int 1)) .nil))) [.arg 1,.arg 2,.arg 0])) .nil)
  (.ret (.cal "Shade" (.cons (.idx (.var 1) (.int 0)) (.cons (.idx (.var 1) (.int 1)) (.cons (.idx (.var 1) (.int 2)) .nil))))))
theorem aAP (hp:PT T) (h:LT T):∀ xs G Q,wO xs G Q→wpS T lD (aM Q) (aC 2 xs) G:=by
  rintro xs G Q ⟨p,a,b,c,rfl,hpu,ha,hb,hc,hq⟩
  unfold lD
  have:=h.pick
  have:=hp.shade
  walk_at "rd"
  refine ⟨by decide,smP (by decide) (by decide),fun r1 G1 a1 b1 n1=>?_⟩
  have:=hq G1 n1
  simp only [Ar.val,List.getD_cons_zero,List.getD_cons_succ]
  walk_at "rd"
end
noncomputable abbrev R3:=Rat×Rat×Rat
noncomputable def shV (r:R3):PV:=SH r.1 r.2.1 r.2.2
theorem bd0:Bd 2 0:=⟨by unfold Sm; decide,by unfold Sm; decide⟩
noncomputable def xC:Sp3:=fun xs G Q=>∃ a b c a' b' c',xs=[SH a b c,SH a' b' c']∧Q (.bl (decide (a=a') && (decide (b=b') && decide (c=c')))) G
theorem aJW {a b c:Rat}:shp (.tup [FQ a,FQ b,FQ c])=true:=rfl
theorem IJ:oG [] []=true:=by simp only [oG]
theorem BL {x y:PV} {xs ys:List PV}:oG (x :: xs) (y :: ys)=(peq x y && oG xs ys):=by simp only [oG]
theorem aAH {G:Gh} {Q:PK1} {a b c a' b' c':Rat}:pEq false (.tup [FQ a,FQ b,FQ c]) (.tup [FQ a',FQ b',FQ c']) G Q=Q (.bl (decide (a=a') && (decide (b=b') && decide (c=c')))) G:=by
  show (shp (.tup [FQ a,FQ b,FQ c])=true∧shp (.tup [FQ a',FQ b',FQ c'])=true∧Q (.bl (peq (.tup [FQ a,FQ b,FQ c]) (.tup [FQ a',FQ b',FQ c']))) G)=_
  simp only [aJW,true_and,peq,BL,IJ,FC,Bool.and_true]
theorem WJ {xs:List PV} {G:Gh} {Q:PK1}:pIs false (.tup xs) .non G Q=Q (.bl false) G:=BS (fun z=>by cases z)
theorem av0 {xs:List PV} {x:PV}:Ar.val (x :: xs) (.arg 0)=x:=rfl
theorem av1 {xs:List PV} {x y:PV}:Ar.val (x :: y :: xs) (.arg 1)=y:=rfl
theorem av2 {xs:List PV} {x y z:PV}:Ar.val (x :: y :: z :: xs) (.arg 2)=z:=rfl
theorem avn {xs:List PV}:Ar.val xs .non= .non:=rfl
set_option hygiene false in
local macro_rules | `(tactic| walk_at "rd") => `(tactic| simp only [wpS, wpE, wpL, wpT, wpO, wpI, wpG, eX, aM, aC, List.length_cons, List.length_nil, List.cons_append, List.nil_append, List.append_nil, List.replicate, Nat.reduceAdd, Nat.reduceSub, Nat.zero_add, List.getElem?_cons_zero, List.getElem?_cons_succ, List.set_cons_zero, List.set_cons_succ, Option.some.injEq, exists_eq_left', true_and, and_true, ite_self, eG, cX, aH.1, aH.2.1, aH.2.2.1, List.cons.injEq, PV.int.injEq, PV.bl.injEq, PV.str.injEq, PV.ref.injEq, PV.tup.injEq, and_assoc, exists_and_left, eq_self, iN, UE, Int.reduceToNat, Int.reducePow, jZ, List.map, mK, bD, Bool.not_true, Bool.not_false, Bool.and_self, Bool.and_true, Bool.true_and, if_true, if_false, ite_true, ite_false, Bool.false_eq_true, decide_eq_true_eq, decide_true, decide_false, reduceCtorEq, Wk.here, aAH, *])
section
variable {T:Tb}
noncomputable def iX:CS:=(.seq (.asg (.gl 3 (.cons (.gn 1) (.cons (.gn 2) (.cons (.gn 3) .nil)))) (.var 0))
  (.ret (.cal "Shade" (.cons (.var 1) (.cons (.var 2) (.cons (.var 3) .nil))))))
theorem MF (h:PT T):∀ xs G Q,fI xs G Q→wpS T iX (aM Q) (aC 4 xs) G:=by
  rintro xs G Q ⟨x,a,b,c,rfl,hx,ia,ib,ic,hq⟩
  unfold iX
  have:=h.shade
  walk_at "rd"
noncomputable def eI:CS:=(.ret (.an (.blt .isi (.cons (.var 1) (.cons (.glo "Shade") .nil))) (.cmp .Eq (.cal "shares_of" (.cons (.var 0) .nil)) (.cal "shares_of" (.cons (.var 1) .nil)))))
theorem vW (h:PT T):∀ xs G Q,xC xs G Q→wpS T eI (aM Q) (aC 2 xs) G:=by
  rintro xs G Q ⟨a,b,c,a',b',c',rfl,hq⟩
  unfold eI
  have:=h.shares_of
  have:=h.gv_Shade
  have:=h.cs
  walk_at "rd"
end
noncomputable def sg:Nat→Nat | 0=>0 | 1=>1 | 2=>1 | 3=>2 | 4=>2 | _=>0
noncomputable def sl:Nat→Nat | 0=>2 | 1=>2 | 2=>0 | 3=>0 | 4=>1 | _=>1
noncomputable def sm:Nat→Nat | 0=>1 | 1=>0 | 2=>2 | 3=>1 | 4=>0 | _=>2
noncomputable def ss:Nat→Int | 0=>0 | 1=>2 | 2=>2 | 3=>4 | 4=>4 | _=>6
noncomputable def sw:Nat→Int | 0=>1 | 1=> -1 | 2=>1 | 3=> -1 | 4=>1 | _=> -1
noncomputable def p3 (i:Nat) (a b c:Rat):Rat:=match i with | 0=>a | 1=>b | _=>c
noncomputable def iF (k:Nat) (a b c:Rat):Bool:= !decide (p3 (sg k) a b c < p3 (sm k) a b c) && !decide (p3 (sm k) a b c < p3 (sl k) a b c)
noncomputable def kOf (a b c:Rat):Nat:=if iF 0 a b c=true then 0 else if iF 1 a b c=true then 1 else if iF 2 a b c=true then 2 else if iF 3 a b c=true then 3 else if iF 4 a b c=true then 4 else 5
noncomputable def lo (a b c:Rat):Rat:=p3 (sl (kOf a b c)) a b c
noncomputable def hi (a b c:Rat):Rat:=p3 (sg (kOf a b c)) a b c
noncomputable def mi (a b c:Rat):Rat:=p3 (sm (kOf a b c)) a b c
noncomputable def tn (a b c:Rat):Rat:=(ss (kOf a b c):Rat) + (sw (kOf a b c):Rat) * ((mi a b c - lo a b c) / (hi a b c - lo a b c))
noncomputable def tO (a b c:Rat):Option Rat:=if hi a b c=lo a b c then none else some (tn a b c)
noncomputable def c0 (t:Rat):Rat:=if t≤1 then 1 else if t≤2 then 2 - t else if t≤4 then 0 else if t≤5 then t - 4 else 1
noncomputable def c1 (t:Rat):Rat:=if t≤1 then t else if t≤3 then 1 else if t≤4 then 4 - t else 0
noncomputable def c2 (t:Rat):Rat:=if t≤2 then 0 else if t≤3 then t - 2 else if t≤5 then 1 else 6 - t
noncomputable def At (w g t a b c:Rat):Prop:=a=w + c0 t * (g - w)∧b=w + c1 t * (g - w)∧c=w + c2 t * (g - w)
theorem sE (a b c:Rat):(kOf a b c=0∧b≤a∧c≤b)∨(kOf a b c=1∧a≤b∧c≤a∧a < b)∨(kOf a b c=2∧c≤b∧a≤c∧a < c)∨(kOf a b c=3∧b≤c∧a≤b∧b < c)∨(kOf a b c=4∧a≤c∧b≤a∧b < a)∨(kOf a b c=5∧c≤a∧b≤c∧c < a∧b < c):=by
  unfold kOf iF p3 sg sm sl
  simp only [Bool.and_eq_true,Bool.not_eq_true',decide_eq_false_iff_not,Rat.not_lt]
  split
  · grind
  · split
    · grind
    · split
      · grind
      · split
        · grind
        · split
          · grind
          · grind
theorem aKT {w d x y:Rat} (h:0 < d):w + x * d≤w + y * d↔x≤y:=by
  constructor
  · intro z
    exact Rat.le_of_mul_le_mul_right (c:=d) (by grind) h
  · intro z
    have:=Rat.mul_le_mul_of_nonneg_right z (Rat.le_of_lt h)
    grind
theorem aJJ {w d x y:Rat} (h:0 < d):w + x * d < w + y * d↔x < y:=by
  rw [←Rat.not_le,←Rat.not_le,aKT h]
theorem EQ {w d x y z:Rat} (h:0 < d):kOf (w + x * d) (w + y * d) (w + z * d)=kOf x y z:=by
  unfold kOf iF p3 sg sm sl
  simp only [aJJ h]
theorem aDw {t:Rat} (h0:0≤t) (h6:t < 6):(t≤1∧c0 t=1∧c1 t=t∧c2 t=0)∨(1 < t∧t≤2∧c0 t=2 - t∧c1 t=1∧c2 t=0)∨(2 < t∧t≤3∧c0 t=0∧c1 t=1∧c2 t=t - 2)∨(3 < t∧t≤4∧c0 t=0∧c1 t=4 - t∧c2 t=1)∨(4 < t∧t≤5∧c0 t=t - 4∧c1 t=0∧c2 t=1)∨(5 < t∧c0 t=1∧c1 t=0∧c2 t=6 - t):=by
  unfold c0 c1 c2
  by_cases h1:t≤1
  · grind
  by_cases h2:t≤2
  · grind
  by_cases h3:t≤3
  · grind
  by_cases h4:t≤4
  · grind
  by_cases h5:t≤5
  · grind
  · grind
theorem aDE {t:Rat} (h0:0≤t) (h6:t < 6):lo (c0 t) (c1 t) (c2 t)=0∧hi (c0 t) (c1 t) (c2 t)=1∧(ss (kOf (c0 t) (c1 t) (c2 t)):Rat) + (sw (kOf (c0 t) (c1 t) (c2 t)):Rat) * mi (c0 t) (c1 t) (c2 t)=t:=by
  unfold lo hi mi
  have k:=sE (c0 t) (c1 t) (c2 t)
  have cc:=aDw h0 h6
  have i0:((0:Int):Rat)=0:=rfl
  have i1:((1:Int):Rat)=1:=rfl
  have i2:((2:Int):Rat)=2:=rfl
  have i4:((4:Int):Rat)=4:=rfl
  have i6:((6:Int):Rat)=6:=rfl
  have im:((-1:Int):Rat)= -1:=rfl
  rcases k with ⟨k,q⟩ | ⟨k,q⟩ | ⟨k,q⟩ | ⟨k,q⟩ | ⟨k,q⟩ | ⟨k,q⟩ <;> rw [k] <;> simp only [p3,sg,sl,sm,ss,sw,i0,i1,i2,i4,i6,im] <;> clear k <;> generalize c0 t=x at * <;> generalize c1 t=y at * <;> generalize c2 t=z at * <;> grind
theorem ZJ {i:Nat} {w d x y z:Rat}:p3 i (w + x * d) (w + y * d) (w + z * d)=w + p3 i x y z * d:=by
  unfold p3
  split <;> rfl
theorem HU {w g t a b c:Rat} (h0:0≤t) (h6:t < 6) (hw:w < g) (h:At w g t a b c):lo a b c=w∧hi a b c=g∧tn a b c=t∧tO a b c=some t:=by
  obtain ⟨ea,eb,ec⟩:=h
  have d0:0 < g - w:=by grind
  obtain ⟨u1,u2,u3⟩:=aDE h0 h6
  unfold lo at u1
  unfold hi at u2
  unfold mi at u3
  have e1:lo a b c=w:=by unfold lo; rw [ea,eb,ec,EQ d0,ZJ,u1]; grind
  have e2:hi a b c=g:=by unfold hi; rw [ea,eb,ec,EQ d0,ZJ,u2]; grind
  have e3:mi a b c=w + p3 (sm (kOf (c0 t) (c1 t) (c2 t))) (c0 t) (c1 t) (c2 t) * (g - w):=by unfold mi; rw [ea,eb,ec,EQ d0,ZJ]
  have e4:tn a b c=t:=by
    unfold tn
    rw [e1,e2,e3]
    have ek:kOf a b c=kOf (c0 t) (c1 t) (c2 t):=by rw [ea,eb,ec,EQ d0]
    rw [ek]
    have:(w + p3 (sm (kOf (c0 t) (c1 t) (c2 t))) (c0 t) (c1 t) (c2 t) * (g - w) - w) / (g - w)=p3 (sm (kOf (c0 t) (c1 t) (c2 t))) (c0 t) (c1 t) (c2 t):=by
      have:w + p3 (sm (kOf (c0 t) (c1 t) (c2 t))) (c0 t) (c1 t) (c2 t) * (g - w) - w=p3 (sm (kOf (c0 t) (c1 t) (c2 t))) (c0 t) (c1 t) (c2 t) * (g - w):=by grind
      rw [this]
      exact Rat.mul_div_cancel (by grind)
    rw [this]; exact u3
  refine ⟨e1,e2,e4, ?_⟩
  unfold tO
  rw [if_neg (by rw [e1,e2]; grind),e4]
theorem aM6 {x d:Rat} (h0:0≤x) (h1:x≤d) (hd:0 < d):0≤x / d∧x / d≤1∧x / d * d=x∧(0 < x→0 < x / d)∧(x < d→x / d < 1):=by
  have e:x / d * d=x:=Rat.div_mul_cancel (by grind)
  refine ⟨Rat.le_of_mul_le_mul_right (c:=d) (by grind) hd,Rat.le_of_mul_le_mul_right (c:=d) (by grind) hd,e,fun z=>?_,fun z=>?_⟩
  · refine Rat.not_le.mp fun q=>?_
    have:=Rat.mul_le_mul_of_nonneg_right q (Rat.le_of_lt hd)
    grind
  · refine Rat.not_le.mp fun q=>?_
    have:=Rat.mul_le_mul_of_nonneg_right q (Rat.le_of_lt hd)
    grind
theorem aAS (a b c:Rat):(a=b∧b=c∧lo a b c=a∧hi a b c=a∧tO a b c=none)∨∃ t,0≤t∧t < 6∧lo a b c < hi a b c∧At (lo a b c) (hi a b c) t a b c∧tO a b c=some t:=by
  by_cases hg:hi a b c=lo a b c
  · left
    have ht:tO a b c=none:=by unfold tO; rw [if_pos hg]
    rw [ht]
    unfold lo hi at *
    rcases sE a b c with ⟨k,q⟩ | ⟨k,q⟩ | ⟨k,q⟩ | ⟨k,q⟩ | ⟨k,q⟩ | ⟨k,q⟩ <;> rw [k] at hg ⊢ <;> simp only [p3,sg,sl] at hg ⊢ <;> grind
  · right
    have ht:tO a b c=some (tn a b c):=by unfold tO; rw [if_neg hg]
    refine ⟨tn a b c, ?_⟩
    rw [ht]
    have i0:((0:Int):Rat)=0:=rfl
    have i1:((1:Int):Rat)=1:=rfl
    have i2:((2:Int):Rat)=2:=rfl
    have i4:((4:Int):Rat)=4:=rfl
    have i6:((6:Int):Rat)=6:=rfl
    have im:((-1:Int):Rat)= -1:=rfl
    have main:∀ {m l g:Rat},l≤m→m≤g→l≠g→0 < g - l∧0≤(m - l) / (g - l)∧(m - l) / (g - l)≤1∧(m - l) / (g - l) * (g - l)=m - l∧(l < m→0 < (m - l) / (g - l))∧(m < g→(m - l) / (g - l) < 1):=fun {m l g} h1 h2 h3=>by
      obtain ⟨x1,x2,x3,x4,x5⟩:=aM6 (x:=m - l) (d:=g - l) (by grind) (by grind) (by grind)
      exact ⟨by grind,x1,x2,x3,fun z=>x4 (by grind),fun z=>x5 (by grind)⟩
    unfold At tn lo hi mi at *
    rcases sE a b c with ⟨k,q⟩ | ⟨k,q⟩ | ⟨k,q⟩ | ⟨k,q⟩ | ⟨k,q⟩ | ⟨k,q⟩ <;> rw [k] at hg ⊢ <;> simp only [p3,sg,sl,sm,ss,sw,i0,i1,i2,i4,i6,im] at hg ⊢
    · obtain ⟨x0,x1,x2,x3,x4,x5⟩:=main (m:=b) (l:=c) (g:=a) q.2 q.1 (by grind)
      generalize (b - c) / (a - c)=F at *
      refine ⟨by grind,by grind,by grind,⟨?_, ?_, ?_⟩,trivial⟩ <;> simp only [c0,c1,c2] <;> grind
    · obtain ⟨x0,x1,x2,x3,x4,x5⟩:=main (m:=a) (l:=c) (g:=b) q.2.1 q.1 (by grind)
      generalize (a - c) / (b - c)=F at *
      refine ⟨by grind,by grind,by grind,⟨?_, ?_, ?_⟩,trivial⟩ <;> simp only [c0,c1,c2] <;> grind
    · obtain ⟨x0,x1,x2,x3,x4,x5⟩:=main (m:=c) (l:=a) (g:=b) q.2.1 q.1 (by grind)
      generalize (c - a) / (b - a)=F at *
      refine ⟨by grind,by grind,by grind,⟨?_, ?_, ?_⟩,trivial⟩ <;> simp only [c0,c1,c2] <;> grind
    · obtain ⟨x0,x1,x2,x3,x4,x5⟩:=main (m:=b) (l:=a) (g:=c) q.2.1 q.1 (by grind)
      generalize (b - a) / (c - a)=F at *
      refine ⟨by grind,by grind,by grind,⟨?_, ?_, ?_⟩,trivial⟩ <;> simp only [c0,c1,c2] <;> grind
    · obtain ⟨x0,x1,x2,x3,x4,x5⟩:=main (m:=a) (l:=b) (g:=c) q.2.1 q.1 (by grind)
      generalize (a - b) / (c - b)=F at *
      refine ⟨by grind,by grind,by grind,⟨?_, ?_, ?_⟩,trivial⟩ <;> simp only [c0,c1,c2] <;> grind
    · obtain ⟨x0,x1,x2,x3,x4,x5⟩:=main (m:=c) (l:=b) (g:=a) q.2.1 q.1 (by grind)
      generalize (c - b) / (a - b)=F at *
      refine ⟨by grind,by grind,by grind,⟨?_, ?_, ?_⟩,trivial⟩ <;> simp only [c0,c1,c2] <;> grind
theorem aGl {w g x q p a:Rat} (h:a=w + x * (g - w)):a + p * (q - a)=w + p * (q - w) + x * (g + p * (q - g) - (w + p * (q - w))):=by rw [h]; grind
theorem aIs {w g t a b c q p:Rat} (h:At w g t a b c):At (w + p * (q - w)) (g + p * (q - g)) t (a + p * (q - a)) (b + p * (q - b)) (c + p * (q - c)):=⟨aGl h.1,aGl h.2.1,aGl h.2.2⟩
noncomputable def r6 (q:Rat):Rat:=q - ((6 * (q.num / (6 * (q.den:Int))):Int):Rat)
theorem sub_int (q:Rat) (z:Int):(q - (z:Rat)).num=q.num - z * (q.den:Int)∧(q - (z:Rat)).den=q.den:=by
  have e:q - (z:Rat)=Rat.divInt (q.num - z * (q.den:Int)) (q.den:Int):=by
    have:=OL q (z:Rat)
    rw [←this]
    show Rat.divInt (q.num * ((1:Nat):Int) - z * (q.den:Int)) ((q.den:Int) * ((1:Nat):Int))=_
    congr 1 <;> omega
  have hd:=xS (q:=q)
  have g:Int.gcd (q.den:Int) (q.num - z * (q.den:Int))=1:=by
    rw [Int.gcd_sub_mul_right_right]
    have:=q.reduced
    rw [Int.gcd_comm]; exact this
  constructor
  · rw [e,Rat.num_divInt,g,Int.sign_eq_one_of_pos hd]; simp
  · rw [e,Rat.den_divInt,if_neg (by omega),g]; simp
noncomputable def stV (k:Nat):PV:=.tup [.int (sg k:Int),.int (sl k:Int),.int (sm k:Int),.int (ss k),.int (sw k)]
noncomputable def tV:Option Rat→PV
  | none=>.non
  | some t=>FQ t
noncomputable def xJ (a b c:Rat):PV:=.tup [tV (tO a b c),FQ (lo a b c),FQ (1 - hi a b c)]
noncomputable def TOk (w b:Rat):Option Rat→Prop
  | none=>w + b=1
  | some t=>(0≤t∧t < 6)∧w + b < 1
noncomputable def TBd (n:Nat):Option Rat→Prop
  | none=>True
  | some t=>Bd n t
noncomputable def BW (w b:Rat) (o:Option Rat) (x y z:Rat):Prop:=match o with
  | none=>x=w∧y=w∧z=w
  | some t=>At w (1 - b) t x y z
noncomputable def rot (n:Int) (a b c:Rat):R3:=if n % 3=0 then (a,b,c) else if n % 3=1 then (c,a,b) else (b,c,a)
noncomputable def nH:Sp3:=fun xs G Q=>∃ a b,xs=[FQ a,FQ b]∧Bd 4000 a∧Bd 4000 b∧Q (.bl (decide (a < b))) G
noncomputable def kM:Sp3:=fun xs G Q=>∃ a b c k,xs=[.tup [FQ a,FQ b,FQ c],stV k]∧Bd 4000 a∧Bd 4000 b∧Bd 4000 c∧Q (.bl (iF k a b c)) G
noncomputable def jR:Sp3:=fun xs G Q=>∃ a b c,xs=[.tup [FQ a,FQ b,FQ c]]∧Bd 4000 a∧Bd 4000 b∧Bd 4000 c∧Q (stV (kOf a b c)) G
noncomputable def pQ:Sp3:=fun xs G Q=>∃ a b c,xs=[SH a b c]∧Bd 600 a∧Bd 600 b∧Bd 600 c∧Q (xJ a b c) G
noncomputable def CN:Sp3:=fun xs G Q=>∃ a,xs=[FQ a]∧0≤a∧Q (.bl true) G
noncomputable def aBF:Sp3:=fun xs G Q=>∃ w b o,xs=[FQ w,FQ b,tV o]∧TOk w b o∧Bd 600 w∧Bd 600 b∧TBd 3000 o∧Q .non G
noncomputable def aLR:Sp3:=fun xs G Q=>∃ w b o,xs=[FQ w,FQ b,tV o]∧0≤w∧0≤b∧TOk w b o∧Bd 300 w∧Bd 300 b∧TBd 1100 o∧∀ x y z,BW w b o x y z→Q (SH x y z) G
noncomputable def GI:Sp3:=fun xs G Q=>∃ p,xs=[FQ p]∧In1 p∧Q (FQ p) G
noncomputable def WQ:Sp3:=fun xs G Q=>∃ a b c q p,xs=[SH a b c,FQ q,FQ p]∧(In1 a∧In1 b∧In1 c)∧In1 q∧In1 p∧(Bd 260 a∧Bd 260 b∧Bd 260 c)∧Bd 2 q∧Bd 12 p∧Q (SH (a + p * (q - a)) (b + p * (q - b)) (c + p * (q - c))) G
noncomputable def ZC (q:Rat):Sp3:=fun xs G Q=>∃ a b c p,xs=[SH a b c,FQ p]∧(In1 a∧In1 b∧In1 c)∧In1 p∧(Bd 260 a∧Bd 260 b∧Bd 260 c)∧Bd 12 p∧Q (SH (a + p * (q - a)) (b + p * (q - b)) (c + p * (q - c))) G
noncomputable def aJ8:Sp3:=fun xs G Q=>∃ a b c,xs=[SH a b c]∧(In1 a∧In1 b∧In1 c)∧(Bd 260 a∧Bd 260 b∧Bd 260 c)∧Q (SH (1 - a) (1 - b) (1 - c)) G
noncomputable def JF:Sp3:=fun xs G Q=>∃ a b c n,xs=[SH a b c,.int n]∧(In1 a∧In1 b∧In1 c)∧Q (shV (rot n a b c)) G
noncomputable def aG0:Sp3:=fun xs G Q=>xs=[SH 0 0 0]∧Q (.int 0) G
noncomputable def QF:Sp3:=fun xs G Q=>∃ p,xs=[.ref p]∧Pu p G∧∀ w b o G',0≤w→0≤b→TOk w b o→Bd 12 w→Bd 40 b→TBd 12 o→Pn p G G'→Q (.tup [FQ w,FQ b,tV o]) G'
noncomputable def aDi:Sp3:=fun xs G Q=>∃ o n,xs=[tV o,.int n]∧TBd 1100 o∧Sm 80 n∧Q (tV (o.map fun t=>r6 (t + (n:Rat)))) G
noncomputable def aAb:Sp3:=fun xs G Q=>∃ w b p,xs=[FQ w,FQ b,FQ p]∧Bd 600 w∧Bd 600 b∧Bd 12 p∧Q (.tup [FQ (w + p * (1 - w)),FQ (b - p * b)]) G
noncomputable def aCO:Sp3:=fun xs G Q=>∃ x a b c n p,xs=[x,SH a b c,.int n,FQ p]∧(In1 a∧In1 b∧In1 c)∧(Bd 250 a∧Bd 250 b∧Bd 250 c)∧Sm 75 n∧In1 p∧Bd 12 p∧Q (.bl true) G
structure L17 (T:Tb):Prop where
  less:T.S "less"=nH
  falls:T.S "falls"=kM
  stretch_of:T.S "stretch_of"=jR
  wheel_of:T.S "wheel_of"=pQ
  is_from_0:T.S "is_from_0"=CN
  need_turn:T.S "need_turn"=aBF
  by_wheel:T.S "by_wheel"=aLR
  part_of:T.S "part_of"=GI
  toward:T.S "toward"=WQ
  darker:T.S "darker"=ZC 0
  lighter:T.S "lighter"=ZC 1
  opposite:T.S "opposite"=aJ8
  turned:T.S "turned"=JF
  eqS:T.S "Shade.__eq__"=xC
  lenS:T.S "Shade.__len__"=aG0
  turn_row:T.S "_law_turn_row"=QF
  round:T.S "_law_round"=aDi
  lifted:T.S "_law_lifted"=aAb
  right:T.S "_law_right"=aCO
  gv_HALF:T.gv "HALF"= .tup [.int 1,.int 2]
  gv_ST:T.gv "STRETCHES"= .tup [stV 0,stV 1,stV 2,stV 3,stV 4,stV 5]
theorem ix3 {i:Nat} {a b c:Rat} (h:i < 3):atI [FQ a,FQ b,FQ c] (i:Int)=some (FQ (p3 i a b c)):=by
  have e:i=0∨i=1∨i=2:=by omega
  rcases e with rfl | rfl | rfl
  · exact at0
  · exact at1
  · exact at2
theorem aKp {k:Nat}:sg k < 3:=by unfold sg; split <;> decide
theorem aKD {k:Nat}:sl k < 3:=by unfold sl; split <;> decide
theorem aI5 {k:Nat}:sm k < 3:=by unfold sm; split <;> decide
theorem aEH {k:Nat} {a b c:Rat}:atI [FQ a,FQ b,FQ c] (sg k:Int)=some (FQ (p3 (sg k) a b c)):=ix3 aKp
theorem aFs {k:Nat} {a b c:Rat}:atI [FQ a,FQ b,FQ c] (sl k:Int)=some (FQ (p3 (sl k) a b c)):=ix3 aKD
theorem aFE {k:Nat} {a b c:Rat}:atI [FQ a,FQ b,FQ c] (sm k:Int)=some (FQ (p3 (sm k) a b c)):=ix3 aI5
theorem oO {n i:Nat} {a b c:Rat} (ha:Bd n a) (hb:Bd n b) (hc:Bd n c):Bd n (p3 i a b c):=by unfold p3; split <;> assumption
theorem aL0 {a b c d e:PV} {G:Gh} {Q:PK1}:aAi (.tup [a,b,c,d,e]) none (some 3) G Q=Q (.tup [a,b,c]) G:=by
  show (¬(HT.sIx 5 0 none=0∧HT.sIx 5 5 (some 3)=5)∧Q (.tup (yM [a,b,c,d,e] none (some 3))) G)=_
  have h1:HT.sIx 5 0 none=0:=rfl
  have h2:HT.sIx 5 5 (some 3)=3:=by decide
  have h3:yM [a,b,c,d,e] none (some 3)=[a,b,c]:=by
    unfold yM
    show List.take (HT.sIx 5 5 (some 3) - HT.sIx 5 0 none) (List.drop (HT.sIx 5 0 none) [a,b,c,d,e])=_
    rw [h1,h2]; rfl
  rw [h3,h2]; simp
theorem aAO {chk:Gh→Prop} {ts:PTT} {te:PTE} {s:Option PV} {G:Gh} {Q:List PV→Gh→Prop} (p:PV→Bool) (hc:chk G) (hq:∀ (l acc:List PV),True) :
    ∀ (l acc:List PV) (u v:Option PV),(∀ x∈l,∀ u R,R (p x) G→ts [u,some x,s] G R)→(∀ x∈l,∀ u R,R x G→te [u,some x,s] G R)→Q (acc ++ l.filter p) G→gU chk (fun x σ G Q=>Q (σ.set 1 (some x)) G) ts te l acc [u,v,s] G Q
  | [],acc,u,v,_,_,q=>⟨hc,by simpa using q⟩
  | x :: l,acc,u,v,h1,h2,q=>by
    refine ⟨hc, ?_⟩
    show ts [u,some x,s] G _
    refine h1 x (List.mem_cons_self ..) u _ ?_
    cases hp:p x with
    | true =>
      rw [if_pos rfl]
      refine h2 x (List.mem_cons_self ..) u _ ?_
      refine aAO p hc hq l (acc ++ [x]) u (some x) (fun y hy=>h1 y (List.mem_cons_of_mem _ hy)) (fun y hy=>h2 y (List.mem_cons_of_mem _ hy)) ?_
      rw [List.filter_cons,hp,if_pos rfl] at q
      rw [List.append_assoc]; exact q
    | false =>
      rw [if_neg Bool.false_ne_true]
      refine aAO p hc hq l acc u (some x) (fun y hy=>h1 y (List.mem_cons_of_mem _ hy)) (fun y hy=>h2 y (List.mem_cons_of_mem _ hy)) ?_
      rw [List.filter_cons,hp,if_neg Bool.false_ne_true] at q
      exact q
theorem aLc {a b c:Rat} (h0:iF 0 a b c=false) (h1:iF 1 a b c=false) (h2:iF 2 a b c=false) (h3:iF 3 a b c=false) (h4:iF 4 a b c=false):iF 5 a b c=true:=by
  unfold iF p3 sg sm sl at *
  simp only [Bool.and_eq_true,Bool.and_eq_false_iff,Bool.not_eq_true',Bool.not_eq_false',decide_eq_false_iff_not,decide_eq_true_eq,Rat.not_lt] at *
  grind
noncomputable def ZV (a b c:Rat):PV→Bool
  | .tup [.int g,.int l,.int m,_,_]=> !decide (p3 g.toNat a b c < p3 m.toNat a b c) && !decide (p3 m.toNat a b c < p3 l.toNat a b c)
  | _=>false
theorem cN {k:Nat} {a b c:Rat}:ZV a b c (stV k)=iF k a b c:=rfl
theorem YD {a b c:Rat}:∃ r,[stV 0,stV 1,stV 2,stV 3,stV 4,stV 5].filter (ZV a b c)=stV (kOf a b c) :: r:=by
  unfold kOf
  by_cases h0:iF 0 a b c=true
  · rw [if_pos h0,List.filter_cons_of_pos (by rw [cN]; exact h0)]; exact ⟨_,rfl⟩
  rw [if_neg h0,List.filter_cons_of_neg (by rw [cN]; exact h0)]
  by_cases h1:iF 1 a b c=true
  · rw [if_pos h1,List.filter_cons_of_pos (by rw [cN]; exact h1)]; exact ⟨_,rfl⟩
  rw [if_neg h1,List.filter_cons_of_neg (by rw [cN]; exact h1)]
  by_cases h2:iF 2 a b c=true
  · rw [if_pos h2,List.filter_cons_of_pos (by rw [cN]; exact h2)]; exact ⟨_,rfl⟩
  rw [if_neg h2,List.filter_cons_of_neg (by rw [cN]; exact h2)]
  by_cases h3:iF 3 a b c=true
  · rw [if_pos h3,List.filter_cons_of_pos (by rw [cN]; exact h3)]; exact ⟨_,rfl⟩
  rw [if_neg h3,List.filter_cons_of_neg (by rw [cN]; exact h3)]
  by_cases h4:iF 4 a b c=true
  · rw [if_pos h4,List.filter_cons_of_pos (by rw [cN]; exact h4)]; exact ⟨_,rfl⟩
  rw [if_neg h4,List.filter_cons_of_neg (by rw [cN]; exact h4)]
  have f:∀ {x:Bool},¬x=true→x=false:=fun {x} h=>by simpa using h
  rw [List.filter_cons_of_pos (by rw [cN]; exact aLc (f h0) (f h1) (f h2) (f h3) (f h4))]
  exact ⟨_,rfl⟩
set_option hygiene false in
local macro_rules | `(tactic| walk_at "rd") => `(tactic| simp only [wpS, wpE, wpL, wpT, wpO, wpI, wpG, eX, aM, aC, List.length_cons, List.length_nil, List.cons_append, List.nil_append, List.append_nil, List.replicate, Nat.reduceAdd, Nat.reduceSub, Nat.zero_add, List.getElem?_cons_zero, List.getElem?_cons_succ, List.set_cons_zero, List.set_cons_succ, Option.some.injEq, exists_eq_left', true_and, and_true, ite_self, false_and, and_false, or_false, iM, mB, DT, eG, oH, gP, cX, rN, eL, lZ, fS, cY, aH.1, aH.2.1, aH.2.2.1, at0, List.cons.injEq, PV.int.injEq, PV.bl.injEq, PV.str.injEq, PV.ref.injEq, PV.tup.injEq, and_assoc, exists_and_left, eq_self, XN, aA0, iN, jP, bT, LK, DM, Int.reduceToNat, Int.reducePow, exists_eq', jZ, Option.getD_some, List.map, gH, dU, dB, iS, gL, bD, Bool.not_true, Bool.not_false, Bool.and_self, Bool.and_true, Bool.true_and, if_true, if_false, ite_true, ite_false, Bool.false_eq_true, decide_eq_true_eq, decide_true, decide_false, reduceCtorEq, sz2, sz3, Wk.here, aEH, aFs, aFE, aL0, nH, kM, CN, *])
section
variable {T:Tb}
noncomputable def BJ:CS:=kI
theorem aHj:∀ xs G Q,nH xs G Q→wpS T BJ (aM Q) (aC 2 xs) G:=RZ
noncomputable def wZ:CS:=(.seq (.ex (.cal "need_fractions" (.cons (.tup (.cons (.var 0) (.cons (.var 1) .nil))) .nil)))
  (.ret (.cal "less" (.cons (.var 0) (.cons (.var 1) .nil)))))
noncomputable def tQ:CS:=(.seq (.ex (.cal "need_fractions" (.cons (.tup (.cons (.var 0) (.cons (.var 1) .nil))) .nil)))
  (.seq (.iff (.tsb (.cmp .Eq (.idx (.var 1) (.int 0)) (.int 0))) .nev .nil)
  (.ret (.cal "lowest" (.cons (.bin .Mult (.idx (.var 0) (.int 0)) (.idx (.var 1) (.int 1))) (.cons (.bin .Mult (.idx (.var 0) (.int 1)) (.idx (.var 1) (.int 0))) .nil))))))
theorem aIa (h:PT T):∀ xs G Q,iS xs G Q→wpS T tQ (aM Q) (aC 2 xs) G:=by
  rintro xs G Q ⟨a,b,rfl,ha,hb,h0,hq⟩
  unfold tQ
  have:=h.need_fractions
  have:=h.lowest
  have n0:¬b.num=0:=fun z=>h0 (Rat.num_eq_zero.mp z)
  walk_at "rd"
  refine ⟨fV ha.1 hb.2,fV ha.2 hb.1,gA bU n0,(ha.2.mul hb.1).mono (by decide),Wk.here ?_⟩
  rw [aEE]; exact hq
noncomputable def nJ:CS:=(.seq (.asg (.gt 3 (.cons (.gn 2) (.cons (.gn 3) (.cons (.gn 4) .nil)))) (.sli (.var 1) .nil (.tst (.int 3))))
  (.ret (.an (.no (.cal "below" (.cons (.idx (.var 0) (.var 2)) (.cons (.idx (.var 0) (.var 4)) .nil)))) (.no (.cal "below" (.cons (.idx (.var 0) (.var 4)) (.cons (.idx (.var 0) (.var 3)) .nil)))))))
theorem aDn (h:PT T):∀ xs G Q,kM xs G Q→wpS T nJ (aM Q) (aC 5 xs) G:=by
  rintro xs G Q ⟨a,b,c,k,rfl,ha,hb,hc,hq⟩
  unfold nJ stV
  have:=h.below
  have b1:=oO (i:=sg k) ha hb hc
  have b2:=oO (i:=sm k) ha hb hc
  have b3:=oO (i:=sl k) ha hb hc
  unfold iF at hq
  walk_at "rd"
  by_cases e:p3 (sg k) a b c < p3 (sm k) a b c
  · rw [decide_eq_true e] at hq ⊢
    simp only [Bool.not_true,Bool.false_and,Bool.false_eq_true,if_false] at hq ⊢
    exact Wk.here hq
  · rw [decide_eq_false e] at hq ⊢
    simp only [Bool.not_false,Bool.true_and,if_true] at hq ⊢
    exact Wk.here hq
noncomputable def lA:CS:=(.seq (.asg (.gn 1) (.cmpr false (.gn 1) (.isq (.glo "STRETCHES")) (.tst (.cal "falls" (.cons (.var 2) (.cons (.var 1) .nil)))) (.var 1) [none,none,some 0]))
  (.ret (.idx (.var 1) (.int 0))))
theorem aFX {x:PV} (h:x∈ [stV 0,stV 1,stV 2,stV 3,stV 4,stV 5]):∃ k,x=stV k:=by
  simp only [List.mem_cons,List.not_mem_nil,or_false] at h
  rcases h with h | h | h | h | h | h <;> exact ⟨_,h⟩
noncomputable def mP:CS:=(.seq (.asg (.gn 1) (.cal "shares_of" (.cons (.var 0) .nil)))
  (.seq (.asg (.gt 5 (.cons (.gn 2) (.cons (.gn 3) (.cons (.gn 4) (.cons (.gn 5) (.cons (.gn 6) .nil)))))) (.cal "stretch_of" (.cons (.var 1) .nil)))
  (.seq (.asg (.gn 7) (.idx (.var 1) (.var 3)))
  (.seq (.asg (.gn 8) (.cal "minus" (.cons (.glo "ONE") (.cons (.idx (.var 1) (.var 2)) .nil))))
  (.seq (.iff (.tsb (.cmp .Eq (.idx (.var 1) (.var 2)) (.var 7))) (.ret (.tup (.cons .non (.cons (.var 7) (.cons (.var 8) .nil))))) .nil)
  (.seq (.asg (.gn 9) (.cal "over" (.cons (.cal "minus" (.cons (.idx (.var 1) (.var 4)) (.cons (.var 7) .nil))) (.cons (.cal "minus" (.cons (.idx (.var 1) (.var 2)) (.cons (.var 7) .nil))) .nil))))
  (.ret (.tup (.cons (.cal "plus" (.cons (.tup (.cons (.var 5) (.cons (.int 1) .nil))) (.cons (.cal "times" (.cons (.tup (.cons (.var 6) (.cons (.int 1) .nil))) (.cons (.var 9) .nil))) .nil))) (.cons (.var 7) (.cons (.var 8) .nil)))))))))))
theorem aEz {k:Nat}:Sm 3 (ss k):=by unfold ss Sm; split <;> decide
theorem aEK {k:Nat}:Sm 3 (sw k):=by unfold sw Sm; split <;> decide
theorem bd1:Bd 2 1:=⟨by unfold Sm; decide,by unfold Sm; decide⟩
end
theorem tG {a q p:Rat} (ha:In1 a) (hq:In1 q) (hp:In1 p):In1 (a + p * (q - a)):=by
  have x1:0≤(1 - p) * a:=Rat.mul_nonneg (by have:=hp.2; grind) ha.1
  have x2:0≤p * q:=Rat.mul_nonneg hp.1 hq.1
  have x3:0≤(1 - p) * (1 - a):=Rat.mul_nonneg (by have:=hp.2; grind) (by have:=ha.2; grind)
  have x4:0≤p * (1 - q):=Rat.mul_nonneg hp.1 (by have:=hq.2; grind)
  exact ⟨by grind,by grind⟩
theorem rO {a:Rat} (h:In1 a):In1 (1 - a):=⟨by have:=h.2; grind,by have:=h.1; grind⟩
theorem aDk:In1 0:=⟨by decide,by decide⟩
theorem ND:In1 1:=⟨by decide,by decide⟩
theorem XS {ks:List Key} {xs:List PV} {i:Int} {G:Gh} {Q:PK1}:xB (.dct ks xs) (.int i) G Q=(∃ v,BK ks xs (.inl i)=some v∧Q v G):=rfl
set_option hygiene false in
local macro_rules | `(tactic| walk_at "rd") => `(tactic| simp only [wpS, wpE, wpL, wpT, wpO, wpI, wpG, eX, aM, aC, List.length_cons, List.length_nil, List.cons_append, List.nil_append, List.append_nil, List.replicate, Nat.reduceAdd, Nat.reduceSub, Nat.zero_add, List.getElem?_cons_zero, List.getElem?_cons_succ, List.set_cons_zero, List.set_cons_succ, Option.some.injEq, exists_eq_left', true_and, and_true, exists_false, ite_self, false_and, and_false, or_false, iM, lF, oZ, lI, vG, oH, cX, eL, tH, fS, cY, aH.1, aH.2.1, aH.2.2.1, at0, at1, at2, aLj, aBg, XC, aIT, List.cons.injEq, PV.int.injEq, PV.bl.injEq, PV.str.injEq, PV.ref.injEq, PV.tup.injEq, and_assoc, exists_and_left, eq_self, XN, aA0, iN, cV, Int.reduceToNat, Int.reducePow, exists_eq', GX, AQ, jC, gZ, EX, jZ, wV, Option.getD_some, List.map, gH, dU, dB, eE, mK, iI, bD, fI, Bool.not_true, Bool.not_false, Bool.and_self, Bool.and_true, Bool.true_and, if_true, if_false, ite_true, ite_false, Bool.false_eq_true, decide_eq_true_eq, decide_true, decide_false, reduceCtorEq, sz2, sz3, Wk.here, CN, GI, XS, *])
section
variable {T:Tb}
noncomputable def pE:CS:=(.seq (.iff (.tsb (.cmp .Is (.var 0) .non)) (.ret (.glo "HALF")) .nil)
  (.seq (.iff (.no (.tst (.cal "is_share" (.cons (.var 0) .nil)))) .nev .nil)
  (.ret (.var 0))))
theorem WP {t:Rat} {G:Gh} {Q:PK1}:pIs false (FQ t) .non G Q=Q (.bl false) G:=BS (fun z=>by cases z)
noncomputable def tX:CS:=(.ret (.cal "shade_of" (.cons (.cmpr false (.gn 1) (.isq (.cal "shares_of" (.cons (.var 0) .nil))) .nil (.cal "plus" (.cons (.var 1) (.cons (.cal "times" (.cons (.var 3) (.cons (.cal "minus" (.cons (.var 2) (.cons (.var 1) .nil))) .nil))) .nil))) [none,none,some 1,some 2]) .nil)))
noncomputable def uF:CS:=(.seq (.ex (.cal "need_shade" (.cons (.var 0) .nil)))
  (.ret (.cal "toward" (.cons (.var 0) (.cons (.glo "ZERO") (.cons (.cal "part_of" (.cons (.var 1) .nil)) .nil))))))
noncomputable def oP:CS:=(.seq (.ex (.cal "need_shade" (.cons (.var 0) .nil)))
  (.ret (.cal "toward" (.cons (.var 0) (.cons (.glo "ONE") (.cons (.cal "part_of" (.cons (.var 1) .nil)) .nil))))))
noncomputable def mO:CS:=(.ret (.cal "shade_of" (.cons (.cmpr false (.gn 1) (.isq (.cal "shares_of" (.cons (.var 0) .nil))) .nil (.cal "minus" (.cons (.glo "ONE") (.cons (.var 1) .nil))) [none,none]) .nil)))
noncomputable def iH:CS:=(.seq (.ex (.cal "need_shade" (.cons (.var 0) .nil)))
  (.seq (.iff (.tsb (.cmp .Is (.var 1) .non)) (.asg (.gn 1) (.int 1)) .nil)
  (.seq (.iff (.no (.tst (.cal "is_whole" (.cons (.var 1) .nil)))) .nev .nil)
  (.seq (.asg (.gn 2) (.cal "shares_of" (.cons (.var 0) .nil)))
  (.ret (.cal "shade_of" (.cons (.cmpr false (.gn 1) (.irg (.cons (.int 3) .nil)) .nil (.idx (.var 3) (.bin .Mod (.bin .Sub (.var 1) (.var 2)) (.int 3))) [none,none,some 1,some 2]) .nil)))))))
theorem HR {n:Int} {G:Gh} {Q:PK1}:pIs false (.int n) .non G Q=Q (.bl false) G:=BS (fun z=>by cases z)
theorem aAU (h:PT T):∀ xs G Q,JF xs G Q→wpS T iH (aM Q) (aC 3 xs) G:=by
  rintro xs G Q ⟨a,b,c,n,rfl,⟨ia,ib,ic⟩,hq⟩
  unfold iH
  have:=h.need_shade
  have:=h.is_whole
  have:=h.shares_of
  have:=h.shade_of
  have:=@AE
  have:=@HR
  unfold rot shV at hq
  have e:n % 3=0∨n % 3=1∨n % 3=2:=by omega
  have c3:∀ i:Int,OA i 3:=fun _=>by show (0:Int) < 3; decide
  rcases e with e | e | e
  · rw [if_pos e] at hq
    have e0:(0 - n) % 3=0:=by omega
    have e1:(1 - n) % 3=1:=by omega
    have e2:(2 - n) % 3=2:=by omega
    walk_at "rd"
    exact ⟨by decide,by decide⟩
  · rw [if_neg (by omega),if_pos e] at hq
    have e0:(0 - n) % 3=2:=by omega
    have e1:(1 - n) % 3=0:=by omega
    have e2:(2 - n) % 3=1:=by omega
    walk_at "rd"
    exact ⟨by decide,by decide⟩
  · rw [if_neg (by omega),if_neg (by omega)] at hq
    have e0:(0 - n) % 3=1:=by omega
    have e1:(1 - n) % 3=2:=by omega
    have e2:(2 - n) % 3=0:=by omega
    walk_at "rd"
    exact ⟨by decide,by decide⟩
end
theorem aIR {o:Option Rat} {a b:Rat}:shp (.tup [tV o,FQ a,FQ b])=true:=by cases o <;> rfl
theorem aG8 {o p:Option Rat}:peq (tV o) (tV p)=decide (o=p):=by
  cases o <;> cases p
  · rfl
  · rfl
  · rfl
  · show peq (FQ _) (FQ _)=_
    rw [FC]; exact decide_eq_decide.mpr ⟨fun h=>by rw [h],fun h=>Option.some.inj h⟩
theorem WL {o p:Option Rat} {a b c d:Rat} {G:Gh} {Q:PK1}:pEq false (.tup [tV o,FQ a,FQ b]) (.tup [tV p,FQ c,FQ d]) G Q=Q (.bl (decide (o=p) && (decide (a=c) && decide (b=d)))) G:=by
  show (shp (.tup [tV o,FQ a,FQ b])=true∧shp (.tup [tV p,FQ c,FQ d])=true∧Q (.bl (peq (.tup [tV o,FQ a,FQ b]) (.tup [tV p,FQ c,FQ d]))) G)=_
  simp only [aIR,true_and,peq,BL,IJ,FC,Bool.and_true]
  rw [aG8]
section
variable {T:Tb}
theorem aNT:PV.tup [.int 1,.int 1]=FQ 1:=rfl
end
noncomputable def Wh (a b c:Rat) (o:Option Rat) (w g:Rat):Prop:=tO a b c=o∧lo a b c=w∧hi a b c=g∧((o=none∧w=g∧a=w∧b=w∧c=w)∨∃ t,o=some t∧0≤t∧t < 6∧w < g∧At w g t a b c)
theorem aI3 (a b c:Rat):∃ o w g,Wh a b c o w g:=by
  rcases aAS a b c with ⟨e1,e2,h1,h2,h3⟩ | ⟨t,t0,t6,hw,at_,h⟩
  · exact ⟨none,a,a,h3,h1,h2,.inl ⟨rfl,rfl,rfl,e1.symm,by rw [←e2,←e1]⟩⟩
  · exact ⟨some t,_,_,h,rfl,rfl,.inr ⟨t,rfl,t0,t6,hw,at_⟩⟩
theorem aIJ {i:Nat} {x:Rat}:p3 i x x x=x:=by unfold p3; split <;> rfl
theorem OH (x:Rat):Wh x x x none x x:=by
  have h1:lo x x x=x:=aIJ
  have h2:hi x x x=x:=aIJ
  exact ⟨by unfold tO; rw [h1,h2,if_pos rfl],h1,h2,.inl ⟨rfl,rfl,rfl,rfl,rfl⟩⟩
theorem aKj {w g t a b c:Rat} (t0:0≤t) (t6:t < 6) (hw:w < g) (h:At w g t a b c):Wh a b c (some t) w g:=by
  obtain ⟨h1,h2,_,h3⟩:=HU t0 t6 hw h
  exact ⟨h3,h1,h2,.inr ⟨t,rfl,t0,t6,hw,h⟩⟩
theorem aHg {a b c w g q p:Rat} {o:Option Rat} (hp:p < 1) (h:Wh a b c o w g):Wh (a + p * (q - a)) (b + p * (q - b)) (c + p * (q - c)) o (w + p * (q - w)) (g + p * (q - g)):=by
  obtain ⟨_,_,_,⟨e0,e1,e2,e3,e4⟩ | ⟨t,e,t0,t6,hw,at_⟩⟩:=h
  · subst e0 e1 e2 e3 e4
    exact OH _
  · subst e
    refine aKj t0 t6 ?_ (aIs at_)
    have:0 < (1 - p) * (g - w):=Rat.mul_pos (by grind) (by grind)
    grind
theorem aFZ {a b c w g:Rat} {o:Option Rat} (h:Wh a b c o w g):xJ a b c= .tup [tV o,FQ w,FQ (1 - g)]:=by
  unfold xJ; rw [h.1,h.2.1,h.2.2.1]
theorem aJ5 {n:Nat} {a b c w g:Rat} {o:Option Rat} (h:Wh a b c o w g) (ha:Bd n a) (hb:Bd n b) (hc:Bd n c):Bd n w∧Bd n g∧TBd (4 * n + 10) o:=by
  have hl:Bd n w:=by rw [←h.2.1]; exact oO ha hb hc
  have hg:Bd n g:=by rw [←h.2.2.1]; exact oO ha hb hc
  refine ⟨hl,hg, ?_⟩
  obtain ⟨h1,h2,h3,⟨e0,_⟩ | ⟨t,e,t0,t6,hw,at_⟩⟩:=h
  · subst e0; trivial
  · subst e
    obtain ⟨_,_,e,_⟩:=HU t0 t6 hw at_
    show Bd _ t
    rw [←e]
    unfold tn
    rw [h2,h3]
    have hm:Bd n (mi a b c):=oO ha hb hc
    have d1:=hm.sub hl (Nat.le_refl _)
    have d2:=hg.sub hl (Nat.le_refl _)
    have d3:=d1.dv d2 (by grind) (Nat.le_refl _)
    have d4:Bd 3 (sw (kOf a b c):Rat):=Bd.int aEK (by decide)
    have d5:Bd 3 (ss (kOf a b c):Rat):=Bd.int aEz (by decide)
    exact d5.add (d4.mul d3 (Nat.le_refl _)) (by omega)
noncomputable def iT (n:Int):Str:=toString n
noncomputable def wr (q:Rat):Str:=if (q.den:Int)=1 then iT q.num else iT q.num ++ (("/":Str) ++ iT (q.den:Int))
noncomputable def aJG (r:R3):Str:=Txt.join (" ":Str) [wr r.1,wr r.2.1,wr r.2.2]
noncomputable def aNq (r:R3):Str:=("Shade(":Str) ++ aJG r ++ (")":Str)
noncomputable def hlf:Rat:=⟨1,2,by decide,by decide⟩
noncomputable def hf (o:Option Rat):Rat:=o.getD hlf
noncomputable def POk (o:Option Rat):Prop:= ∀ p,o=some p→In1 p∧Bd 12 p
theorem FE:In1 hlf:=⟨by decide,by decide⟩
theorem DF:Bd 12 hlf:=⟨by unfold Sm; decide,by unfold Sm; decide⟩
theorem POk.hf {o:Option Rat} (h:POk o):In1 (hf o)∧Bd 12 (L3.hf o):=by
  cases o with
  | none=>exact ⟨FE,DF⟩
  | some p=>exact h p rfl
noncomputable def Sh7 (n:Nat) (r:R3):Prop:=(In1 r.1∧In1 r.2.1∧In1 r.2.2)∧Bd n r.1∧Bd n r.2.1∧Bd n r.2.2
theorem Sh7.mono {n m:Nat} {r:R3} (h:Sh7 n r) (e:n≤m):Sh7 m r:=⟨h.1,h.2.1.mono e,h.2.2.1.mono e,h.2.2.2.mono e⟩
noncomputable def tw (q p:Rat) (r:R3):R3:=(r.1 + p * (q - r.1),r.2.1 + p * (q - r.2.1),r.2.2 + p * (q - r.2.2))
noncomputable def md (r:R3):Rat:=(r.1 + r.2.1 + r.2.2) / 3
noncomputable def op3 (r:R3):R3:=(1 - r.1,1 - r.2.1,1 - r.2.2)
noncomputable def rt (n:Int) (r:R3):R3:=rot n r.1 r.2.1 r.2.2
noncomputable def iV:Option Int→PV
  | none=>.non
  | some n=>.int n
noncomputable def cnt (r:R3):Int:=((if 0 < r.1 then 1 else 0) + (if 0 < r.2.1 then 1 else 0) + (if 0 < r.2.2 then 1 else 0):Int)
theorem IE {r:R3} (h:In1 r.1∧In1 r.2.1∧In1 r.2.2):In1 (md r):=by
  obtain ⟨⟨a,b⟩,⟨c,d⟩,e,f⟩:=h
  have e3:md r * 3=r.1 + r.2.1 + r.2.2:=Rat.div_mul_cancel (by decide)
  constructor
  · grind
  · grind
theorem aK2 {q p:Rat} {r:R3} (h:In1 r.1∧In1 r.2.1∧In1 r.2.2) (hq:In1 q) (hp:In1 p):In1 (tw q p r).1∧In1 (tw q p r).2.1∧In1 (tw q p r).2.2:=⟨tG h.1 hq hp,tG h.2.1 hq hp,tG h.2.2 hq hp⟩
theorem aG7:Bd 3 3:=⟨by unfold Sm; decide,by unfold Sm; decide⟩
theorem NX {n:Nat} {r:R3} (h1:Bd n r.1) (h2:Bd n r.2.1) (h3:Bd n r.2.2):Bd (3 * n + 5) (md r):=((h1.add h2 (show n + n + 1≤2 * n + 1 by omega)).add h3 (show 2 * n + 1 + n + 1≤3 * n + 2 by omega)).dv aG7 (by decide) (by omega)
theorem aJp {n m:Nat} {q p:Rat} {r:R3} (s:Sh7 n r) (hq:In1 q) (bq:Bd m q) (hp:In1 p) (bp:Bd 12 p):Sh7 (2 * n + m + 14) (tw q p r) :=
  ⟨aK2 s.1 hq hp,s.2.1.add (bp.mul (bq.sub s.2.1 (show m + n + 1≤m + n + 1 by omega)) (show 12 + (m + n + 1)≤m + n + 13 by omega)) (by omega),s.2.2.1.add (bp.mul (bq.sub s.2.2.1 (show m + n + 1≤m + n + 1 by omega)) (show 12 + (m + n + 1)≤m + n + 13 by omega)) (by omega),s.2.2.2.add (bp.mul (bq.sub s.2.2.2 (show m + n + 1≤m + n + 1 by omega)) (show 12 + (m + n + 1)≤m + n + 13 by omega)) (by omega)⟩
theorem YV {n:Nat} {r:R3} (s:Sh7 n r):Sh7 (n + 3) (op3 r) :=
  ⟨⟨rO s.1.1,rO s.1.2.1,rO s.1.2.2⟩,bd1.sub s.2.1 (by omega),bd1.sub s.2.2.1 (by omega),bd1.sub s.2.2.2 (by omega)⟩
theorem aFF {n:Nat} {k:Int} {r:R3} (s:Sh7 n r):Sh7 n (rt k r):=by
  obtain ⟨⟨a,b,c⟩,d,e,f⟩:=s
  unfold rt rot
  split
  · exact ⟨⟨a,b,c⟩,d,e,f⟩
  · split
    · exact ⟨⟨c,a,b⟩,f,d,e⟩
    · exact ⟨⟨b,c,a⟩,e,f,d⟩
noncomputable def rV (r:R3):PV:=.tup [FQ r.1,FQ r.2.1,FQ r.2.2]
noncomputable def aJN:Sp3:=fun xs G Q=>∃ n:Int,xs=[.int n]∧0≤n∧Sm 200 n∧Q (.str (iT n)) G
noncomputable def aIH:Sp3:=fun xs G Q=>∃ q,xs=[FQ q]∧0≤q∧Bd 200 q∧Q (.str (wr q)) G
noncomputable def aGn:Sp3:=fun xs G Q=>∃ r,xs=[shV r]∧Sh7 200 r∧Q (.str (aJG r)) G
noncomputable def aF0:Sp3:=fun xs G Q=>∃ r,xs=[shV r]∧Sh7 200 r∧Q (.str (aNq r)) G
noncomputable def aFT:Sp3:=fun xs G Q=>∃ r,xs=[shV r]∧Q (.int (cnt r)) G
noncomputable def aC1:Sp3:=fun xs G Q=>∃ o,xs=[tV o]∧POk o∧Q (FQ (hf o)) G
noncomputable def aH8:Sp3:=fun xs G Q=>∃ r q p,xs=[shV r,FQ q,FQ p]∧Sh7 40 r∧In1 q∧Bd 140 q∧In1 p∧Bd 12 p∧Q (shV (tw q p r)) G
noncomputable def DQ (f:R3→Rat):Sp3:=fun xs G Q=>∃ r o,xs=[shV r,tV o]∧Sh7 40 r∧POk o∧Q (shV (tw (f r) (hf o) r)) G
noncomputable def aGy:Sp3:=fun xs G Q=>∃ r,xs=[shV r]∧Sh7 40 r∧Q (shV (op3 r)) G
noncomputable def aDA:Sp3:=fun xs G Q=>∃ r o,xs=[shV r,iV o]∧Sh7 40 r∧Q (shV (rt (o.getD 1) r)) G
noncomputable def Dd (w:Str) (x:PV) (f:R3→R3):Prop :=
  (w="lighter"∧∃ o,x=tV o∧POk o∧f=tw 1 (hf o))∨(w="darker"∧∃ o,x=tV o∧POk o∧f=tw 0 (hf o))∨(w="duller"∧∃ o,x=tV o∧POk o∧f=fun r=>tw (md r) (hf o) r)∨
  (w="turned"∧∃ o,x=iV o∧f=rt (o.getD 1))∨(w="opposite"∧∃ o,x=tV o∧f=op3)
noncomputable def aIW:List Str:=["lighter","darker","duller","turned","opposite"]
noncomputable def aCy:Sp3:=fun xs G Q=>∃ r w x f,xs=[rV r,.str w,x]∧Sh7 12 r∧Dd w x f∧Q (rV (f r)) G
noncomputable def aG4:Sp3:=fun xs G Q=>∃ r w x f i,xs=[.str w,shV r,x,.int i]∧(i=0∨i=1)∧Sh7 12 r∧Dd w x f∧Q (shV (f r)) G
noncomputable def aJC:Sp3:=fun xs G Q=>∃ p w,xs=[.ref p,.str w]∧Pu p G∧w∈aIW∧∀ x f G',Dd w x f→Pn p G G'→Q x G'
noncomputable def aIu:Sp3:=aIH
noncomputable def aKN:Sp3:=fun xs G Q=>∃ r,xs=[shV r,rV r]∧Sh7 200 r∧Q (.bl true) G
noncomputable def aF7:Sp3:=fun xs G Q=>∃ r,xs=[shV r,rV r]∧Sh7 12 r∧Q (.bl true) G
noncomputable def aHp:Sp3:=fun xs G Q=>∃ r n,xs=[shV r,rV r,.int n]∧Sh7 12 r∧1≤n∧n≤50∧Q (.bl true) G
structure L7 (T:Tb):Prop where
  figures:T.S "figures"=aJN
  written:T.S "written"=aIH
  strS:T.S "Shade.__str__"=aGn
  repS:T.S "Shade.__repr__"=aF0
  lenS:T.S "Shade.__len__"=aFT
  eqS:T.S "Shade.__eq__"=xC
  part_of:T.S "part_of"=aC1
  toward:T.S "toward"=aH8
  lighter:T.S "lighter"=DQ (fun _=>1)
  darker:T.S "darker"=DQ (fun _=>0)
  duller:T.S "duller"=DQ md
  opposite:T.S "opposite"=aGy
  turned:T.S "turned"=aDA
  deed:T.S "_law_deed"=aCy
  asked:T.S "_law_asked"=aG4
  by_:T.S "_law_by"=aJC
  text:T.S "_law_text"=aIu
  is_:T.S "_law_is"=aKN
  left:T.S "_law_left_out"=aF7
  home:T.S "_law_home"=aHp
  gv_HALF:T.gv "HALF"= .tup [.int 1,.int 2]
  gv_PIECE:T.gv "PIECE"= .int (10 ^ 64)
  gv_PF:T.gv "PIECE_FIGURES"= .int 64
  gv_str:T.gv "str"= .ty "str"
theorem eD {α:Type} {chk:Gh→Prop} {g:PTG} {te:PTE} {Q:List PV→Gh→Prop} (src:α→PV) (J:List α→PSt→Gh→List PV→Prop) (hc:∀ l σ G acc,J l σ G acc→chk G)
    (step:∀ x r σ G acc (R:PV→PSt→Gh→Prop),J (x :: r) σ G acc→(∀ y σ' G',J r σ' G' (acc ++ [y])→R y σ' G')→g (src x) σ G fun σ2 G2=>te σ2 G2 fun y G3=>R y σ2 G3)
    (fin:∀ σ G acc,J [] σ G acc→Q acc G):∀ (l:List α) σ G acc,J l σ G acc→gU chk g (fun _ G Q=>Q true G) te (l.map src) acc σ G Q
  | [],σ,G,acc,h=>⟨hc _ _ _ _ h,fin _ _ _ h⟩
  | x :: r,σ,G,acc,h=>by
    refine ⟨hc _ _ _ _ h, ?_⟩
    simp only [if_true]
    exact step x r σ G acc (fun y σ' G'=>gU chk g (fun _ G Q=>Q true G) te (r.map src) (acc ++ [y]) σ' G' Q) h fun y σ' G' h'=>eD src J hc step fin r σ' G' _ h'
theorem BF {α:Type} {chk:Gh→Prop} {g:PTG} {tb:PTS} {D:hJ} (src:α→PV) (J:List α→PSt→Gh→Prop) (hc:∀ l σ G,J l σ G→chk G)
    (step:∀ x r σ G (R:PSt→Gh→Prop),J (x :: r) σ G→(∀ σ' G',J r σ' G'→R σ' G')→g (src x) σ G fun σ2 G2=>tb { D with nx:=R,ct:=R,bk:=D.nx } σ2 G2)
    (fin:∀ σ G,J [] σ G→D.nx σ G):∀ (l:List α) σ G,J l σ G→oV chk g tb D (l.map src) σ G
  | [],σ,G,h=>⟨hc _ _ _ h,fin _ _ h⟩
  | x :: r,σ,G,h=>⟨hc _ _ _ h,step x r σ G _ h fun σ' G' h'=>BF src J hc step fin r σ' G' h'⟩
theorem aBH {α:Type} {f:α→PV} {xs:List α} {ws:List Int} (h:xs.length=ws.length):NB xs.length [xs.map f,ws.map PV.int]=(xs.zip ws).map fun p=>PV.tup [f p.1,.int p.2]:=by
  unfold NB
  refine List.ext_getElem ?_ fun i h1 h2=>?_
  · simp only [List.length_map,List.length_range,List.length_zip]; omega
  · simp only [List.length_map,List.length_range] at h1
    have h3:i < ws.length:=by omega
    simp only [List.getElem_map,List.getElem_range,List.map_cons,List.map_nil,List.getElem_zip,List.getD_eq_getElem?_getD,List.getElem?_map,List.getElem?_eq_getElem h1,List.getElem?_eq_getElem h3,Option.map_some,Option.getD_some]
theorem aJk {a b:List PV} {n:Nat} (h1:a.length=n) (h2:b.length=n):∀ ys:List PV,ys∈ [a,b]→ys.length=n:=fun ys hy=>by
  rcases List.mem_cons.mp hy with e | hy
  · rw [e]; exact h1
  · rw [List.mem_singleton.mp hy]; exact h2
noncomputable def WU (r:R3):PV:=.tup [FQ r.1,FQ r.2.1,FQ r.2.2]
noncomputable def OkX (x:Rat):Prop:=In1 x∧Bd 600 x
noncomputable def Ok3 (r:R3):Prop:=OkX r.1∧OkX r.2.1∧OkX r.2.2
noncomputable def WOk (ws:List Int):Prop:=(∀ w∈ws,0≤w∧w≤1000000)∧0 < ws.sum
noncomputable def iD:List (Rat×Int)→Rat
  | []=>0
  | p :: r=>p.1 * (p.2:Rat) + iD r
noncomputable def mq (xs:List Rat) (ws:List Int):Rat:=iD (xs.zip ws) / (ws.sum:Rat)
theorem vO:∀ {ws:List Int},(∀ w∈ws,0≤w∧w≤1000000)→0≤ws.sum∧ws.sum≤1000000 * (ws.length:Int)
  | [],_=>⟨by simp,by simp⟩
  | w :: r,h=>by
    have h1:=h w (List.mem_cons_self ..)
    have h2:=vO fun x hx=>h x (List.mem_cons_of_mem _ hx)
    rw [List.sum_cons,List.length_cons]
    omega
theorem JR:∀ {ws:List Int} {v:Int},(∀ w∈ws,0≤w∧w≤1000000)→v∈ws→v≤ws.sum
  | w :: r,v,h,hv=>by
    have h1:=h w (List.mem_cons_self ..)
    have h2:=(vO fun x hx=>h x (List.mem_cons_of_mem _ hx)).1
    rw [List.sum_cons]
    rcases List.mem_cons.mp hv with e | e
    · omega
    · have:=JR (fun x hx=>h x (List.mem_cons_of_mem _ hx)) e
      omega
theorem UN:∀ {xs:List Rat} {ws:List Int},xs.length=ws.length→(∀ x∈xs,In1 x)→(∀ w∈ws,0≤w∧w≤1000000)→0≤iD (xs.zip ws)∧iD (xs.zip ws)≤(ws.sum:Rat)
  | [],[],_,_,_=>⟨by simp [iD],by simp [iD]⟩
  | x :: xs,w :: ws,hl,hx,hw=>by
    obtain ⟨a1,a2⟩:=hx x (List.mem_cons_self ..)
    obtain ⟨b1,b2⟩:=hw w (List.mem_cons_self ..)
    obtain ⟨c1,c2⟩:=UN (xs:=xs) (ws:=ws) (by simpa using hl) (fun y hy=>hx y (List.mem_cons_of_mem _ hy)) (fun y hy=>hw y (List.mem_cons_of_mem _ hy))
    have w0:(0:Rat)≤(w:Rat):=Rat.intCast_nonneg.mpr b1
    have m0:0≤x * (w:Rat):=Rat.mul_nonneg a1 w0
    have m1:0≤(1 - x) * (w:Rat):=Rat.mul_nonneg (by grind) w0
    rw [List.zip_cons_cons,List.sum_cons,Rat.intCast_add]
    simp only [iD]
    exact ⟨by grind,by grind⟩
theorem aDY {xs:List Rat} {ws:List Int} (hl:xs.length=ws.length) (hx:∀ x∈xs,In1 x) (hw:WOk ws):In1 (mq xs ws):=by
  obtain ⟨h1,h2⟩:=UN hl hx hw.1
  have hp:(0:Rat) < (ws.sum:Rat):=Rat.intCast_pos.mpr hw.2
  unfold mq
  have e:iD (xs.zip ws) / (ws.sum:Rat) * (ws.sum:Rat)=iD (xs.zip ws):=Rat.div_mul_cancel (by grind)
  constructor
  · exact Rat.le_of_mul_le_mul_right (c:=(ws.sum:Rat)) (by grind) hp
  · exact Rat.le_of_mul_le_mul_right (c:=(ws.sum:Rat)) (by grind) hp
theorem aKH {w:Int} (h:0≤w∧w≤1000000):Sm 20 w:=by unfold Sm; omega
theorem bdw {w:Int} (h:0≤w∧w≤1000000):Bd 20 (w:Rat):=Bd.int (aKH h) (by decide)
theorem aA5 {n:Nat}:∀ {xs:List Rat} {ws:List Int},(∀ x∈xs,Bd n x)→(∀ w∈ws,0≤w∧w≤1000000)→Bd ((n + 22) * xs.length + 2) (iD (xs.zip ws))
  | [],ws,_,_=>by rw [List.zip_nil_left]; exact bd0
  | x :: xs,[],_,_=>by rw [List.zip_nil_right]; exact bd0.mono (by omega)
  | x :: xs,w :: ws,hx,hw=>by
    have ih:=aA5 (xs:=xs) (ws:=ws) (fun y hy=>hx y (List.mem_cons_of_mem _ hy)) (fun y hy=>hw y (List.mem_cons_of_mem _ hy))
    have m:=(hx x (List.mem_cons_self ..)).mul (bdw (hw w (List.mem_cons_self ..))) (Nat.le_refl _)
    refine m.add ih ?_
    rw [List.length_cons,Nat.mul_add]; omega
theorem aD7 {n:Nat} {xs:List Rat} {ws:List Int} (hl:xs.length=ws.length) (h4:ws.length≤4) (hx:∀ x∈xs,Bd n x) (hw:WOk ws):Bd (4 * n + 120) (mq xs ws):=by
  have h1:=aA5 hx hw.1
  have h2:=vO hw.1
  have hs:Bd 30 (ws.sum:Rat):=Bd.int (by unfold Sm; omega) (by decide)
  have hp:(0:Rat) < (ws.sum:Rat):=Rat.intCast_pos.mpr hw.2
  have h3:(n + 22) * xs.length≤(n + 22) * 4:=Nat.mul_le_mul_left _ (by omega)
  exact h1.dv hs (by grind) (by omega)
theorem PH {t b w:Int} {x:Rat} (hb:0 < b):Rat.divInt (t * (x.den:Int) + w * x.num * b) (b * (x.den:Int))=Rat.divInt t b + x * (w:Rat):=by
  have hd:=xS (q:=x)
  have b0:(b:Rat)≠0:=by have:(0:Rat) < (b:Rat):=Rat.intCast_pos.mpr hb; grind
  have d0:((x.den:Int):Rat)≠0:=by have:(0:Rat) < ((x.den:Int):Rat):=Rat.intCast_pos.mpr hd; grind
  have hx:(x.num:Rat)=x * ((x.den:Int):Rat):=by
    conv=>rhs; lhs; rw [←Rat.num_divInt_den x]
    rw [Rat.divInt_eq_div]; exact (Rat.div_mul_cancel d0).symm
  rw [Rat.divInt_eq_div,Rat.divInt_eq_div]
  simp only [Rat.intCast_add,Rat.intCast_mul]
  rw [hx]
  generalize ((x.den:Int):Rat)=D at *
  have e:(t:Rat) / (b:Rat) * (b:Rat)=(t:Rat):=Rat.div_mul_cancel b0
  generalize (t:Rat) / (b:Rat)=u at *
  rw [←e]
  have key:u * (b:Rat) * D + (w:Rat) * (x * D) * (b:Rat)=(u + x * (w:Rat)) * ((b:Rat) * D):=by grind
  rw [key]
  exact Rat.mul_div_cancel (by intro z; rcases Rat.mul_eq_zero.mp z with z | z <;> contradiction)
theorem aAw {t b s:Int} (hb:0 < b) (hs:0 < s):Rat.divInt t (b * s)=Rat.divInt t b / (s:Rat):=by
  have b0:(b:Rat)≠0:=by have:(0:Rat) < (b:Rat):=Rat.intCast_pos.mpr hb; grind
  have s0:(s:Rat)≠0:=by have:(0:Rat) < (s:Rat):=Rat.intCast_pos.mpr hs; grind
  rw [Rat.divInt_eq_div,Rat.divInt_eq_div,Rat.intCast_mul]
  have e:(t:Rat) / (b:Rat) * (b:Rat)=(t:Rat):=Rat.div_mul_cancel b0
  generalize (t:Rat) / (b:Rat)=u at *
  have e2:u / (s:Rat) * (s:Rat)=u:=Rat.div_mul_cancel s0
  generalize u / (s:Rat)=v at *
  rw [←e,←e2]
  have key:v * (s:Rat) * (b:Rat)=v * ((b:Rat) * (s:Rat)):=by grind
  rw [key]
  exact Rat.mul_div_cancel (by intro z; rcases Rat.mul_eq_zero.mp z with z | z <;> contradiction)
noncomputable def hX:Sp3:=fun xs G Q=>∃ t b:Int,xs=[.int t,.int b]∧b≠0∧Sm 9000 b∧Q (FQ (Rat.divInt t b)) G
noncomputable def oE:Sp3:=fun xs G Q=>∃ (rs:List R3) (a b:Int),xs=[.tup (rs.map shV),.int a,.int b]∧a≤(rs.length:Int)∧(rs.length:Int)≤b∧rs.length≤1000∧Q (.bl true) G
noncomputable def vS:Sp3:=fun xs G Q=>∃ w l:Int,xs=[.int w,.int l]∧l≤w∧w≤1000000∧Q (.bl true) G
noncomputable def pD:Sp3:=fun xs G Q=>∃ (ws:List Int) (n:Int),xs=[.tup (ws.map .int),.int n]∧n=(ws.length:Int)∧ws.length≤1000∧WOk ws∧Q (.bl true) G
noncomputable def xA:Sp3:=fun xs G Q=>∃ (qs:List Rat) (ws:List Int),xs=[.lst (qs.map FQ),.tup (ws.map .int)]∧qs.length=ws.length∧ws.length≤4∧(∀ x∈qs,Bd 600 x)∧WOk ws∧Q (FQ (mq qs ws)) G
noncomputable def dO (rs:List R3) (ws:List Int):R3:=(mq (rs.map (·.1)) ws,mq (rs.map (·.2.1)) ws,mq (rs.map (·.2.2)) ws)
noncomputable def WV (x:PV) (ws:List Int) (n:Nat):Prop:=(x= .non∧ws=List.replicate n 1)∨x= .tup (ws.map .int)
noncomputable def wY (rs:List R3) (ws:List Int):Prop:=rs.length=ws.length∧1≤rs.length∧rs.length≤4∧(∀ r∈rs,Ok3 r)∧WOk ws
noncomputable def OP:Sp3:=fun xs G Q=>∃ (rs:List R3) (ws:List Int) (x:PV),xs=[.tup (rs.map shV),x]∧WV x ws rs.length∧wY rs ws∧Q (shV (dO rs ws)) G
noncomputable def PO (o:Option Rat):Prop:= ∀ p,o=some p→In1 p∧Bd 60 p
theorem PO.hf {o:Option Rat} (h:PO o):In1 (hf o)∧Bd 60 (L3.hf o):=by
  cases o with
  | none=>exact ⟨FE,DF.mono (by decide)⟩
  | some p=>exact h p rfl
noncomputable def vN:Sp3:=fun xs G Q=>∃ o,xs=[tV o]∧PO o∧Q (FQ (hf o)) G
noncomputable def CZ:Sp3:=fun xs G Q=>∃ r q p,xs=[shV r,FQ q,FQ p]∧Sh7 600 r∧In1 q∧Bd 1900 q∧In1 p∧Bd 60 p∧Q (shV (tw q p r)) G
noncomputable def dC (f:R3→Rat):Sp3:=fun xs G Q=>∃ r o,xs=[shV r,tV o]∧Sh7 600 r∧PO o∧Q (shV (tw (f r) (hf o) r)) G
noncomputable def ET:Sp3:=fun xs G Q=>∃ r,xs=[shV r]∧Sh7 600 r∧Q (shV (op3 r)) G
noncomputable def vB:Sp3:=fun xs G Q=>∃ r o,xs=[shV r,iV o]∧Sh7 600 r∧Q (shV (rt (o.getD 1) r)) G
noncomputable def DdX (w:Str) (x:PV) (f:R3→R3):Prop :=
  (w="lighter"∧∃ o,x=tV o∧PO o∧f=tw 1 (hf o))∨(w="darker"∧∃ o,x=tV o∧PO o∧f=tw 0 (hf o))∨(w="duller"∧∃ o,x=tV o∧PO o∧f=fun r=>tw (md r) (hf o) r)∨
  (w="turned"∧∃ o,x=iV o∧f=rt (o.getD 1))
noncomputable def DX (d:PV) (f:R3→R3):Prop:=(∃ w x,DdX w x f∧(d= .tup [.str w,x]∨(x= .non∧d= .tup [.str w])))∨(d= .tup [.str "opposite"]∧f=op3)
noncomputable def RI:List PV→R3→R3→Prop
  | [],r,r'=>r'=r
  | d :: ds,r,r'=>∃ f,DX d f∧Sh7 600 r∧RI ds (f r) r'
noncomputable def FA:Sp3:=fun xs G Q=>∃ w x f,xs=[.str w,x]∧DdX w x f∧Q (.bl true) G
noncomputable def oW:Sp3:=fun xs G Q=>∃ d f,xs=[d]∧DX d f∧Q (.bl true) G
noncomputable def vD:Sp3:=fun xs G Q=>∃ ds,xs=[.tup ds]∧ds.length≤20∧(∀ d∈ds,∃ f,DX d f)∧Q .non G
noncomputable def vJ:Sp3:=fun xs G Q=>∃ r d f,xs=[shV r,d]∧Sh7 600 r∧DX d f∧Q (shV (f r)) G
noncomputable def EV:Sp3:=fun xs G Q=>∃ r r' ds,xs=[shV r,.tup ds]∧ds.length≤20∧RI ds r r'∧Q (shV r') G
noncomputable def vC:Sp3:=fun xs G Q=>∃ r r',xs=[shV r,shV r']∧r=r'∧Q (.bl true) G
noncomputable def ON:Sp3:=fun xs G Q=>∃ p n,xs=[.ref p,.int n]∧Pu p G∧1≤n∧n≤4∧∀ (ws:List Int) G',(ws.length:Int)=n→WOk ws→Pn p G G'→Q (.tup (ws.map .int)) G'
noncomputable def zV (rs:List R3):Prop:=1≤rs.length∧rs.length≤4∧∀ r∈rs,Sh7 12 r
noncomputable def P12 (p:Rat):Prop:=In1 p∧Bd 12 p
noncomputable def oM:Sp3:=fun xs G Q=>∃ rs ws p n,xs=[.tup (rs.map shV),.tup (ws.map .int),FQ p,.int n]∧zV rs∧rs.length=ws.length∧WOk ws∧P12 p∧Q (.bl true) G
noncomputable def vE:Sp3:=fun xs G Q=>∃ r p q,xs=[shV r,FQ p,FQ q]∧Sh7 12 r∧P12 p∧P12 q∧Q (.bl true) G
noncomputable def vH:Sp3:=fun xs G Q=>∃ r p n m,xs=[shV r,FQ p,.int n,.int m]∧Sh7 12 r∧P12 p∧Q (.bl true) G
noncomputable def rG:Sp3:=fun xs G Q=>∃ r p,xs=[shV r,FQ p]∧Sh7 12 r∧P12 p∧Q (.bl true) G
structure L10 (T:Tb):Prop where
  fraction:T.S "fraction"=hX
  are_shades:T.S "are_shades"=oE
  is_weight:T.S "is_weight"=vS
  are_weights:T.S "are_weights"=pD
  mean:T.S "mean_share"=xA
  mix:T.S "mix"=OP
  eqS:T.S "Shade.__eq__"=xC
  part_of:T.S "part_of"=vN
  toward:T.S "toward"=CZ
  lighter:T.S "lighter"=dC (fun _=>1)
  darker:T.S "darker"=dC (fun _=>0)
  duller:T.S "duller"=dC md
  opposite:T.S "opposite"=ET
  turned:T.S "turned"=vB
  is_by:T.S "is_by"=FA
  is_deed:T.S "is_deed"=oW
  need_deeds:T.S "need_deeds"=vD
  do_one:T.S "do_one"=vJ
  done:T.S "done"=EV
  less:T.S "less"=nH
  falls:T.S "falls"=kM
  stretch_of:T.S "stretch_of"=jR
  wheel_of:T.S "wheel_of"=pQ
  alike:T.S "_law_alike"=vC
  weights:T.S "_law_weights"=ON
  mixedR:T.S "_law_mixed_right"=oM
  twice:T.S "_law_twice_right"=vE
  turnR:T.S "_law_turned_right"=vH
  wheelR:T.S "_law_wheel_right"=rG
  gv_MS:T.gv "MOST_SHADES"= .int 60
  gv_MW:T.gv "MOST_WEIGHT"= .int 1000000
  gv_MD:T.gv "MOST_DEEDS"= .int 20
  gv_HALF:T.gv "HALF"= .tup [.int 1,.int 2]
  gv_ST:T.gv "STRETCHES"= .tup [stV 0,stV 1,stV 2,stV 3,stV 4,stV 5]
  ty_str:T.gv "str"= .ty "str"
theorem aAK {ns:List Int} {G:Gh} {Q:PK1} {cs:List String}:eW cs .sum [.tup (ns.map PV.int)] G Q=Q (.int ns.sum) G:=by
  refine propext ⟨fun h=>?_,fun q=>.inr ⟨ns,rfl,q⟩⟩
  rcases h with ⟨ys,b,e,_⟩ | ⟨ms,e,q⟩
  · cases e
  · injection e with e
    have:ns=ms:=by
      have h:=congrArg (List.map (fun x=>match x with | PV.int i=>i | _=>0)) e
      simpa [List.map_map,Function.comp_def] using h
    rw [this]; exact q
theorem wC:∀ n:Nat,HF (List.replicate n (.bl true))=some true
  | 0=>rfl
  | n + 1=>by rw [List.replicate_succ]; unfold HF; rw [wC n]; rfl
set_option hygiene false in
local macro_rules | `(tactic| walk_at "rd") => `(tactic| simp only [wpS, wpE, wpL, wpT, wpO, wpI, wpG, eX, aM, aC, List.length_cons, List.length_nil, List.cons_append, List.nil_append, List.append_nil, List.replicate, Nat.reduceAdd, Nat.reduceSub, Nat.zero_add, List.getElem?_cons_zero, List.getElem?_cons_succ, List.set_cons_zero, List.set_cons_succ, Option.some.injEq, exists_eq_left', true_and, and_true, ite_self, iM, gQ, mB, gX, OG, vG, eG, CT, gP, vY, cX, lE, yJ, XD, fS, cY, aH.1, aH.2.1, aH.2.2.1, DJ, List.cons.injEq, PV.int.injEq, PV.bl.injEq, PV.str.injEq, PV.ref.injEq, PV.tup.injEq, and_assoc, exists_and_left, eq_self, XN, aA0, cV, bT, Int.reduceToNat, Int.reducePow, exists_eq', jZ, wV, List.map, fH, Bool.not_true, Bool.not_false, Bool.and_self, Bool.and_true, Bool.true_and, if_true, if_false, ite_true, ite_false, Bool.false_eq_true, decide_eq_true_eq, decide_true, decide_false, reduceCtorEq, Wk.here, aAK, hX, vS, *])
section
variable {T:Tb}
noncomputable def jA:CS:=(.seq (.iff (.no (.tst (.cal "is_whole" (.cons (.var 0) .nil)))) .nev .nil)
  (.seq (.iff (.oo (.no (.tst (.cal "is_whole" (.cons (.var 1) .nil)))) (.tsb (.cmp .Eq (.var 1) (.int 0)))) .nev .nil)
  (.ret (.cal "lowest" (.cons (.var 0) (.cons (.var 1) .nil))))))
theorem MZ (h:PT T):∀ xs G Q,hX xs G Q→wpS T jA (aM Q) (aC 2 xs) G:=by
  rintro xs G Q ⟨t,b,rfl,h0,hs,hq⟩
  unfold jA
  have:=h.is_whole
  have:=h.lowest
  walk_at "rd"
  simp [h0]
noncomputable def gG:CS:=(.seq (.iff (.oo (.no (.tst (.blt .isi (.cons (.var 0) (.cons (.glo "tuple") .nil))))) (.no (.tsb (.chn .LtE .LtE (.var 1) (.blt .len (.cons (.var 0) .nil)) (.var 2))))) (.ret (.bl false)) .nil)
  (.ret (.blt .all (.cons (.cmpr false (.gn 1) (.isq (.var 0)) .nil (.cal "is_shade" (.cons (.var 1) .nil)) [none,none]) .nil))))
theorem CA (h:PT T):∀ xs G Q,oE xs G Q→wpS T gG (aM Q) (aC 3 xs) G:=by
  rintro xs G Q ⟨rs,a,b,rfl,h1,h2,h3,hq⟩
  unfold gG
  have:=h.ty_tuple
  have:=h.is_shade
  walk_at "rd"
  simp only [List.length_map]
  have e1:decide (a≤(rs.length:Int))=true:=decide_eq_true h1
  have e2:decide ((rs.length:Int)≤b)=true:=decide_eq_true h2
  walk_at "rd"
  refine ⟨szN h3, ?_⟩
  refine eD shV (fun l σ G' acc=>G'=G∧(∃ u v,σ=[u,v])∧acc ++ List.replicate l.length (.bl true)=List.replicate rs.length (.bl true)) (fun _ _ _ _ _=>trivial) ?_ ?_ rs _ _ _ ⟨rfl,⟨_,_,rfl⟩,rfl⟩
  · rintro x r σ G' acc R ⟨rfl,⟨u,v,rfl⟩,e⟩ hR
    unfold shV
    walk_at "rd"
    refine hR _ _ _ ⟨rfl,⟨_,_,rfl⟩, ?_⟩
    rw [←e,List.length_cons,List.replicate_succ,List.append_assoc]; rfl
  · rintro σ G' acc ⟨rfl,_,e⟩
    rw [List.length_nil,List.replicate_zero,List.append_nil] at e
    rw [e]
    exact ⟨true,wC _,Wk.here hq⟩
noncomputable def iA:CS:=(.ret (.an (.cal "is_whole" (.cons (.var 0) .nil)) (.chn .LtE .LtE (.var 1) (.var 0) (.glo "MOST_WEIGHT"))))
theorem HE (h:PT T) (k:L10 T):∀ xs G Q,vS xs G Q→wpS T iA (aM Q) (aC 2 xs) G:=by
  rintro xs G Q ⟨w,l,rfl,h1,h2,hq⟩
  unfold iA
  have:=h.is_whole
  have:=k.gv_MW
  walk_at "rd"
noncomputable def fJ:CS:=(.seq (.iff (.oo (.no (.tst (.blt .isi (.cons (.var 0) (.cons (.glo "tuple") .nil))))) (.tsb (.cmp .NotEq (.blt .len (.cons (.var 0) .nil)) (.var 1)))) (.ret (.bl false)) .nil)
  (.ret (.an (.blt .all (.cons (.cmpr false (.gn 1) (.isq (.var 0)) .nil (.cal "is_weight" (.cons (.var 1) (.cons (.int 0) .nil))) [none,none]) .nil)) (.cmp .Gt (.blt .sum (.cons (.var 0) .nil)) (.int 0)))))
theorem AB (h:PT T) (k:L10 T):∀ xs G Q,pD xs G Q→wpS T fJ (aM Q) (aC 2 xs) G:=by
  rintro xs G Q ⟨ws,n,rfl,rfl,h3,⟨hw,hs⟩,hq⟩
  unfold fJ
  have:=h.ty_tuple
  have:=k.is_weight
  walk_at "rd"
  simp only [List.length_map]
  walk_at "rd"
  refine ⟨szN h3, ?_⟩
  refine eD PV.int (fun l σ G' acc=>G'=G∧(∃ u v,σ=[u,v])∧(∀ w∈l,0≤w∧w≤1000000)∧acc ++ List.replicate l.length (.bl true)=List.replicate ws.length (.bl true)) (fun _ _ _ _ _=>trivial) ?_ ?_ ws _ _ _ ⟨rfl,⟨_,_,rfl⟩,hw,rfl⟩
  · rintro x r σ G' acc R ⟨rfl,⟨u,v,rfl⟩,hl,e⟩ hR
    obtain ⟨a1,a2⟩:=hl x (List.mem_cons_self ..)
    walk_at "rd"
    refine hR _ _ _ ⟨rfl,⟨_,_,rfl⟩,fun w hw=>hl w (List.mem_cons_of_mem _ hw), ?_⟩
    rw [←e,List.length_cons,List.replicate_succ,List.append_assoc]; rfl
  · rintro σ G' acc ⟨rfl,_,_,e⟩
    rw [List.length_nil,List.replicate_zero,List.append_nil] at e
    rw [e]
    refine ⟨true,wC _, ?_⟩
    rw [if_pos rfl]
    exact Wk.here hq
noncomputable def fZ:CS:=(.seq (.asg (.gn 2) (.int 0))
  (.seq (.asg (.gn 3) (.int 1))
  (.seq (.fr (.gt 2 (.cons (.gn 4) (.cons (.gn 5) .nil))) (.izp (.cons (.var 0) (.cons (.var 1) .nil))) (.seq (.asg (.gn 2) (.bin .Add (.bin .Mult (.var 2) (.idx (.var 4) (.int 1))) (.bin .Mult (.bin .Mult (.var 5) (.idx (.var 4) (.int 0))) (.var 3))))
  (.asg (.gn 3) (.bin .Mult (.var 3) (.idx (.var 4) (.int 1))))))
  (.ret (.cal "fraction" (.cons (.var 2) (.cons (.bin .Mult (.var 3) (.blt .sum (.cons (.var 1) .nil))) .nil)))))))
theorem DC (k:L10 T):∀ xs G Q,xA xs G Q→wpS T fZ (aM Q) (aC 6 xs) G:=by
  rintro xs G Q ⟨qs,ws,rfl,hl,h60,hb,hw,hq⟩
  unfold fZ
  have:=k.fraction
  walk_at "rd"
  refine ⟨.inl trivial,qs.length,[qs.map FQ,ws.map PV.int],rfl,aJk (List.length_map ..) (by rw [List.length_map]; exact hl.symm), ?_⟩
  rw [aBH hl]
  refine BF (fun p:Rat×Int=>PV.tup [FQ p.1,.int p.2]) (fun l σ G'=>G'=G∧(∃ t b u v,σ=[some (.lst (qs.map FQ)),some (.tup (ws.map .int)),some (.int t),some (.int b),u,v]∧0 < b∧Rat.divInt t b + iD l=iD (qs.zip ws)∧
    Sm (622 * (4 - l.length) + 2) t∧Sm (622 * (4 - l.length) + 2) b)∧l.length≤4∧∀ p∈l,Bd 600 p.1∧(0≤p.2∧p.2≤1000000)) (fun _ _ _ _=>trivial) ?_ ?_ (qs.zip ws) _ _ ⟨rfl,⟨0,1,_,_,rfl,by decide, ?_, ?_, ?_⟩, ?_, ?_⟩
  · rintro ⟨x,w⟩ r σ G' R ⟨rfl,⟨t,b,u,v,rfl,b0,e,st,sb⟩,l60,hp⟩ hR
    obtain ⟨⟨x1,x2⟩,w1⟩:=hp _ (List.mem_cons_self ..)
    have sw:=aKH w1
    have hd:=xS (q:=x)
    walk_at "rd"
    rw [List.length_cons] at l60 st sb
    have m1:=st.mul x2
    have m2:=sw.mul x1
    have m3:=m2.mul sb
    have m4:=sb.mul x2
    refine ⟨fV st x2 (by omega),fV sw x1,fV m2 sb (by omega),fV sb x2 (by omega),hR _ _ ⟨rfl,⟨_,_,_,_,rfl,Int.mul_pos b0 hd, ?_, ?_, ?_⟩,by omega,fun p hp'=>hp p (List.mem_cons_of_mem _ hp')⟩⟩
    · rw [PH b0,←e]; simp only [iD]; grind
    · exact (m1.mono (l:=622 * (4 - (r.length + 1)) + 2 + 620) (by omega)).add (m3.mono (by omega)) (by omega)
    · exact m4.mono (by omega)
  · rintro σ G' ⟨rfl,⟨t,b,u,v,rfl,b0,e,st,sb⟩,l60,hp⟩
    have h2:=vO hw.1
    have hs:Sm 30 ws.sum:=by unfold Sm; omega
    walk_at "rd"
    refine ⟨fV sb hs (by simp),gA (by omega) (by have:=hw.2; omega),(sb.mul hs).mono (by simp),Wk.here ?_⟩
    rw [aAw b0 hw.2]
    simp only [iD] at e
    have:Rat.divInt t b=iD (qs.zip ws):=by grind
    rw [this]; exact hq
  · have:Rat.divInt 0 1=0:=Rat.zero_divInt 1
    rw [this]; grind
  · unfold Sm; simp only [Int.natAbs_zero]; exact Nat.two_pow_pos _
  · unfold Sm
    show 1 < 2 ^ _
    exact Nat.one_lt_two_pow (by omega)
  · rw [List.length_zip]; omega
  · rintro ⟨x,w⟩ hp
    obtain ⟨h1,h2⟩:=List.of_mem_zip hp
    exact ⟨hb x h1,hw.1 w h2⟩
end
theorem WOk.one {n:Nat} (h:1≤n):WOk (List.replicate n 1):=by
  refine ⟨fun w hw=>?_, ?_⟩
  · rw [(List.mem_replicate.mp hw).2]; decide
  · have:=JR (ws:=List.replicate n 1) (v:=1) (fun w hw=>by rw [(List.mem_replicate.mp hw).2]; decide) (List.mem_replicate.mpr ⟨by omega,rfl⟩)
    omega
theorem NW {n:Nat}:(List.replicate n [PV.int 1]).flatten=(List.replicate n (1:Int)).map PV.int:=by
  induction n with
  | zero=>rfl
  | succ n ih=>rw [List.replicate_succ,List.flatten_cons,ih,List.replicate_succ]; rfl
theorem YF {rs:List R3} {f:R3→Rat} (hr:∀ r∈rs,Ok3 r) (hf:∀ r,Ok3 r→OkX (f r)):∀ x∈rs.map f,OkX x:=fun x hx=>by
  obtain ⟨r,h,rfl⟩:=List.mem_map.mp hx
  exact hf r (hr r h)
theorem wY.mq {rs:List R3} {ws:List Int} {f:R3→Rat} (h:wY rs ws) (hf:∀ r,Ok3 r→OkX (f r)):In1 (mq (rs.map f) ws)∧Bd 2520 (mq (rs.map f) ws):=by
  obtain ⟨h1,h2,h3,h4,h5⟩:=h
  have o:=YF h4 hf
  exact ⟨aDY (by rw [List.length_map]; exact h1) (fun x hx=>(o x hx).1) h5,aD7 (n:=600) (by rw [List.length_map]; exact h1) (by omega) (fun x hx=>(o x hx).2) h5⟩
theorem wY.in3 {rs:List R3} {ws:List Int} (h:wY rs ws):In1 (dO rs ws).1∧In1 (dO rs ws).2.1∧In1 (dO rs ws).2.2:=⟨(h.mq fun r q=>q.1).1,(h.mq fun r q=>q.2.1).1,(h.mq fun r q=>q.2.2).1⟩
set_option hygiene false in
local macro_rules | `(tactic| walk_at "rd") => `(tactic| simp only [wpS, wpE, wpL, wpT, wpO, wpI, wpG, eX, aM, aC, List.length_cons, List.length_nil, List.cons_append, List.nil_append, List.replicate, Nat.reduceAdd, Nat.reduceSub, Nat.zero_add, List.getElem?_cons_zero, List.getElem?_cons_succ, List.set_cons_zero, List.set_cons_succ, Option.some.injEq, exists_eq_left', true_and, and_true, exists_false, ite_self, false_and, and_false, or_false, oH, cX, rN, eL, lE, tH, fS, cY, yD, aH.1, aH.2.1, aH.2.2.1, List.cons.injEq, PV.int.injEq, PV.bl.injEq, PV.str.injEq, PV.ref.injEq, PV.tup.injEq, and_assoc, exists_and_left, eq_self, Int.reduceToNat, Int.reducePow, jC, gZ, EX, jZ, wV, Option.getD_some, List.map, bD, fI, Bool.not_true, Bool.not_false, Bool.and_self, Bool.and_true, Bool.true_and, if_true, if_false, ite_true, ite_false, Bool.false_eq_true, decide_eq_true_eq, decide_true, decide_false, reduceCtorEq, sz1, sz3, WJ, xA, oE, pD, XW, *])
section
variable {T:Tb}
noncomputable def aAs:CE:=(.cal "mean_share" (.cons (.cmpr false (.gn 1) (.isq (.var 2)) .nil (.idx (.var 1) (.var 2)) [none,none,some 1]) (.cons (.var 3) .nil)))
theorem BR (k:L10 T) {rs:List R3} {ws:List Int} {u:Option PV} {j:Int} {f:R3→Rat} {G:Gh} {Q:PK1} (hj:∀ r:R3,atI [FQ r.1,FQ r.2.1,FQ r.2.2] j=some (FQ (f r))) (hf:∀ r,Ok3 r→OkX (f r)) (h:wY rs ws) (hq:Q (FQ (mq (rs.map f) ws)) G) :
    wpE T aAs [u,some (.int j),some (.lst (rs.map WU)),some (.tup (ws.map .int))] G Q:=by
  obtain ⟨h1,h2,h3,h4,h5⟩:=h
  unfold aAs
  have:=k.mean
  walk_at "rd"
  refine ⟨by rw [List.length_map]; exact szN (by omega), ?_⟩
  refine eD WU (fun l σ G' acc=>G'=G∧(∃ u v,σ=[u,v,some (.int j)])∧∃ l0,rs=l0 ++ l∧acc=(l0.map f).map FQ) (fun _ _ _ _ _=>trivial) ?_ ?_ rs _ _ _ ⟨rfl,⟨_,_,rfl⟩,[],rfl,rfl⟩
  · rintro x r σ G' acc R ⟨rfl,⟨u,v,rfl⟩,l0,e1,e2⟩ hR
    unfold WU
    walk_at "rd"
    refine hR _ _ _ ⟨rfl,⟨_,_,rfl⟩,l0 ++ [x],by rw [e1,List.append_assoc]; rfl, ?_⟩
    rw [e2,List.map_append,List.map_append]; rfl
  · rintro σ G' acc ⟨rfl,_,l0,e1,e2⟩
    rw [List.append_nil] at e1
    subst e1 e2
    exact ⟨rs.map f,rfl,ws,rfl,by rw [List.length_map]; exact h1,by omega,fun x hx=>(YF h4 hf x hx).2,h5,hq⟩
noncomputable def LN:CE:=(.cmpr false (.gn 1) (.isq (.var 0)) .nil (.cal "shares_of" (.cons (.var 1) .nil)) [none,none])
theorem WH (h:PT T) {rs:List R3} {a b c:Option PV} {G:Gh} {Q:PK1} (hz:rs.length≤4) (hq:Q (.lst (rs.map WU)) G):wpE T LN [some (.tup (rs.map shV)),a,b,c] G Q:=by
  unfold LN
  have:=h.shares_of
  walk_at "rd"
  refine ⟨by rw [List.length_map]; exact szN (by omega), ?_⟩
  refine eD shV (fun l σ G' acc=>G'=G∧(∃ u v,σ=[u,v])∧∃ l0,rs=l0 ++ l∧acc=l0.map WU) (fun _ _ _ _ _=>trivial) ?_ ?_ rs _ _ _ ⟨rfl,⟨_,_,rfl⟩,[],rfl,rfl⟩
  · rintro x r σ G' acc R ⟨rfl,⟨u,v,rfl⟩,l0,e1,e2⟩ hR
    unfold shV
    walk_at "rd"
    refine hR _ _ _ ⟨rfl,⟨_,_,rfl⟩,l0 ++ [x],by rw [e1,List.append_assoc]; rfl, ?_⟩
    rw [e2,List.map_append]; rfl
  · rintro σ G' acc ⟨rfl,_,l0,e1,e2⟩
    rw [List.append_nil] at e1
    subst e1 e2
    exact hq
noncomputable def aHn:CS:=(.seq (.asg (.gn 3) LN)
  (.ret (.cal "shade_of" (.cons (.cmpr false (.gn 1) (.irg (.cons (.int 3) .nil)) .nil aAs [none,none,some 3,some 1]) .nil))))
theorem VC (h:PT T) (k:L10 T) {rs:List R3} {ws:List Int} {n:Int} {c:Option PV} {G:Gh} {Q:PK1} (m:wY rs ws) (hq:Q (shV (dO rs ws)) G):wpS T aHn (aM Q) [some (.tup (rs.map shV)),some (.tup (ws.map .int)),some (.int n),c] G:=by
  unfold aHn
  have:=h.shade_of
  have:=@AE
  walk_at "rd"
  refine WH h m.2.2.1 ?_
  refine ⟨by decide,by decide, ?_⟩
  refine BR k (fun r=>at0) (fun r q=>q.1) m ?_
  refine BR k (fun r=>at1) (fun r q=>q.2.1) m ?_
  refine BR k (fun r=>at2) (fun r q=>q.2.2) m ?_
  obtain ⟨i1,i2,i3⟩:=m.in3
  exact ⟨_,rfl,_,rfl,_,rfl,i1,i2,i3,Wk.here hq⟩
noncomputable def vT:CS:=(.seq (.iff (.no (.tst (.cal "are_shades" (.cons (.var 0) (.cons (.int 1) (.cons (.glo "MOST_SHADES") .nil)))))) .nev .nil)
  (.seq (.asg (.gn 2) (.blt .len (.cons (.var 0) .nil)))
  (.seq (.iff (.tsb (.cmp .Is (.var 1) .non)) (.asg (.gn 1) (.bin .Mult (.tup (.cons (.int 1) .nil)) (.var 2))) .nil)
  (.seq (.iff (.no (.tst (.cal "are_weights" (.cons (.var 1) (.cons (.var 2) .nil))))) .nev .nil) aHn))))
theorem aJm (h:PT T) (k:L10 T):∀ xs G Q,OP xs G Q→wpS T vT (aM Q) (aC 4 xs) G:=by
  rintro xs G Q ⟨rs,ws,x,rfl,v,m,hq⟩
  have m':=m
  obtain ⟨h1,h2,h3,h4,h5⟩:=m'
  unfold vT
  have:=k.are_shades
  have:=k.are_weights
  have:=k.gv_MS
  walk_at "rd"
  refine ⟨rs,rfl,by omega,by omega,by omega, ?_⟩
  rcases v with ⟨rfl,rfl⟩ | rfl
  · walk_at "rd"
    refine ⟨by simp,by rw [List.length_map]; omega,by rw [List.length_map]; omega,List.replicate rs.length 1, ?_, ?_⟩
    · rw [List.length_map,NW]; simp
    · refine ⟨by rw [List.length_map,List.length_replicate],by rw [List.length_replicate]; omega,h5, ?_⟩
      have e:(List.replicate ((List.map shV rs).length:Int).toNat [PV.int 1]).flatten=(List.replicate rs.length (1:Int)).map PV.int:=by rw [List.length_map,Int.toNat_natCast,NW]
      rw [e]
      exact VC h k m hq
  · walk_at "rd"
    exact ⟨ws,rfl,by rw [List.length_map,h1],by omega,h5,VC h k m hq⟩
end
theorem aK7:PV.tup [.int 1,.int 2]=FQ hlf:=rfl
theorem aLH:PV.tup [.int 3,.int 1]=FQ 3:=rfl
theorem aEf {r:R3}:shV r=SH r.1 r.2.1 r.2.2:=rfl
set_option hygiene false in
local macro_rules | `(tactic| walk_at "rd") => `(tactic| simp only [wpS, wpE, wpL, wpT, wpO, wpI, wpG, eX, aM, aC, List.length_cons, List.length_nil, List.cons_append, List.nil_append, List.append_nil, List.replicate, Nat.reduceAdd, Nat.reduceSub, Nat.zero_add, List.getElem?_cons_zero, List.getElem?_cons_succ, List.set_cons_zero, List.set_cons_succ, Option.some.injEq, exists_eq_left', true_and, and_true, exists_false, ite_self, false_and, and_false, or_false, iM, lF, lI, oH, cX, rN, eL, tH, fS, cY, aH.1, aH.2.1, aH.2.2.1, at0, at1, at2, List.cons.injEq, PV.int.injEq, PV.bl.injEq, PV.str.injEq, PV.ref.injEq, PV.tup.injEq, and_assoc, exists_and_left, eq_self, iN, cV, Int.reduceToNat, Int.reducePow, jC, gZ, EX, jZ, wV, Option.getD_some, List.map, gH, dU, dB, iS, eE, iI, bD, fI, Bool.not_true, Bool.not_false, Bool.and_self, Bool.and_true, Bool.true_and, if_true, if_false, ite_true, ite_false, Bool.false_eq_true, decide_eq_true_eq, decide_true, decide_false, reduceCtorEq, sz2, sz3, Wk.here, aK7, aLH, WP, aEf, *])
section
variable {T:Tb}
noncomputable def gE:CS:=pE
noncomputable def fR:CS:=oP
noncomputable def hV:CS:=uF
noncomputable def fL:CS:=mO
noncomputable def gY:CS:=iH
theorem BX (h:PT T) (k:L10 T):∀ xs G Q,vN xs G Q→wpS T gE (aM Q) (aC 1 xs) G:=by
  rintro xs G Q ⟨o,rfl,ok,hq⟩
  unfold gE pE
  have:=h.is_share
  have:=k.gv_HALF
  cases o with
  | none =>
    have hq':Q (FQ hlf) G:=hq
    simp only [tV]
    walk_at "rd"
  | some p =>
    have hq':Q (FQ p) G:=hq
    obtain ⟨⟨i1,i2⟩,_⟩:=ok p rfl
    simp only [tV]
    walk_at "rd"
noncomputable def hZ:CS:=tX
theorem IG (h:PT T):∀ xs G Q,CZ xs G Q→wpS T hZ (aM Q) (aC 3 xs) G:=by
  rintro xs G Q ⟨⟨a,b,c⟩,q,p,rfl,⟨⟨ia,ib,ic⟩,ba,bb,bc⟩,iq,bq,ip,bp,hq⟩
  unfold hZ tX
  have:=h.shares_of
  have:=h.minus
  have:=h.plus
  have:=h.times
  have:=h.shade_of
  have q4:=bq.mono (show 1900≤4000 by decide)
  have p4:=bp.mono (show 60≤4000 by decide)
  have a4:Bd 4000 a:=ba.mono (by decide)
  have b4:Bd 4000 b:=bb.mono (by decide)
  have c4:Bd 4000 c:=bc.mono (by decide)
  have a1:Bd 4000 (q - a):=bq.sub ba (show 1900 + 600 + 1≤4000 by decide)
  have b1:Bd 4000 (q - b):=bq.sub bb (show 1900 + 600 + 1≤4000 by decide)
  have c1:Bd 4000 (q - c):=bq.sub bc (show 1900 + 600 + 1≤4000 by decide)
  have a2:Bd 4000 (p * (q - a)):=bp.mul (bq.sub ba (show 1900 + 600 + 1≤2501 by decide)) (show 60 + 2501≤4000 by decide)
  have b2:Bd 4000 (p * (q - b)):=bp.mul (bq.sub bb (show 1900 + 600 + 1≤2501 by decide)) (show 60 + 2501≤4000 by decide)
  have c2:Bd 4000 (p * (q - c)):=bp.mul (bq.sub bc (show 1900 + 600 + 1≤2501 by decide)) (show 60 + 2501≤4000 by decide)
  have ja:In1 (a + p * (q - a)):=tG ia iq ip
  have jb:In1 (b + p * (q - b)):=tG ib iq ip
  have jc:In1 (c + p * (q - c)):=tG ic iq ip
  walk_at "rd"
  exact Wk.here hq
theorem UH (k:L10 T) {r:R3} {q p:Rat} {G:Gh} {Q:PK1} (s:Sh7 600 r) (iq:In1 q) (bq:Bd 1900 q) (ip:In1 p) (bp:Bd 60 p) (z:Q (shV (tw q p r)) G):T.S "toward" [shV r,FQ q,FQ p] G Q:=by
  rw [k.toward]; exact ⟨r,q,p,rfl,s,iq,bq,ip,bp,z⟩
theorem LA (k:L10 T) {o:Option Rat} {G:Gh} {Q:PK1} (ok:PO o) (z:Q (FQ (hf o)) G):T.S "part_of" [tV o] G Q:=by
  rw [k.part_of]; exact ⟨o,rfl,ok,z⟩
theorem DE (h:PT T) (k:L10 T):∀ xs G Q,dC (fun _=>1) xs G Q→wpS T fR (aM Q) (aC 2 xs) G:=by
  rintro xs G Q ⟨r,o,rfl,s,ok,hq⟩
  unfold fR oP
  have:=h.need_shade
  have:=h.gv_ONE
  walk_at "rd"
  exact LA k ok (UH k s ND (bd1.mono (by decide)) ok.hf.1 ok.hf.2 (Wk.here hq))
theorem FN (h:PT T) (k:L10 T):∀ xs G Q,dC (fun _=>0) xs G Q→wpS T hV (aM Q) (aC 2 xs) G:=by
  rintro xs G Q ⟨r,o,rfl,s,ok,hq⟩
  unfold hV uF
  have:=h.need_shade
  have:=h.gv_ZERO
  walk_at "rd"
  exact LA k ok (UH k s aDk (bd0.mono (by decide)) ok.hf.1 ok.hf.2 (Wk.here hq))
noncomputable def iB:CS:=(.seq (.ex (.cal "need_shade" (.cons (.var 0) .nil)))
  (.seq (.asg (.gn 2) (.cal "part_of" (.cons (.var 1) .nil)))
  (.seq (.asg (.gn 3) (.cal "plus" (.cons (.cal "plus" (.cons (.att (.var 0) "ember") (.cons (.att (.var 0) "leaf") .nil))) (.cons (.att (.var 0) "sky") .nil))))
  (.ret (.cal "toward" (.cons (.var 0) (.cons (.cal "over" (.cons (.var 3) (.cons (.tup (.cons (.int 3) (.cons (.int 1) .nil))) .nil))) (.cons (.var 2) .nil))))))))
theorem GS (h:PT T) (k:L10 T):∀ xs G Q,dC md xs G Q→wpS T iB (aM Q) (aC 4 xs) G:=by
  rintro xs G Q ⟨r,o,rfl,s,ok,hq⟩
  unfold iB
  have:=h.need_shade
  have:=h.plus
  have:=h.over
  walk_at "rd"
  refine LA k ok ?_
  have e1:=@aJ9 T h
  have e2:=@aJu T h
  have e3:=@aLM T h
  obtain ⟨i3,b1,b2,b3⟩:=s
  have d1:=b1.add b2 (show 600 + 600 + 1≤1201 by decide)
  have d2:=d1.add b3 (show 1201 + 600 + 1≤1802 by decide)
  walk_at "rd"
  exact ⟨b1.mono (by decide),b2.mono (by decide),d1.mono (by decide),b3.mono (by decide),d2.mono (by decide),aG7.mono (by decide),by decide,UH k ⟨i3,b1,b2,b3⟩ (IE i3) (d2.dv aG7 (by decide) (by decide)) ok.hf.1 ok.hf.2 (Wk.here hq)⟩
theorem yX (h:PT T):∀ xs G Q,ET xs G Q→wpS T fL (aM Q) (aC 1 xs) G:=by
  rintro xs G Q ⟨⟨a,b,c⟩,rfl,⟨⟨ia,ib,ic⟩,ba,bb,bc⟩,hq⟩
  unfold fL mO
  have:=h.shares_of
  have:=h.minus
  have:=h.shade_of
  have:=h.gv_ONE
  have o4:=bd1.mono (show 2≤4000 by decide)
  have a4:=ba.mono (show 600≤4000 by decide)
  have b4:=bb.mono (show 600≤4000 by decide)
  have c4:=bc.mono (show 600≤4000 by decide)
  have ja:=rO ia
  have jb:=rO ib
  have jc:=rO ic
  walk_at "rd"
  exact Wk.here hq
theorem GJ (h:PT T):∀ xs G Q,vB xs G Q→wpS T gY (aM Q) (aC 3 xs) G:=by
  rintro xs G Q ⟨⟨a,b,c⟩,o,rfl,s,hq⟩
  cases o with
  | some n=>exact aAU h _ _ _ ⟨a,b,c,n,rfl,s.1,hq⟩
  | none =>
    obtain ⟨⟨ia,ib,ic⟩,_⟩:=s
    have hq':Q (SH c a b) G:=hq
    unfold gY iH
    have:=h.need_shade
    have:=h.is_whole
    have:=h.shares_of
    have:=h.shade_of
    have:=@AE
    have e0:(0 - 1:Int) % 3=2:=by decide
    have e1:(1 - 1:Int) % 3=0:=by decide
    have e2:(2 - 1:Int) % 3=1:=by decide
    have c3:∀ i:Int,OA i 3:=fun _=>by show (0:Int) < 3; decide
    simp only [iV]
    walk_at "rd"
    exact ⟨by decide,by decide⟩
end
set_option hygiene false in
local macro_rules | `(tactic| walk_at "rd") => `(tactic| simp only [wpS, wpE, wpL, wpT, wpO, wpI, wpG, eX, aM, aC, List.length_cons, List.length_nil, List.cons_append, List.nil_append, List.append_nil, List.replicate, Nat.reduceAdd, Nat.reduceSub, Nat.zero_add, List.getElem?_cons_zero, List.getElem?_cons_succ, List.set_cons_zero, List.set_cons_succ, Option.some.injEq, exists_eq_left', true_and, and_true, ite_self, eG, cX, eL, lZ, fS, cY, aH.1, aH.2.1, aH.2.2.1, at0, List.cons.injEq, PV.int.injEq, PV.bl.injEq, PV.str.injEq, PV.ref.injEq, PV.tup.injEq, and_assoc, exists_and_left, eq_self, iN, LK, DM, Int.reduceToNat, Int.reducePow, jZ, Option.getD_some, List.map, gH, dU, dB, iS, bD, Bool.not_true, Bool.not_false, Bool.and_self, Bool.and_true, Bool.true_and, if_true, if_false, ite_true, ite_false, Bool.false_eq_true, decide_eq_true_eq, decide_true, decide_false, reduceCtorEq, sz2, sz3, Wk.here, aEH, aFs, aFE, nH, kM, *])
section
variable {T:Tb}
noncomputable def iY:CS:=wZ
theorem KK (h:PT T) (k:L10 T):∀ xs G Q,gL xs G Q→wpS T iY (aM Q) (aC 2 xs) G:=by
  rintro xs G Q ⟨a,b,rfl,ha,hb,hq⟩
  unfold iY wZ
  have:=h.need_fractions
  have:=k.less
  walk_at "rd"
noncomputable def eA:CS:=lA
theorem uY (k:L10 T):∀ xs G Q,jR xs G Q→wpS T eA (aM Q) (aC 2 xs) G:=by
  rintro xs G Q ⟨a,b,c,rfl,ha,hb,hc,hq⟩
  unfold eA lA
  have e:=k.falls
  have eg:=k.gv_ST
  simp only [wpS,wpE,wpI,wpG,wpT,wpL,eg,cY]
  refine ⟨by decide, ?_⟩
  refine aAO (ZV a b c) trivial (fun _ _=>trivial) _ _ _ _ ?_ ?_ ?_
  · intro x hx u R hR
    obtain ⟨n,rfl⟩:=aFX hx
    rw [cN] at hR
    walk_at "rd"
    exact ⟨n,rfl,hR⟩
  · intro x hx u R hR
    walk_at "rd"
  · obtain ⟨r,e⟩:=YD (a:=a) (b:=b) (c:=c)
    rw [List.nil_append,e]
    walk_at "rd"
noncomputable def fF:CS:=mP
theorem zN (h:PT T) (k:L10 T):∀ xs G Q,pQ xs G Q→wpS T fF (aM Q) (aC 10 xs) G:=by
  rintro xs G Q ⟨a,b,c,rfl,ha,hb,hc,hq⟩
  unfold fF mP
  have:=h.shares_of
  have:=h.minus
  have:=h.over
  have:=h.plus
  have:=h.times
  have:=h.gv_ONE
  have:=@rQ
  have es:=k.stretch_of
  have a4:=ha.mono (show 600≤4000 by decide)
  have b4:=hb.mono (show 600≤4000 by decide)
  have c4:=hc.mono (show 600≤4000 by decide)
  have st:∀ {Q:PK1},Q (stV (kOf a b c)) G→T.S "stretch_of" [.tup [FQ a,FQ b,FQ c]] G Q:=fun q=>by rw [es]; exact ⟨a,b,c,rfl,a4,b4,c4,q⟩
  clear es
  have bl:Bd 600 (lo a b c):=oO ha hb hc
  have bh:Bd 600 (hi a b c):=oO ha hb hc
  have bm:Bd 600 (mi a b c):=oO ha hb hc
  walk_at "rd"
  refine st ?_
  unfold stV
  walk_at "rd"
  unfold xJ tO at hq
  have el:p3 (sl (kOf a b c)) a b c=lo a b c:=rfl
  have eh:p3 (sg (kOf a b c)) a b c=hi a b c:=rfl
  have em:p3 (sm (kOf a b c)) a b c=mi a b c:=rfl
  rw [el,eh,em]
  refine ⟨bd1.mono (by decide),bh.mono (by decide), ?_⟩
  by_cases e:hi a b c=lo a b c
  · rw [if_pos e] at hq
    rw [if_pos e]
    exact Wk.here hq
  · rw [if_neg e] at hq
    rw [if_neg e]
    have d1:=bm.sub bl (show 600 + 600 + 1≤1201 by decide)
    have d2:=bh.sub bl (show 600 + 600 + 1≤1201 by decide)
    have nz:hi a b c - lo a b c≠0:=by grind
    have d3:=d1.dv d2 nz (show 1201 + 1201≤2402 by decide)
    have d4:Bd 3 (sw (kOf a b c):Rat):=Bd.int aEK (by decide)
    have d5:Bd 3 (ss (kOf a b c):Rat):=Bd.int aEz (by decide)
    have d6:=d4.mul d3 (show 3 + 2402≤2405 by decide)
    exact ⟨bm.mono (by decide),bl.mono (by decide),bh.mono (by decide),bl.mono (by decide),d1.mono (by decide),d2.mono (by decide),nz,d4.mono (by decide),d3.mono (by decide),d5.mono (by decide),d6.mono (by decide),Wk.here hq⟩
end
theorem aFD:PV.tup [.int 1,.int 1]=FQ 1:=rfl
theorem aE5:PV.tup [.int 0,.int 1]=FQ 0:=rfl
theorem aBC {a:Str}:shp (.str a)=PyData.strOk a:=by
  show SeqAt.shaped (.str a)=_
  unfold SeqAt.shaped
  have:decide ((PyData.str a).depth≤64)=true:=rfl
  rw [this,Bool.and_true]; rfl
theorem aBR {a b:Str} {G:Gh} {Q:PK1}:pEq false (.str a) (.str b) G Q=(PyData.strOk a=true∧PyData.strOk b=true∧Q (.bl (a == b)) G):=by
  show (shp (.str a)=true∧shp (.str b)=true∧Q (.bl (peq (.str a) (.str b))) G)=_
  simp only [aBC,peq]
theorem HJ (s:String):PyData.strOk (Str.ofString s)=true:=by
  rw [Str.ofString_eq_toList]
  unfold PyData.strOk
  simp only [List.all_toArray,List.all_eq_true,List.mem_map,decide_eq_true_eq]
  rintro x ⟨c,_,rfl⟩
  have h:=c.valid
  show c.val.toNat < 1114112
  rcases h with h | ⟨_,h⟩
  · have:c.val.toNat < 0xd800:=h
    omega
  · have:c.val.toNat < 0x110000:=h
    exact this
theorem aKk:PyData.strOk ("lighter":Str)=true:=HJ _
theorem aKf:PyData.strOk ("darker":Str)=true:=HJ _
theorem aLs:PyData.strOk ("duller":Str)=true:=HJ _
theorem aKb:PyData.strOk ("turned":Str)=true:=HJ _
theorem aNK:PyData.strOk ("opposite":Str)=true:=HJ _
theorem aMF:(("lighter":Str) == ("opposite":Str))=false:=by decide
theorem aNl:(("darker":Str) == ("opposite":Str))=false:=by decide
theorem aNk:(("duller":Str) == ("opposite":Str))=false:=by decide
theorem aMy:(("turned":Str) == ("opposite":Str))=false:=by decide
theorem aNP:(("duller":Str) == ("turned":Str))=false:=by decide
theorem aNp:(("lighter":Str) == ("turned":Str))=false:=by decide
theorem aNJ:(("darker":Str) == ("turned":Str))=false:=by decide
theorem aMT {a:Str}:(a == a)=true:=beq_self_eq_true a
theorem aMi:([("lighter","lighter"),("darker","darker"),("duller","duller"),("turned","turned")]:List (Str×Str)).lookup ("lighter":Str)=some ("lighter":Str):=by decide +kernel
theorem aLY:([("lighter","lighter"),("darker","darker"),("duller","duller"),("turned","turned")]:List (Str×Str)).lookup ("darker":Str)=some ("darker":Str):=by decide +kernel
theorem aM4:([("lighter","lighter"),("darker","darker"),("duller","duller"),("turned","turned")]:List (Str×Str)).lookup ("duller":Str)=some ("duller":Str):=by decide +kernel
theorem aNG:([("lighter","lighter"),("darker","darker"),("duller","duller"),("turned","turned")]:List (Str×Str)).lookup ("turned":Str)=some ("turned":Str):=by decide +kernel
theorem VG {T:String} {a:Str} {cs:List String} {G:Gh} {Q:PK1}:eW cs .isi [.str a,.ty T] G Q=(T∈pA∧Q (.bl (zM "str" T)) G):=EK rfl
theorem aHR:zM "str" "str"=true:=by decide
theorem aJD {G:Gh} {Q:PK1}:mM .NotIn (.int 1) (.tup [.int 1,.int 2]) G Q=Q (.bl false) G:=by
  refine propext ⟨?_,fun q=>⟨_,.inl rfl,rfl,rfl,q⟩⟩
  rintro ⟨xs,h,_,_,q⟩
  rcases h with h | h
  · cases h; exact q
  · cases h
theorem aJs {G:Gh} {Q:PK1}:mM .NotIn (.int 2) (.tup [.int 1,.int 2]) G Q=Q (.bl false) G:=by
  refine propext ⟨?_,fun q=>⟨_,.inl rfl,rfl,rfl,q⟩⟩
  rintro ⟨xs,h,_,_,q⟩
  rcases h with h | h
  · cases h; exact q
  · cases h
set_option hygiene false in
local macro_rules | `(tactic| walk_at "rd") => `(tactic| simp only [wpS, wpE, wpL, wpT, wpO, wpI, wpG, eX, aM, aC, List.length_cons, List.length_nil, List.cons_append, List.nil_append, List.append_nil, List.replicate, Nat.reduceAdd, Nat.reduceSub, Nat.zero_add, List.getElem?_cons_zero, List.getElem?_cons_succ, List.set_cons_zero, List.set_cons_succ, Option.some.injEq, exists_eq_left', true_and, and_true, exists_false, ite_self, false_and, and_false, or_false, iM, vG, eG, oH, gP, cX, rN, eL, lE, yJ, cY, aH.1, aH.2.1, aH.2.2.1, DJ, at0, at1, aBg, XC, List.cons.injEq, PV.int.injEq, PV.bl.injEq, PV.str.injEq, PV.ref.injEq, PV.tup.injEq, and_assoc, exists_and_left, eq_self, iN, cV, Int.reduceToNat, Int.reducePow, exists_eq', jZ, List.map, eE, iI, Bool.not_true, Bool.not_false, Bool.and_self, Bool.and_true, Bool.true_and, if_true, if_false, ite_true, ite_false, Bool.false_eq_true, decide_eq_true_eq, decide_true, decide_false, reduceCtorEq, sz2, Wk.here, WP, HR, aEf, aBR, aKk, aKf, aLs, aKb, aNK, aNP, aNp, aNJ, aMT, VG, aHR, aH.2.2.2.1, aJD, aJs, Option.isSome_some, *])
section
variable {T:Tb}
noncomputable def mY:CS:=(.seq (.iff (.tsb (.cmp .Is (.var 1) .non)) (.ret (.bl true)) .nil)
  (.seq (.iff (.tsb (.cmp .Eq (.var 0) (.str "turned"))) (.ret (.cal "is_whole" (.cons (.var 1) .nil))) .nil)
  (.ret (.cal "is_share" (.cons (.var 1) .nil)))))
theorem aDM (h:PT T):∀ xs G Q,FA xs G Q→wpS T mY (aM Q) (aC 2 xs) G:=by
  rintro xs G Q ⟨w,x,f,rfl,d,hq⟩
  unfold mY
  have:=h.is_whole
  have:=h.is_share
  rcases d with ⟨rfl,o,rfl,ok,rfl⟩ | ⟨rfl,o,rfl,ok,rfl⟩ | ⟨rfl,o,rfl,ok,rfl⟩ | ⟨rfl,o,rfl,rfl⟩
  · cases o with
    | none=>simp only [tV,iV]; walk_at "rd"
    | some p=>obtain ⟨⟨i1,i2⟩,_⟩:=ok p rfl; simp only [tV,iV]; walk_at "rd"
  · cases o with
    | none=>simp only [tV,iV]; walk_at "rd"
    | some p=>obtain ⟨⟨i1,i2⟩,_⟩:=ok p rfl; simp only [tV,iV]; walk_at "rd"
  · cases o with
    | none=>simp only [tV,iV]; walk_at "rd"
    | some p=>obtain ⟨⟨i1,i2⟩,_⟩:=ok p rfl; simp only [tV,iV]; walk_at "rd"
  · cases o with
    | none=>simp only [tV,iV]; walk_at "rd"
    | some p=>simp only [tV,iV]; walk_at "rd"
theorem aNr (k:L10 T) {w:Str} {x:PV} {f:R3→R3} {G:Gh} {Q:PK1} (d:DdX w x f) (q:Q (.bl true) G):T.S "is_by" [.str w,x] G Q:=by rw [k.is_by]; exact ⟨w,x,f,rfl,d,q⟩
noncomputable def kU:CS:=(.seq (.iff (.oo (.no (.tst (.blt .isi (.cons (.var 0) (.cons (.glo "tuple") .nil))))) (.tsb (.cmp .NotIn (.blt .len (.cons (.var 0) .nil)) (.tup (.cons (.int 1) (.cons (.int 2) .nil)))))) (.ret (.bl false)) .nil)
  (.seq (.asg (.gn 1) (.idx (.var 0) (.int 0)))
  (.seq (.iff (.no (.tst (.blt .isi (.cons (.var 1) (.cons (.glo "str") .nil))))) (.ret (.bl false)) .nil)
  (.seq (.iff (.tsb (.cmp .Eq (.var 1) (.str "opposite"))) (.ret (.cmp .Eq (.blt .len (.cons (.var 0) .nil)) (.int 1))) .nil)
  (.ret (.an (.gin false [("lighter","lighter"),("darker","darker"),("duller","duller"),("turned","turned")] (.var 1)) (.oo (.cmp .Eq (.blt .len (.cons (.var 0) .nil)) (.int 1)) (.cal "is_by" (.cons (.var 1) (.cons (.idx (.var 0) (.int 1)) .nil))))))))))
theorem DdX.facts {w:Str} {x:PV} {f:R3→R3} (h:DdX w x f):(w == ("opposite":Str))=false∧PyData.strOk w=true∧([("lighter","lighter"),("darker","darker"),("duller","duller"),("turned","turned")]:List (Str×Str)).lookup w=some w:=by
  rcases h with ⟨rfl,_⟩ | ⟨rfl,_⟩ | ⟨rfl,_⟩ | ⟨rfl,_⟩
  · exact ⟨aMF,aKk,aMi⟩
  · exact ⟨aNl,aKf,aLY⟩
  · exact ⟨aNk,aLs,aM4⟩
  · exact ⟨aMy,aKb,aNG⟩
theorem TW (h:PT T) (k:L10 T):∀ xs G Q,oW xs G Q→wpS T kU (aM Q) (aC 2 xs) G:=by
  rintro xs G Q ⟨d,f,rfl,dx,hq⟩
  unfold kU
  have:=h.ty_tuple
  have:=k.ty_str
  rcases dx with ⟨w,x,dd,hd⟩ | ⟨rfl,rfl⟩
  · obtain ⟨f1,f2,f3⟩:=dd.facts
    rcases hd with rfl | ⟨e,rfl⟩
    · walk_at "rd"
      exact aNr k dd (Wk.here hq)
    · walk_at "rd"
  · walk_at "rd"
noncomputable def gB:CS:=(.seq (.iff (.oo (.no (.tst (.blt .isi (.cons (.var 0) (.cons (.glo "tuple") .nil))))) (.tsb (.cmp .Gt (.blt .len (.cons (.var 0) .nil)) (.glo "MOST_DEEDS")))) .nev .nil)
  (.fr (.gt 2 (.cons (.gn 1) (.cons (.gn 2) .nil))) (.ien (.var 0)) (.iff (.no (.tst (.cal "is_deed" (.cons (.var 2) .nil)))) .nev .nil)))
theorem CH (h:PT T) (k:L10 T):∀ xs G Q,vD xs G Q→wpS T gB (aM Q) (aC 3 xs) G:=by
  rintro xs G Q ⟨ds,rfl,h20,hd,hq⟩
  unfold gB
  have:=h.ty_tuple
  have:=k.gv_MD
  have e:=k.is_deed
  have sd:∀ {d:PV} {G:Gh} {Q:PK1},d∈ds→Q (.bl true) G→T.S "is_deed" [d] G Q:=fun {d G Q} hm q=>by
    obtain ⟨f,dx⟩:=hd d hm
    rw [e]; exact ⟨d,f,rfl,dx,q⟩
  clear e
  have hn:¬(20:Int) < (ds.length:Int):=by omega
  walk_at "rd"
  refine jE (fun σ G'=>G'=G∧∃ u v,σ=[some (.tup ds),u,v]) ⟨rfl,_,_,rfl⟩ ?_ ?_
  · rintro x hx σ G' R ⟨rfl,u,v,rfl⟩ hR
    unfold EH at hx
    obtain ⟨⟨y,i⟩,hy,rfl⟩:=List.mem_map.mp hx
    have hm:y∈ds:=by
      have:=List.mem_zipIdx' hy
      rw [this.2]
      exact List.getElem_mem _
    walk_at "rd"
    refine sd hm ?_
    have hR':=fun a b=>hR [some (.tup ds),a,b] G' ⟨rfl,_,_,rfl⟩
    clear hR
    walk_at "rd"
  · rintro σ G' ⟨rfl,u,v,rfl⟩
    exact Wk.here hq
theorem SL {f:R3→Rat} {w:Str} {r:R3} {o:Option Rat} {G:Gh} {Q:PK1} (e:T.S w=dC f) (s:Sh7 600 r) (ok:PO o) (z:Q (shV (tw (f r) (hf o) r)) G):T.S w [shV r,tV o] G Q:=by
  rw [e]; exact ⟨r,o,rfl,s,ok,z⟩
theorem aLi (k:L10 T) {r:R3} {o:Option Int} {G:Gh} {Q:PK1} (s:Sh7 600 r) (z:Q (shV (rt (o.getD 1) r)) G):T.S "turned" [shV r,iV o] G Q:=by
  rw [k.turned]; exact ⟨r,o,rfl,s,z⟩
theorem DO (k:L10 T) {r:R3} {G:Gh} {Q:PK1} (s:Sh7 600 r) (z:Q (shV (op3 r)) G):T.S "opposite" [shV r] G Q:=by
  rw [k.opposite]; exact ⟨r,rfl,s,z⟩
noncomputable def lW:CS:=(.seq (.iff (.tsb (.cmp .Eq (.idx (.var 1) (.int 0)) (.str "opposite"))) (.ret (.cal "opposite" (.cons (.var 0) .nil))) .nil)
  (.seq (.asg (.gn 2) (.gix [("lighter","lighter"),("darker","darker"),("duller","duller"),("turned","turned")] (.idx (.var 1) (.int 0))))
  (.seq (.iff (.tsb (.cmp .Eq (.blt .len (.cons (.var 1) .nil)) (.int 1))) (.ret (.cav [("darker",1,[.arg 0,.non]),("duller",1,[.arg 0,.non]),("lighter",1,[.arg 0,.non]),("turned",1,[.arg 0,.non])] 2 (.cons (.var 0) .nil))) .nil)
  (.ret (.cav [("darker",2,[.arg 0,.arg 1]),("duller",2,[.arg 0,.arg 1]),("lighter",2,[.arg 0,.arg 1]),("turned",2,[.arg 0,.arg 1])] 2 (.cons (.var 0) (.cons (.idx (.var 1) (.int 1)) .nil)))))))
theorem DdX.run (k:L10 T) {w:Str} {x:PV} {f:R3→R3} {r:R3} {G:Gh} {Q:PK1} (h:DdX w x f) (s:Sh7 600 r) (q:Q (shV (f r)) G):T.S w [shV r,x] G Q:=by
  rcases h with ⟨rfl,o,rfl,ok,rfl⟩ | ⟨rfl,o,rfl,ok,rfl⟩ | ⟨rfl,o,rfl,ok,rfl⟩ | ⟨rfl,o,rfl,rfl⟩
  · exact SL k.lighter s ok q
  · exact SL k.darker s ok q
  · exact SL k.duller s ok q
  · exact aLi k s q
theorem DdX.mem {w:Str} {x:PV} {f:R3→R3} (h:DdX w x f) (n:Nat) (ar:List Ar):(w,n,ar)∈([("darker",n,ar),("duller",n,ar),("lighter",n,ar),("turned",n,ar)]:List (Str×Nat×List Ar)):=by
  rcases h with ⟨rfl,_⟩ | ⟨rfl,_⟩ | ⟨rfl,_⟩ | ⟨rfl,_⟩ <;> simp
theorem aAo (k:L10 T):∀ xs G Q,vJ xs G Q→wpS T lW (aM Q) (aC 3 xs) G:=by
  rintro xs G Q ⟨r,d,f,rfl,s,dx,hq⟩
  unfold lW
  rcases dx with ⟨w,x,dd,hd⟩ | ⟨rfl,rfl⟩
  · obtain ⟨f1,f2,f3⟩:=dd.facts
    have z:=dd.run (G:=G) (Q:=Wk Q) k s (Wk.here hq)
    rcases hd with rfl | ⟨e,rfl⟩
    · walk_at "rd"
      exact ⟨_,rfl,2,[.arg 0,.arg 1],dd.mem 2 _,z⟩
    · rw [e] at z
      walk_at "rd"
      exact ⟨_,rfl,1,[.arg 0,.non],dd.mem 1 _,z⟩
  · have z:=DO (G:=G) (Q:=Wk Q) k s (Wk.here hq)
    walk_at "rd"
    exact z
theorem IT {chk:Gh→Prop} {g:PTG} {tb:PTS} {D:hJ} (J:List PV→PSt→Gh→Prop) (hc:∀ l σ G,J l σ G→chk G)
    (step:∀ x r σ G (R:PSt→Gh→Prop),J (x :: r) σ G→(∀ σ' G',J r σ' G'→R σ' G')→g x σ G fun σ2 G2=>tb { D with nx:=R,ct:=R,bk:=D.nx } σ2 G2)
    (fin:∀ σ G,J [] σ G→D.nx σ G):∀ (l:List PV) σ G,J l σ G→oV chk g tb D l σ G
  | [],σ,G,h=>⟨hc _ _ _ h,fin _ _ h⟩
  | x :: r,σ,G,h=>⟨hc _ _ _ h,step x r σ G _ h fun σ' G' h'=>IT J hc step fin r σ' G' h'⟩
theorem RI.all:∀ {ds:List PV} {r r':R3},RI ds r r'→∀ d∈ds,∃ f,DX d f
  | [],_,_,_,_,h=>by cases h
  | d :: ds,r,r',⟨f,dx,s,t⟩,e,h=>by
    rcases List.mem_cons.mp h with rfl | h
    · exact ⟨f,dx⟩
    · exact RI.all t e h
noncomputable def rP:CS:=(.seq (.ex (.cal "need_shade" (.cons (.var 0) .nil)))
  (.seq (.ex (.cal "need_deeds" (.cons (.var 1) .nil)))
  (.seq (.fr (.gn 2) (.isq (.var 1)) (.asg (.gn 0) (.cal "do_one" (.cons (.var 0) (.cons (.var 2) .nil)))))
  (.ret (.var 0)))))
theorem aIb (h:PT T) (k:L10 T):∀ xs G Q,EV xs G Q→wpS T rP (aM Q) (aC 3 xs) G:=by
  rintro xs G Q ⟨r,r',ds,rfl,h20,ls,hq⟩
  unfold rP
  have:=h.need_shade
  have e1:=k.need_deeds
  have e2:=k.do_one
  have sn:∀ {G:Gh} {Q:PK1},Q .non G→T.S "need_deeds" [.tup ds] G Q:=fun {G Q} q=>by rw [e1]; exact ⟨ds,rfl,h20,ls.all,q⟩
  have so:∀ {r:R3} {d:PV} {f:R3→R3} {G:Gh} {Q:PK1},Sh7 600 r→DX d f→Q (shV (f r)) G→T.S "do_one" [shV r,d] G Q:=fun {r d f G Q} s dx q=>by rw [e2]; exact ⟨r,d,f,rfl,s,dx,q⟩
  clear e1 e2
  walk_at "rd"
  refine sn ?_
  refine IT (fun l σ G'=>G'=G∧∃ r0 u,σ=[some (shV r0),some (.tup ds),u]∧RI l r0 r') (fun _ _ _ _=>trivial) ?_ ?_ ds _ _ ⟨rfl,r,none,rfl,ls⟩
  · rintro d l σ G' R ⟨rfl,r0,u,rfl,f,dx,s,t⟩ hR
    have hR':=fun a b c=>hR [some (shV a),some (.tup ds),b] G' ⟨rfl,_,_,rfl,c⟩
    clear hR
    walk_at "rd"
    exact so s dx (hR' _ _ t)
  · rintro σ G' ⟨rfl,r0,u,rfl,hl⟩
    have hl:r'=r0:=hl
    subst hl
    walk_at "rd"
    exact Wk.here hq
end
theorem NI {g h:R3→Rat} {a b c:Rat}:∀ {rs:List R3} {ws:List Int},rs.length=ws.length→iD ((rs.map fun r=>a * g r + b * h r + c).zip ws)=a * iD ((rs.map g).zip ws) + b * iD ((rs.map h).zip ws) + c * (ws.sum:Rat)
  | [],[],_=>by simp [iD] <;> grind
  | r :: rs,w :: ws,hl=>by
    have ih:=NI (g:=g) (h:=h) (a:=a) (b:=b) (c:=c) (rs:=rs) (ws:=ws) (by simpa using hl)
    simp only [List.map_cons,List.zip_cons_cons,iD,List.sum_cons,Rat.intCast_add]
    rw [ih]; grind
theorem yF {g h:R3→Rat} {a b c:Rat} {rs:List R3} {ws:List Int} (hl:rs.length=ws.length) (hw:WOk ws):mq (rs.map fun r=>a * g r + b * h r + c) ws=a * mq (rs.map g) ws + b * mq (rs.map h) ws + c:=by
  have hp:(0:Rat) < (ws.sum:Rat):=Rat.intCast_pos.mpr hw.2
  unfold mq
  rw [NI hl]
  generalize iD ((rs.map g).zip ws)=x
  generalize iD ((rs.map h).zip ws)=y
  generalize (ws.sum:Rat)=s at *
  have s0:s≠0:=by grind
  have e1:x / s * s=x:=Rat.div_mul_cancel s0
  have e2:y / s * s=y:=Rat.div_mul_cancel s0
  generalize x / s=u at *
  generalize y / s=v at *
  rw [←e1,←e2]
  have key:a * (u * s) + b * (v * s) + c * s=(a * u + b * v + c) * s:=by grind
  rw [key]
  exact Rat.mul_div_cancel s0
theorem oU {g h:R3→Rat} {rs:List R3} {ws:List Int} (e:∀ r,g r=h r):mq (rs.map g) ws=mq (rs.map h) ws:=by
  have:g=h:=funext e
  rw [this]
noncomputable def HV:Rat:=1 / 3
theorem aIS {r:R3}:md r=HV * r.1 + HV * (r.2.1 + r.2.2) + 0:=by
  unfold md HV
  have e3:(r.1 + r.2.1 + r.2.2) / 3 * 3=r.1 + r.2.1 + r.2.2:=Rat.div_mul_cancel (by decide)
  have h1:(1:Rat) / 3 * 3=1:=Rat.div_mul_cancel (by decide)
  generalize (r.1 + r.2.1 + r.2.2) / 3=m at *
  generalize (1:Rat) / 3=t at *
  grind
theorem sD {r:R3}:md r * 3=r.1 + r.2.1 + r.2.2:=Rat.div_mul_cancel (by decide)
theorem aGm {rs:List R3} {ws:List Int} (hl:rs.length=ws.length) (hw:WOk ws):mq (rs.map md) ws=md (dO rs ws):=by
  have e1:mq (rs.map md) ws=mq (rs.map fun r=>HV * r.1 + HV * (r.2.1 + r.2.2) + 0) ws:=oU fun r=>aIS
  rw [e1,yF (g:=fun r=>r.1) (h:=fun r=>r.2.1 + r.2.2) hl hw]
  have e2:mq (rs.map fun r=>r.2.1 + r.2.2) ws=mq (rs.map fun r=>1 * r.2.1 + 1 * r.2.2 + 0) ws:=oU fun r=>by grind
  rw [e2,yF (g:=fun r=>r.2.1) (h:=fun r=>r.2.2) hl hw,aIS]
  unfold dO
  dsimp only
  grind
theorem ZI {rs:List R3} {ws:List Int} {q p:Rat} (hl:rs.length=ws.length) (hw:WOk ws):dO (rs.map (tw q p)) ws=tw q p (dO rs ws):=by
  unfold dO
  simp only [List.map_map]
  have key:∀ g:R3→Rat,mq (rs.map fun r=>g r + p * (q - g r)) ws=mq (rs.map g) ws + p * (q - mq (rs.map g) ws):=fun g=>by
    have e:mq (rs.map fun r=>g r + p * (q - g r)) ws=mq (rs.map fun r=>(1 - p) * g r + 0 * g r + p * q) ws:=oU fun r=>by grind
    rw [e,yF (g:=g) (h:=g) hl hw]; grind
  exact Prod.ext (key fun r=>r.1) (Prod.ext (key fun r=>r.2.1) (key fun r=>r.2.2))
theorem YQ {rs:List R3} {ws:List Int} {p:Rat} (hl:rs.length=ws.length) (hw:WOk ws):dO (rs.map fun r=>tw (md r) p r) ws=tw (md (dO rs ws)) p (dO rs ws):=by
  have hm:=aGm hl hw
  have key:∀ g:R3→Rat,mq (rs.map fun r=>g r + p * (md r - g r)) ws=mq (rs.map g) ws + p * (md (dO rs ws) - mq (rs.map g) ws):=fun g=>by
    have e:mq (rs.map fun r=>g r + p * (md r - g r)) ws=mq (rs.map fun r=>(1 - p) * g r + p * md r + 0) ws:=oU fun r=>by grind
    rw [e,yF (g:=g) (h:=md) hl hw,hm]; grind
  have e1:dO (rs.map fun r=>tw (md r) p r) ws=(mq (rs.map fun r=>r.1 + p * (md r - r.1)) ws,mq (rs.map fun r=>r.2.1 + p * (md r - r.2.1)) ws,mq (rs.map fun r=>r.2.2 + p * (md r - r.2.2)) ws):=by
    unfold dO
    simp only [List.map_map]
    rfl
  rw [e1]
  exact Prod.ext (key fun r=>r.1) (Prod.ext (key fun r=>r.2.1) (key fun r=>r.2.2))
theorem aF4 {rs:List R3} {ws:List Int} (hl:rs.length=ws.length) (hw:WOk ws):dO (rs.map op3) ws=op3 (dO rs ws):=by
  unfold dO
  simp only [List.map_map]
  have key:∀ g:R3→Rat,mq (rs.map fun r=>1 - g r) ws=1 - mq (rs.map g) ws:=fun g=>by
    have e:mq (rs.map fun r=>1 - g r) ws=mq (rs.map fun r=>(-1) * g r + 0 * g r + 1) ws:=oU fun r=>by grind
    rw [e,yF (g:=g) (h:=g) hl hw]; grind
  exact Prod.ext (key fun r=>r.1) (Prod.ext (key fun r=>r.2.1) (key fun r=>r.2.2))
theorem aLl {n:Int} {r:R3} (h:n % 3=0):rt n r=(r.1,r.2.1,r.2.2):=by unfold rt rot; rw [if_pos h]
theorem aLB {n:Int} {r:R3} (h:n % 3=1):rt n r=(r.2.2,r.1,r.2.1):=by unfold rt rot; rw [if_neg (by omega),if_pos h]
theorem aJn {n:Int} {r:R3} (h:n % 3=2):rt n r=(r.2.1,r.2.2,r.1):=by unfold rt rot; rw [if_neg (by omega),if_neg (by omega)]
theorem SE (n:Int):(n % 3=0∧∀ r:R3,rt n r=(r.1,r.2.1,r.2.2))∨(n % 3=1∧∀ r:R3,rt n r=(r.2.2,r.1,r.2.1))∨(n % 3=2∧∀ r:R3,rt n r=(r.2.1,r.2.2,r.1)):=by
  have:n % 3=0∨n % 3=1∨n % 3=2:=by omega
  rcases this with h | h | h
  · exact .inl ⟨h,fun r=>aLl h⟩
  · exact .inr (.inl ⟨h,fun r=>aLB h⟩)
  · exact .inr (.inr ⟨h,fun r=>aJn h⟩)
theorem aGE {rs:List R3} {ws:List Int} {n:Int}:dO (rs.map (rt n)) ws=rt n (dO rs ws):=by
  rcases SE n with ⟨_,e⟩ | ⟨_,e⟩ | ⟨_,e⟩
  all_goals
    have ef:=funext e
    rw [ef]
    unfold dO
    simp only [List.map_map,Function.comp_def]
theorem aHT {rs:List R3} {ws:List Int} {d:PV} {f:R3→R3} (h:DX d f) (hl:rs.length=ws.length) (hw:WOk ws):dO (rs.map f) ws=f (dO rs ws):=by
  rcases h with ⟨w,x,dd,_⟩ | ⟨_,rfl⟩
  · rcases dd with ⟨_,o,_,_,rfl⟩ | ⟨_,o,_,_,rfl⟩ | ⟨_,o,_,_,rfl⟩ | ⟨_,o,_,rfl⟩
    · exact ZI hl hw
    · exact ZI hl hw
    · exact YQ hl hw
    · exact aGE
  · exact aF4 hl hw
theorem aC2 {p q:Rat} (hp:In1 p) (hq:In1 q):In1 (p + q - p * q):=by
  obtain ⟨a,b⟩:=hp
  obtain ⟨c,d⟩:=hq
  have m1:0≤p * (1 - q):=Rat.mul_nonneg a (by grind)
  have m2:0≤(1 - p) * (1 - q):=Rat.mul_nonneg (by grind) (by grind)
  constructor
  · grind
  · grind
theorem VN {q p p':Rat} {r:R3}:tw q p' (tw q p r)=tw q (p + p' - p * p') r:=by
  unfold tw
  refine Prod.ext ?_ (Prod.ext ?_ ?_)
  all_goals (dsimp only; grind)
theorem aKR {p:Rat} {r:R3}:md (tw (md r) p r)=md r:=by
  have h1:=@sD r
  have h2:=@sD (tw (md r) p r)
  unfold tw at h2 ⊢
  dsimp only at h2
  generalize md r=m at *
  grind
theorem aAY {q p:Rat} {r:R3}:op3 (tw q p r)=tw (1 - q) p (op3 r):=by
  unfold tw op3
  refine Prod.ext ?_ (Prod.ext ?_ ?_)
  all_goals (dsimp only; grind)
theorem aLp {r:R3}:md (op3 r)=1 - md r:=by
  have h1:=@sD r
  have h2:=@sD (op3 r)
  unfold op3 at h2 ⊢
  dsimp only at h2
  generalize md r=m at *
  grind
theorem aLw {n:Int} {r:R3}:md (rt n r)=md r:=by
  have h1:=@sD r
  have h2:=@sD (rt n r)
  rcases SE n with ⟨_,e⟩ | ⟨_,e⟩ | ⟨_,e⟩ <;> (rw [e] at h2 ⊢; try (dsimp only at h2; generalize md r=m at *; grind))
theorem aLF {n m:Int} {r:R3}:rt m (rt n r)=rt (n + m) r:=by
  rcases SE n with ⟨a,e⟩ | ⟨a,e⟩ | ⟨a,e⟩ <;> rcases SE m with ⟨b,e'⟩ | ⟨b,e'⟩ | ⟨b,e'⟩ <;> rw [e,e'] <;>
    first
    | rw [aLl (n:=n + m) (by omega)]
    | rw [aLB (n:=n + m) (by omega)]
    | rw [aJn (n:=n + m) (by omega)]
theorem aFh {n:Int} {q p:Rat} {r:R3}:rt n (tw q p r)=tw q p (rt n r):=by
  rcases SE n with ⟨_,e⟩ | ⟨_,e⟩ | ⟨_,e⟩ <;> rw [e,e] <;> rfl
theorem aKG {n:Int} {r:R3}:rt n (op3 r)=op3 (rt n r):=by
  rcases SE n with ⟨_,e⟩ | ⟨_,e⟩ | ⟨_,e⟩ <;> rw [e,e] <;> rfl
theorem aBL {T:Tb} {r:R3} {G:Gh} {Q:PK1} (h:T.S "Shade.__eq__"=xC) (q:Q (.bl true) G):aDH T [("Shade","Shade.__eq__")] (shV r) (shV r) G Q:=by
  refine .inl ⟨"Shade","Shade.__eq__",_,_,_,_,List.mem_singleton.mpr rfl,rfl,rfl, ?_⟩
  rw [h]
  exact ⟨r.1,r.2.1,r.2.2,r.1,r.2.1,r.2.2,rfl,true,by simp,q⟩
theorem YO {T:Tb} {eqs:List (String×Str)} {a b c:Rat} {G:Gh} {Q:PK1} (q:Q (.bl true) G):aDH T eqs (.tup [FQ a,FQ b,FQ c]) (.tup [FQ a,FQ b,FQ c]) G Q:=by
  refine .inr ?_
  rw [aAH]
  simpa using q
theorem P12.po {p:Rat} (h:P12 p):In1 p∧Bd 60 p:=⟨h.1,h.2.mono (by decide)⟩
section
variable {T:Tb}
theorem pN (k:L10 T) {r:R3} {p:Rat} {G:Gh} {Q:PK1} (s:Sh7 600 r) (hp:In1 p∧Bd 60 p) (z:Q (shV (tw 1 p r)) G):T.S "lighter" [shV r,FQ p] G Q:=SL (o:=some p) k.lighter s (fun p' e=>by cases e; exact hp) z
theorem JD (k:L10 T) {r:R3} {p:Rat} {G:Gh} {Q:PK1} (s:Sh7 600 r) (hp:In1 p∧Bd 60 p) (z:Q (shV (tw 0 p r)) G):T.S "darker" [shV r,FQ p] G Q:=SL (o:=some p) k.darker s (fun p' e=>by cases e; exact hp) z
theorem rE (k:L10 T) {r:R3} {p:Rat} {G:Gh} {Q:PK1} (s:Sh7 600 r) (hp:In1 p∧Bd 60 p) (z:Q (shV (tw (md r) p r)) G):T.S "duller" [shV r,FQ p] G Q:=SL (f:=md) (o:=some p) k.duller s (fun p' e=>by cases e; exact hp) z
theorem rK (k:L10 T) {r:R3} {n:Int} {G:Gh} {Q:PK1} (s:Sh7 600 r) (z:Q (shV (rt n r)) G):T.S "turned" [shV r,.int n] G Q:=aLi (o:=some n) k s z
theorem uT (k:L10 T) {r r':R3} {G:Gh} {Q:PK1} (e:r=r') (z:Q (.bl true) G):T.S "_law_alike" [shV r,shV r'] G Q:=by rw [k.alike]; exact ⟨r,r',rfl,e,z⟩
theorem aAh (k:L10 T) {r:R3} {G:Gh} {Q:PK1} (s:Sh7 600 r) (z:Q (xJ r.1 r.2.1 r.2.2) G):T.S "wheel_of" [shV r] G Q:=by rw [k.wheel_of]; exact ⟨r.1,r.2.1,r.2.2,rfl,s.2.1,s.2.2.1,s.2.2.2,z⟩
theorem aFA (k:L10 T) {r:R3} {d:PV} {f:R3→R3} {G:Gh} {Q:PK1} (dx:DX d f) (s:Sh7 600 r) (z:Q (shV (f r)) G):T.S "done" [shV r,.tup [d]] G Q:=by
  rw [k.done]; exact ⟨r,f r,[d],rfl,(show 1≤20 by decide),⟨f,dx,s,rfl⟩,z⟩
theorem lB (k:L10 T) {rs:List R3} {ws:List Int} {G:Gh} {Q:PK1} (m:wY rs ws) (z:Q (shV (dO rs ws)) G):T.S "mix" [.tup (rs.map shV),.tup (ws.map .int)] G Q:=by
  rw [k.mix]; exact ⟨rs,ws,_,rfl,.inr rfl,m,z⟩
theorem YW (k:L10 T) {rs:List R3} {G:Gh} {Q:PK1} (m:wY rs (List.replicate rs.length 1)) (z:Q (shV (dO rs (List.replicate rs.length 1))) G):T.S "mix" [.tup (rs.map shV),.non] G Q:=by
  rw [k.mix]; exact ⟨rs,_,_,rfl,.inl ⟨rfl,rfl⟩,m,z⟩
end
set_option hygiene false in
local macro_rules | `(tactic| walk_at "rd") => `(tactic| simp only [wpS, wpE, wpL, wpT, wpO, wpI, wpG, eX, aM, aC, List.length_cons, List.length_nil, List.cons_append, List.nil_append, List.append_nil, List.replicate, Nat.reduceAdd, Nat.reduceSub, Nat.zero_add, List.getElem?_cons_zero, List.getElem?_cons_succ, List.set_cons_zero, List.set_cons_succ, Option.some.injEq, exists_eq_left', true_and, ite_self, gQ, gX, eG, cX, aH.1, aH.2.1, aH.2.2.1, List.cons.injEq, PV.int.injEq, PV.bl.injEq, PV.str.injEq, PV.ref.injEq, PV.tup.injEq, and_assoc, exists_and_left, eq_self, DM, Int.reduceToNat, Int.reducePow, List.map, Bool.not_true, Bool.not_false, Bool.and_self, Bool.and_true, Bool.true_and, if_true, if_false, ite_true, ite_false, Bool.false_eq_true, decide_eq_true_eq, decide_true, decide_false, reduceCtorEq, sz2, sz3, Wk.here, aFD, aE5, *])
section
variable {T:Tb}
noncomputable def kO:CS:=(.ret (.an (.cal "is_shade" (.cons (.var 0) .nil)) (.an (.cal "is_shade" (.cons (.var 1) .nil)) (.an (.ceq [("Shade","Shade.__eq__")] (.var 0) (.var 1)) (.ceq [("Shade","Shade.__eq__")] (.cal "shares_of" (.cons (.var 0) .nil)) (.cal "shares_of" (.cons (.var 1) .nil)))))))
theorem SY (h:PT T) (k:L10 T):∀ xs G Q,vC xs G Q→wpS T kO (aM Q) (aC 2 xs) G:=by
  rintro xs G Q ⟨r,r',rfl,rfl,hq⟩
  unfold kO
  have e1:T.S "is_shade"=fH:=h.is_shade
  have e2:T.S "shares_of"=bD:=h.shares_of
  have s1:∀ {G:Gh} {Q:PK1},Q (.bl true) G→T.S "is_shade" [shV r] G Q:=fun {G Q} q=>by rw [e1]; exact ⟨_,_,_,rfl,q⟩
  have s2:∀ {G:Gh} {Q:PK1},Q (.tup [FQ r.1,FQ r.2.1,FQ r.2.2]) G→T.S "shares_of" [shV r] G Q:=fun {G Q} q=>by rw [e2]; exact ⟨_,_,_,rfl,q⟩
  clear e1 e2
  walk_at "rd"
  refine s1 ?_
  walk_at "rd"
  refine s1 ?_
  walk_at "rd"
  refine aBL k.eqS ?_
  walk_at "rd"
  exact s2 (s2 (YO (Wk.here hq)))
noncomputable def dY:CS:=(.seq (.asg (.gn 3) (.cal "_law_minus" (.cons (.cal "_law_plus" (.cons (.var 1) (.cons (.var 2) .nil))) (.cons (.cal "_law_times" (.cons (.var 1) (.cons (.var 2) .nil))) .nil))))
  (.seq (.iff (.no (.tst (.cal "_law_alike" (.cons (.cal "lighter" (.cons (.cal "lighter" (.cons (.var 0) (.cons (.var 1) .nil))) (.cons (.var 2) .nil))) (.cons (.cal "lighter" (.cons (.var 0) (.cons (.var 3) .nil))) .nil))))) (.ret (.bl false)) .nil)
  (.seq (.iff (.no (.tst (.cal "_law_alike" (.cons (.cal "darker" (.cons (.cal "darker" (.cons (.var 0) (.cons (.var 1) .nil))) (.cons (.var 2) .nil))) (.cons (.cal "darker" (.cons (.var 0) (.cons (.var 3) .nil))) .nil))))) (.ret (.bl false)) .nil)
  (.seq (.iff (.no (.tst (.cal "_law_alike" (.cons (.cal "duller" (.cons (.cal "duller" (.cons (.var 0) (.cons (.var 1) .nil))) (.cons (.var 2) .nil))) (.cons (.cal "duller" (.cons (.var 0) (.cons (.var 3) .nil))) .nil))))) (.ret (.bl false)) .nil)
  (.seq (.iff (.no (.tst (.cal "_law_alike" (.cons (.cal "opposite" (.cons (.cal "lighter" (.cons (.var 0) (.cons (.var 1) .nil))) .nil)) (.cons (.cal "darker" (.cons (.cal "opposite" (.cons (.var 0) .nil)) (.cons (.var 1) .nil))) .nil))))) (.ret (.bl false)) .nil)
  (.seq (.iff (.no (.tst (.cal "_law_alike" (.cons (.cal "opposite" (.cons (.cal "duller" (.cons (.var 0) (.cons (.var 1) .nil))) .nil)) (.cons (.cal "duller" (.cons (.cal "opposite" (.cons (.var 0) .nil)) (.cons (.var 1) .nil))) .nil))))) (.ret (.bl false)) .nil)
  (.ret (.cal "_law_alike" (.cons (.cal "opposite" (.cons (.cal "darker" (.cons (.var 0) (.cons (.var 1) .nil))) .nil)) (.cons (.cal "lighter" (.cons (.cal "opposite" (.cons (.var 0) .nil)) (.cons (.var 1) .nil))) .nil))))))))))
theorem lL {n m:Nat} {q p:Rat} {r:R3} (s:Sh7 n r) (hq:In1 q) (bq:Bd m q) (hp:P12 p) (h:2 * n + m + 14≤600):Sh7 600 (tw q p r):=(aJp s hq bq hp.1 hp.2).mono h
theorem uQ (lt:LT T) (k:L10 T):∀ xs G Q,vE xs G Q→wpS T dY (aM Q) (aC 4 xs) G:=by
  rintro xs G Q ⟨r,p,q,rfl,s,hp,hq2,hq⟩
  unfold dY
  have e1:=lt.plus
  have e2:=lt.minus
  have e3:=lt.times
  have s6:=s.mono (show 12≤600 by decide)
  have b1:=hp.2.add hq2.2 (show 12 + 12 + 1≤25 by decide)
  have b2:=hp.2.mul hq2.2 (show 12 + 12≤24 by decide)
  have b3:=b1.sub b2 (show 25 + 24 + 1≤60 by decide)
  have ib:In1 (p + q - p * q)∧Bd 60 (p + q - p * q):=⟨aC2 hp.1 hq2.1,b3⟩
  have bm:=NX s.2.1 s.2.2.1 s.2.2.2
  have so:Sh7 600 (op3 r):=(YV s).mono (by decide)
  have l1:Sh7 600 (tw 1 p r):=lL s ND bd1 hp (by decide)
  have l2:Sh7 600 (tw 0 p r):=lL s aDk bd0 hp (by decide)
  have l3:Sh7 600 (tw (md r) p r):=lL s (IE s.1) bm hp (by decide)
  have st:∀ {G:Gh} {Q:PK1},Q (FQ (p + q - p * q)) G→T.S "_law_plus" [FQ p,FQ q] G fun x G1=>T.S "_law_times" [FQ p,FQ q] G1 fun y G2=>T.S "_law_minus" [x,y] G2 Q:=fun {G Q} z=>by
    rw [e1,e2,e3]
    exact ⟨p,q,rfl,hp.2.mono (by decide),hq2.2.mono (by decide),p,q,rfl,hp.2.mono (by decide),hq2.2.mono (by decide),_,_,rfl,b1.mono (by decide),b2.mono (by decide),z⟩
  clear e1 e2 e3
  walk_at "rd"
  refine st ?_
  refine pN k s6 hp.po (pN k l1 hq2.po (pN k s6 ib (uT k VN ?_)))
  walk_at "rd"
  refine JD k s6 hp.po (JD k l2 hq2.po (JD k s6 ib (uT k VN ?_)))
  walk_at "rd"
  refine rE k s6 hp.po (rE k l3 hq2.po (rE k s6 ib (uT k (by rw [aKR,VN]) ?_)))
  walk_at "rd"
  refine pN k s6 hp.po (DO k l1 (DO k s6 (JD k so hp.po (uT k (by rw [aAY]; congr 1; grind) ?_))))
  walk_at "rd"
  refine rE k s6 hp.po (DO k l3 (DO k s6 (rE k so hp.po (uT k (by rw [aAY,aLp]) ?_))))
  walk_at "rd"
  exact JD k s6 hp.po (DO k l2 (DO k s6 (pN k so hp.po (uT k (by rw [aAY]; congr 1; grind) (Wk.here hq)))))
noncomputable def dN:CS:=(.seq (.iff (.no (.tst (.cal "_law_alike" (.cons (.cal "turned" (.cons (.cal "turned" (.cons (.var 0) (.cons (.var 2) .nil))) (.cons (.var 3) .nil))) (.cons (.cal "turned" (.cons (.var 0) (.cons (.bin .Add (.var 2) (.var 3)) .nil))) .nil))))) (.ret (.bl false)) .nil)
  (.seq (.iff (.no (.tst (.cal "_law_alike" (.cons (.cal "turned" (.cons (.cal "lighter" (.cons (.var 0) (.cons (.var 1) .nil))) (.cons (.var 2) .nil))) (.cons (.cal "lighter" (.cons (.cal "turned" (.cons (.var 0) (.cons (.var 2) .nil))) (.cons (.var 1) .nil))) .nil))))) (.ret (.bl false)) .nil)
  (.seq (.iff (.no (.tst (.cal "_law_alike" (.cons (.cal "turned" (.cons (.cal "duller" (.cons (.var 0) (.cons (.var 1) .nil))) (.cons (.var 2) .nil))) (.cons (.cal "duller" (.cons (.cal "turned" (.cons (.var 0) (.cons (.var 2) .nil))) (.cons (.var 1) .nil))) .nil))))) (.ret (.bl false)) .nil)
  (.ret (.cal "_law_alike" (.cons (.cal "turned" (.cons (.cal "opposite" (.cons (.var 0) .nil)) (.cons (.var 2) .nil))) (.cons (.cal "opposite" (.cons (.cal "turned" (.cons (.var 0) (.cons (.var 2) .nil))) .nil)) .nil)))))))
theorem sI (k:L10 T):∀ xs G Q,vH xs G Q→wpS T dN (aM Q) (aC 4 xs) G:=by
  rintro xs G Q ⟨r,p,n,m,rfl,s,hp,hq⟩
  unfold dN
  have s6:=s.mono (show 12≤600 by decide)
  have bm:=NX s.2.1 s.2.2.1 s.2.2.2
  have so:Sh7 600 (op3 r):=(YV s).mono (by decide)
  have l1:Sh7 600 (tw 1 p r):=lL s ND bd1 hp (by decide)
  have l3:Sh7 600 (tw (md r) p r):=lL s (IE s.1) bm hp (by decide)
  have t6:Sh7 600 (rt n r):=aFF s6
  walk_at "rd"
  refine rK k s6 (rK k t6 (rK k s6 (uT k aLF ?_)))
  walk_at "rd"
  refine pN k s6 hp.po (rK k l1 (rK k s6 (pN k t6 hp.po (uT k aFh ?_))))
  walk_at "rd"
  refine rE k s6 hp.po (rK k l3 (rK k s6 (rE k t6 hp.po (uT k (by rw [aFh,aLw]) ?_))))
  walk_at "rd"
  exact DO k s6 (rK k so (rK k s6 (DO k t6 (uT k aKG (Wk.here hq)))))
noncomputable def eB:CS:=(.seq (.asg (.gt 3 (.cons (.gn 2) (.cons (.gn 3) (.cons (.gn 4) .nil)))) (.cal "wheel_of" (.cons (.var 0) .nil)))
  (.seq (.asg (.gn 5) (.tup (.cons (.var 2) (.cons (.cal "_law_plus" (.cons (.var 3) (.cons (.cal "_law_times" (.cons (.var 1) (.cons (.cal "_law_minus" (.cons (.tup (.cons (.int 1) (.cons (.int 1) .nil))) (.cons (.var 3) .nil))) .nil))) .nil))) (.cons (.cal "_law_minus" (.cons (.var 4) (.cons (.cal "_law_times" (.cons (.var 1) (.cons (.var 4) .nil))) .nil))) .nil)))))
  (.seq (.iff (.tsb (.cmp .Eq (.var 1) (.tup (.cons (.int 1) (.cons (.int 1) .nil))))) (.asg (.gn 5) (.tup (.cons .non (.cons (.tup (.cons (.int 1) (.cons (.int 1) .nil))) (.cons (.tup (.cons (.int 0) (.cons (.int 1) .nil))) .nil))))) .nil)
  (.ret (.cmp .Eq (.cal "wheel_of" (.cons (.cal "lighter" (.cons (.var 0) (.cons (.var 1) .nil))) .nil)) (.var 5))))))
theorem uW (lt:LT T) (k:L10 T):∀ xs G Q,rG xs G Q→wpS T eB (aM Q) (aC 6 xs) G:=by
  rintro xs G Q ⟨r,p,rfl,s,hp,hq⟩
  unfold eB
  have e1:=lt.plus
  have e2:=lt.minus
  have e3:=lt.times
  have s6:=s.mono (show 12≤600 by decide)
  have l1:Sh7 600 (tw 1 p r):=lL s ND bd1 hp (by decide)
  obtain ⟨o,w,g,wh⟩:=aI3 r.1 r.2.1 r.2.2
  obtain ⟨bw,bg,_⟩:=aJ5 wh s.2.1 s.2.2.1 s.2.2.2
  have b1:=bd1.sub bw (show 2 + 12 + 1≤15 by decide)
  have b2:=hp.2.mul b1 (show 12 + 15≤27 by decide)
  have b3:=bd1.sub bg (show 2 + 12 + 1≤15 by decide)
  have b4:=hp.2.mul b3 (show 12 + 15≤27 by decide)
  have st:∀ {G:Gh} {Q:PK1},Q (FQ (w + p * (1 - w))) G→T.S "_law_minus" [FQ 1,FQ w] G fun x G1=>T.S "_law_times" [FQ p,x] G1 fun y G2=>T.S "_law_plus" [FQ w,y] G2 Q:=fun {G Q} z=>by
    rw [e1,e2,e3]
    exact ⟨1,w,rfl,bd1.mono (by decide),bw.mono (by decide),p,_,rfl,hp.2.mono (by decide),b1.mono (by decide),_,_,rfl,bw.mono (by decide),b2.mono (by decide),z⟩
  have st2:∀ {G:Gh} {Q:PK1},Q (FQ (1 - g - p * (1 - g))) G→T.S "_law_times" [FQ p,FQ (1 - g)] G fun y G2=>T.S "_law_minus" [FQ (1 - g),y] G2 Q:=fun {G Q} z=>by
    rw [e2,e3]
    exact ⟨p,_,rfl,hp.2.mono (by decide),b3.mono (by decide),_,_,rfl,b3.mono (by decide),b4.mono (by decide),z⟩
  clear e1 e2 e3
  walk_at "rd"
  refine aAh k s6 ?_
  rw [aFZ wh]
  walk_at "rd"
  refine st (st2 ?_)
  by_cases e:p=1
  · subst e
    walk_at "rd"
    refine pN k s6 hp.po (aAh k l1 ?_)
    have et:tw 1 1 r=(1,1,1):=by
      unfold tw
      refine Prod.ext ?_ (Prod.ext ?_ ?_)
      all_goals (dsimp only; grind)
    rw [et]
    dsimp only
    rw [aFZ (OH 1)]
    have:=@WL none none 1 (1 - 1) 1 0 G (Wk Q)
    simp only [tV] at this ⊢
    rw [this]
    have z10:(1 - 1:Rat)=0:=by grind
    rw [z10]
    simpa using Wk.here hq
  · have e':¬p=1:=e
    walk_at "rd"
    refine pN k s6 hp.po (aAh k l1 ?_)
    have wt:=aHg (q:=1) (p:=p) (by have:=hp.1.2; grind) wh
    unfold tw
    dsimp only
    rw [aFZ wt,WL]
    have ez:(1 - (g + p * (1 - g)):Rat)=1 - g - p * (1 - g):=by grind
    rw [ez]
    simpa using Wk.here hq
end
theorem Wk.new {Q:PK1} {x:PV} {G:Gh} {l:Addr} {o:GO} (n:G l=none) (q:Q x G):Wk Q x (gup G l o):=Wk.of q fun a u z=>by
  rw [eC (fun e=>by subst e; rw [n] at z; cases z)]; exact z
theorem JC:∀ {ns:List Int},LS (ns.map PV.int)=some ns.sum
  | []=>rfl
  | n :: r=>by rw [List.map_cons]; unfold LS; rw [JC (ns:=r)]; rfl
theorem UV {ns:List Int} {G:Gh} {Q:PK1} {cs:List String} {a:Addr} (h:G a=some (.lst (ns.map PV.int))) (q:Q (.int ns.sum) G):eW cs .sum [.ref a] G Q:=.inl ⟨_,_,mG h,JC,q⟩
theorem Pn.self {p:Addr} {G:Gh} (h:Pu p G):Pn p G G:=by
  obtain ⟨x,y,z,e⟩:=h
  refine ⟨x,y,z, ?_⟩
  funext a
  by_cases ea:a=p
  · subst ea; rw [bA,e]
  · rw [eC ea]
theorem map_set {ws:List Int} {j:Nat} {v:Int}:(ws.map PV.int).set j (.int v)=(ws.set j v).map PV.int:=by rw [List.map_set]
theorem Wk.pk {Q:PK1} {x:PV} {p:Addr} {G K:Gh} (h:Pk p G K) (q:∀ G',Pn p G G'→Q x G'):Wk Q x K:=h.end_ q
theorem aBX {lo:Int} {n:Nat} {x:PV} (h:x∈pY lo n):∃ k:Nat,x= .int (lo + (k:Int))∧k < n:=by
  unfold pY at h
  obtain ⟨k,hk,rfl⟩:=List.mem_map.mp h
  exact ⟨k,rfl,List.mem_range.mp hk⟩
theorem OR:∀ {ws:List Int} {j:Nat} {v:Int},(∀ w∈ws,0≤w∧w≤1000000)→(0≤v∧v≤1000000)→∀ w∈ws.set j v,0≤w∧w≤1000000:=fun {ws j v} h hv w hw=>by
  rcases List.mem_or_eq_of_mem_set hw with z | z
  · exact h w z
  · rw [z]; exact hv
theorem aCa {ws:List Int} {j:Nat} {v:Int} (hj:j < ws.length):v∈ws.set j v:=List.mem_iff_getElem.mpr ⟨j,by rw [List.length_set]; exact hj,by rw [List.getElem_set_self]⟩
set_option hygiene false in
local macro_rules | `(tactic| walk_at "rd") => `(tactic| simp only [wpS, wpE, wpL, wpT, wpO, wpI, wpG, eX, aM, aC, List.length_cons, List.length_nil, List.cons_append, List.nil_append, List.replicate, Nat.reduceAdd, Nat.reduceSub, Nat.zero_add, List.getElem?_cons_zero, List.getElem?_cons_succ, List.set_cons_zero, List.set_cons_succ, Option.some.injEq, exists_eq_left', and_true, exists_false, ite_self, false_and, and_false, or_false, gQ, gX, eG, gP, IC, KE, aH.1, aH.2.1, aH.2.2.1, List.cons.injEq, PV.int.injEq, PV.bl.injEq, PV.str.injEq, PV.ref.injEq, PV.tup.injEq, and_assoc, exists_and_left, eq_self, Int.reduceToNat, Int.reducePow, wV, Option.getD_some, List.map, nD, Bool.not_true, Bool.not_false, Bool.and_self, Bool.and_true, Bool.true_and, if_true, if_false, ite_true, ite_false, Bool.false_eq_true, decide_eq_true_eq, decide_true, decide_false, reduceCtorEq, *])
section
variable {T:Tb}
noncomputable def aII:CE:=(.cal "_law_pick" (.cons (.var 2) (.cons (.int 10) .nil)))
noncomputable def wtB:CS:=(.seq (.iff (.tsb (.cmp .Eq (.blt .sum (.cons (.var 2) .nil)) (.int 0))) (.sub (.var 2) (.neg (.int 1)) (.int 1)) .nil)
  (.ret (.blt .tuple (.cons (.var 2) .nil))))
noncomputable def eS:CS:=(.seq (.asg (.gn 2) (.cmpr true (.gn 1) (.irg (.cons (.var 1) .nil)) .nil aII [none,none,some 0]))
  (.seq (.iff (.tsb (.cmp .Eq (.cal "_law_pick" (.cons (.var 0) (.cons (.int 4) .nil))) (.int 1))) (.sub (.var 2) (.int 0) (.bin .Add (.int 1) (.cal "_law_pick" (.cons (.var 0) (.cons (.int 1000000) .nil))))) .nil) wtB))
theorem aCJ {α:Type} {xs:List α} (h:0 < xs.length):ixN xs.length (-1)=some (xs.length - 1):=by
  unfold ixN
  first
    | (rw [if_neg (by omega)]; split <;> first | (congr 1; omega) | omega)
    | (split <;> first | (congr 1; omega) | omega)
theorem aDW {p l:Addr} {n:Int} {ws:List Int} {x0 x1:Option PV} {G K:Gh} {Q:PK1} (k0:Pk p G K) (gk:K l=some (.lst (ws.map PV.int))) (gl:G l=none) (lp:l≠p) (hl:(ws.length:Int)=n) (n1:1≤n) (hw:∀ w∈ws,0≤w∧w≤1000000)
    (hq:∀ (ws:List Int) G',(ws.length:Int)=n→WOk ws→Pn p G G'→Q (.tup (ws.map .int)) G'):wpS T wtB (aM Q) [x0,x1,some (.ref l)] K:=by
  unfold wtB
  have s0:=vO hw
  walk_at "rd"
  refine UV gk ?_
  walk_at "rd"
  split
  · rename_i hs
    rw [pP gk]
    refine ⟨ws.length - 1, ?_, ?_⟩
    · rw [List.length_map]
      exact aCJ (xs:=ws) (by omega)
    · rw [oI,map_set]
      have ok:=OR (j:=ws.length - 1) (v:=1) hw ⟨by decide,by decide⟩
      refine Wk.pk (k0.set gl lp) fun G' g=>hq _ G' (by rw [List.length_set]; omega) ⟨ok, ?_⟩ g
      have:=JR ok (aCa (by omega))
      omega
  · rename_i hs
    rw [GG gk]
    exact Wk.pk k0 fun G' g=>hq _ G' (by omega) ⟨hw,by omega⟩ g
theorem wN (lt:LT T):∀ xs G Q,ON xs G Q→wpS T eS (aM Q) (aC 3 xs) G:=by
  rintro xs G Q ⟨p,n,rfl,hp,n1,n2,hq⟩
  unfold eS
  have:=lt.pick
  have:=@AE
  walk_at "rd"
  refine ⟨by omega,by omega, ?_⟩
  refine ⟨by unfold pY; rw [List.length_map,List.length_range]; exact szN (by omega), ?_⟩
  unfold pY
  refine eD (fun k:Nat=>PV.int (0 + (k:Int))) (fun l σ G' acc=>Pn p G G'∧(∃ u v,σ=[u,v,some (.ref p)])∧∃ ws:List Int,acc=ws.map PV.int∧ws.length + l.length=n.toNat∧∀ w∈ws,0≤w∧w≤1000000) (fun _ _ _ _ _=>trivial) ?_ ?_ (List.range n.toNat) _ _ _ ⟨Pn.self hp,⟨_,_,rfl⟩,[],rfl,by simp,fun w hw=>by cases hw⟩
  · rintro x r σ G' acc R ⟨m,⟨u,v,rfl⟩,ws,rfl,hl,hw⟩ hR
    unfold aII
    walk_at "rd"
    refine ⟨m.pu,by decide,smP (by decide) (by decide),fun y G2 b1 b2 m2=>hR _ _ _ ⟨m.trans m2,⟨_,_,rfl⟩,ws ++ [y],by rw [List.map_append]; rfl,by rw [List.length_append]; simp only [List.length_cons,List.length_nil] at hl ⊢; omega,fun w h=>?_⟩⟩
    rcases List.mem_append.mp h with h | h
    · exact hw w h
    · rw [List.mem_singleton.mp h]; omega
  · rintro σ G2 acc ⟨m,_,ws,rfl,hl,hw⟩ l hn
    have lp:l≠p:=m.pu.ne hn
    have gl:G l=none:=by rw [←m.ne lp]; exact hn
    have k0:Pk p G (gup G2 l (.lst (ws.map PV.int))):=(Pk.of m).new hn
    simp only [List.length_nil,Nat.add_zero] at hl
    refine ⟨m.pu.new hn,by decide,smP (by decide) (by decide),fun y G3 b1 b2 m3=>?_⟩
    have g3:G3 l=some (.lst (ws.map PV.int)):=by rw [m3.ne lp]; exact bA
    have k3:=k0.pick m3
    split
    · refine ⟨m3.pu,by decide,smP (by decide) (by decide),fun z G4 c1 c2 m4=>?_⟩
      have g4:G4 l=some (.lst (ws.map PV.int)):=by rw [m4.ne lp]; exact g3
      rw [pP g4]
      refine ⟨0,by rw [List.length_map]; unfold ixN; rw [if_pos (by decide),if_pos (by omega)]; rfl, ?_⟩
      rw [map_set]
      exact aDW ((k3.pick m4).set gl lp) bA gl lp (by rw [List.length_set]; omega) n1 (OR hw ⟨by omega,by omega⟩) hq
    · exact aDW k3 g3 gl lp (by omega) n1 hw hq
end
theorem Sh7.ok {r:R3} (s:Sh7 600 r):Ok3 r:=⟨⟨s.1.1,s.2.1⟩,⟨s.1.2.1,s.2.2.1⟩,⟨s.1.2.2,s.2.2.2⟩⟩
theorem aES {rs:List R3} {ws:List Int} (h:zV rs) (hl:rs.length=ws.length) (hw:WOk ws):Sh7 168 (dO rs ws):=by
  obtain ⟨h1,h4,hr⟩:=h
  have key:∀ g:R3→Rat,(∀ r∈rs,In1 (g r)∧Bd 12 (g r))→In1 (mq (rs.map g) ws)∧Bd 168 (mq (rs.map g) ws):=fun g hg=>by
    have hx:∀ x∈rs.map g,In1 x∧Bd 12 x:=fun x hx=>by
      obtain ⟨r,h,rfl⟩:=List.mem_map.mp hx
      exact hg r h
    exact ⟨aDY (by rw [List.length_map]; exact hl) (fun x z=>(hx x z).1) hw,aD7 (n:=12) (by rw [List.length_map]; exact hl) (by omega) (fun x z=>(hx x z).2) hw⟩
  have k1:=key (fun r=>r.1) fun r z=>⟨(hr r z).1.1,(hr r z).2.1⟩
  have k2:=key (fun r=>r.2.1) fun r z=>⟨(hr r z).1.2.1,(hr r z).2.2.1⟩
  have k3:=key (fun r=>r.2.2) fun r z=>⟨(hr r z).1.2.2,(hr r z).2.2.2⟩
  exact ⟨⟨k1.1,k2.1,k3.1⟩,k1.2,k2.2,k3.2⟩
theorem aEg {rs:List R3} {ws:List Int} (h:zV rs) (hl:rs.length=ws.length) (hw:WOk ws):wY rs ws:=⟨hl,h.1,h.2.1,fun r z=>((h.2.2 r z).mono (by decide)).ok,hw⟩
theorem aBn {rs:List R3} {ws:List Int} {f:R3→R3} (h:zV rs) (hf:∀ r,Sh7 12 r→Sh7 600 (f r)) (hl:rs.length=ws.length) (hw:WOk ws):wY (rs.map f) ws :=
  ⟨by rw [List.length_map]; exact hl,by rw [List.length_map]; exact h.1,by rw [List.length_map]; exact h.2.1,fun r z=>by
    obtain ⟨r0,h0,rfl⟩:=List.mem_map.mp z
    exact (hf r0 (h.2.2 r0 h0)).ok,hw⟩
theorem YU {p:Rat} {n:Int} (hp:P12 p) {x:PV} (h:x∈ [PV.tup [.str "lighter",FQ p],.tup [.str "darker",FQ p],.tup [.str "duller",FQ p],.tup [.str "turned",.int n],.tup [.str "opposite"],.tup [.str "lighter"]]) :
    ∃ f,DX x f∧∀ r,Sh7 12 r→Sh7 600 (f r):=by
  have po:PO (some p):=fun p' e=>by cases e; exact hp.po
  have pn:PO none:=fun p' e=>by cases e
  simp only [List.mem_cons,List.not_mem_nil,or_false] at h
  rcases h with rfl | rfl | rfl | rfl | rfl | rfl
  · exact ⟨tw 1 p,.inl ⟨"lighter",tV (some p),.inl ⟨rfl,some p,rfl,po,rfl⟩,.inl rfl⟩,fun r s=>lL s ND bd1 hp (by decide)⟩
  · exact ⟨tw 0 p,.inl ⟨"darker",tV (some p),.inr (.inl ⟨rfl,some p,rfl,po,rfl⟩),.inl rfl⟩,fun r s=>lL s aDk bd0 hp (by decide)⟩
  · exact ⟨fun r=>tw (md r) p r,.inl ⟨"duller",tV (some p),.inr (.inr (.inl ⟨rfl,some p,rfl,po,rfl⟩)),.inl rfl⟩,fun r s=>lL s (IE s.1) (NX s.2.1 s.2.2.1 s.2.2.2) hp (by decide)⟩
  · exact ⟨rt n,.inl ⟨"turned",iV (some n),.inr (.inr (.inr ⟨rfl,some n,rfl,rfl⟩)),.inl rfl⟩,fun r s=>aFF (s.mono (by decide))⟩
  · exact ⟨op3,.inr ⟨rfl,rfl⟩,fun r s=>(YV s).mono (by decide)⟩
  · exact ⟨tw 1 hlf,.inl ⟨"lighter",.non,.inl ⟨rfl,none,rfl,pn,rfl⟩,.inr ⟨rfl,rfl⟩⟩,fun r s=>lL s ND bd1 ⟨FE,DF⟩ (by decide)⟩
set_option hygiene false in
local macro_rules | `(tactic| walk_at "rz") => `(tactic| simp only [wpS, wpE, wpL, wpT, wpO, wpI, wpG, eX, aM, aC, List.length_cons, List.length_nil, List.cons_append, List.nil_append, List.append_nil, List.replicate, Nat.reduceAdd, Nat.reduceSub, Nat.zero_add, List.getElem?_cons_zero, List.getElem?_cons_succ, List.set_cons_zero, List.set_cons_succ, Option.some.injEq, exists_eq_left', true_and, ite_self, or_false, cX, fS, cY, yD, aH.1, aH.2.1, aH.2.2.1, List.cons.injEq, PV.int.injEq, PV.bl.injEq, PV.str.injEq, PV.ref.injEq, PV.tup.injEq, eq_self, Int.reduceToNat, Int.reducePow, List.map, Bool.not_true, Bool.not_false, Bool.and_self, Bool.and_true, Bool.true_and, if_true, if_false, ite_true, ite_false, Bool.false_eq_true, decide_eq_true_eq, decide_true, decide_false, reduceCtorEq, sz1, sz2, av0, avn, *])
section
variable {T:Tb}
theorem YL {f:R3→R3} {el it:CE} {js:List (Option Nat)} {σ:PSt} {rs:List R3} {G:Gh} {Q:PK1} (hz:rs.length≤4) (J:PSt→Prop) (hit:∀ {R:(Gh→Prop)→List PV→Gh→Prop},R (fun _=>True) (rs.map shV) G→wpI T it σ G R) (hj:J (wV js σ))
    (step:∀ r∈rs,∀ σ (R:PV→PSt→Gh→Prop),J σ→(∀ σ',J σ'→R (shV (f r)) σ' G)→wpG T (.gn 1) (shV r) σ G fun σ2 G2=>wpE T el σ2 G2 fun y G3=>R y σ2 G3)
    (hq:Q (.tup ((rs.map f).map shV)) G):wpE T (.blt .tuple (.cons (.cmpr false (.gn 1) it .nil el js) .nil)) σ G Q:=by
  simp only [wpE,wpL]
  refine hit ⟨by rw [List.length_map]; exact szN (by omega), ?_⟩
  have e:wpT T .nil=fun _ G Q=>Q true G:=by simp only [wpT]
  rw [e]
  refine eD shV (fun l σ G' acc=>G'=G∧J σ∧(∀ r∈l,r∈rs)∧∃ l0,rs=l0 ++ l∧acc=(l0.map f).map shV) (fun _ _ _ _ _=>trivial) ?_ ?_ rs _ _ _ ⟨rfl,hj,fun _ z=>z,[],rfl,rfl⟩
  · rintro x r σ G' acc R ⟨rfl,j,hm,l0,e1,e2⟩ hR
    refine step x (hm x (List.mem_cons_self ..)) σ R j fun σ' j'=>hR _ _ _ ⟨rfl,j',fun y hy=>hm y (List.mem_cons_of_mem _ hy),l0 ++ [x],by rw [e1,List.append_assoc]; rfl, ?_⟩
    rw [e2,List.map_append,List.map_append]; rfl
  · rintro σ G' acc ⟨rfl,_,_,l0,e1,e2⟩
    rw [List.append_nil] at e1
    subst e1 e2
    simp only [fS,wpL]
    rw [wJ]
    exact hq
noncomputable def aA3:CE:=(.blt .tuple (.cons (.cmpr false (.gn 1) (.isq (.var 0)) .nil (.cal "done" (.cons (.var 1) (.cons (.tup (.cons (.var 2) .nil)) .nil))) [none,none,some 6]) .nil))
theorem aB1 (k:L10 T) {rs:List R3} {d:PV} {f:R3→R3} {a b c e g:Option PV} {G:Gh} {Q:PK1} (h:zV rs) (dx:DX d f) (hq:Q (.tup ((rs.map f).map shV)) G):wpE T aA3 [some (.tup (rs.map shV)),a,b,c,e,g,some d] G Q:=by
  unfold aA3
  refine YL (f:=f) h.2.1 (fun σ=>∃ u v,σ=[u,v,some d]) (fun {R} z=>?_) ⟨_,_,rfl⟩ ?_ hq
  · walk_at "rz"
  · rintro r hr σ R ⟨u,v,rfl⟩ hR
    walk_at "rz"
    exact aFA k dx ((h.2.2 r hr).mono (by decide)) (hR _ ⟨_,_,rfl⟩)
noncomputable def XA:CE:=(.blt .tuple (.cons (.cmpr false (.gn 1) (.isq (.var 0)) .nil (.cal "duller" (.cons (.var 1) (.cons (.var 2) .nil))) [none,none,some 2]) .nil))
theorem aCB (k:L10 T) {rs:List R3} {p:Rat} {a c d e g:Option PV} {G:Gh} {Q:PK1} (h:zV rs) (hp:P12 p) (hq:Q (.tup ((rs.map fun r=>tw (md r) p r).map shV)) G):wpE T XA [some (.tup (rs.map shV)),a,some (FQ p),c,d,e,g] G Q:=by
  unfold XA
  refine YL (f:=fun r=>tw (md r) p r) h.2.1 (fun σ=>∃ u v,σ=[u,v,some (FQ p)]) (fun {R} z=>?_) ⟨_,_,rfl⟩ ?_ hq
  · walk_at "rz"
  · rintro r hr σ R ⟨u,v,rfl⟩ hR
    walk_at "rz"
    exact rE k ((h.2.2 r hr).mono (by decide)) hp.po (hR _ ⟨_,_,rfl⟩)
noncomputable def aBs:CS:=(.iff (.no (.tst (.cal "_law_alike" (.cons (.cal "done" (.cons (.var 5) (.cons (.tup (.cons (.var 6) .nil)) .nil))) (.cons (.cal "mix" (.cons aA3 (.cons (.var 1) .nil))) .nil))))) (.ret (.bl false)) .nil)
theorem aCk (k:L10 T) {rs:List R3} {ws:List Int} {d:PV} {f:R3→R3} {b c e:Option PV} {D:hJ} {G:Gh} (h:zV rs) (hl:rs.length=ws.length) (hw:WOk ws) (dx:DX d f) (hf:∀ r,Sh7 12 r→Sh7 600 (f r))
    (hq:D.nx [some (.tup (rs.map shV)),some (.tup (ws.map .int)),b,c,e,some (shV (dO rs ws)),some d] G):wpS T aBs D [some (.tup (rs.map shV)),some (.tup (ws.map .int)),b,c,e,some (shV (dO rs ws)),some d] G:=by
  unfold aBs
  walk_at "rz"
  refine aFA k dx ((aES h hl hw).mono (by decide)) ?_
  refine aB1 k h dx ?_
  refine lB k (aBn h hf hl hw) (uT k (aHT dx hl hw).symm ?_)
  walk_at "rz"
noncomputable def aA6:CS:=(.ret (.cal "_law_alike" (.cons (.cal "duller" (.cons (.cak "mix" (.cons (.var 0) .nil) .nil [.arg 0,.non]) (.cons (.var 2) .nil))) (.cons (.cak "mix" (.cons XA .nil) .nil [.arg 0,.non]) .nil))))
theorem aCf (k:L10 T) {rs:List R3} {p:Rat} {a c d e g:Option PV} {G:Gh} {Q:PK1} (h:zV rs) (hp:P12 p) (hq:Q (.bl true) G):wpS T aA6 (aM Q) [some (.tup (rs.map shV)),a,some (FQ p),c,d,e,g] G:=by
  unfold aA6
  have hw:WOk (List.replicate rs.length 1):=WOk.one h.1
  have hl:rs.length=(List.replicate rs.length (1:Int)).length:=by rw [List.length_replicate]
  have hf:∀ r,Sh7 12 r→Sh7 600 (tw (md r) p r):=fun r s=>lL s (IE s.1) (NX s.2.1 s.2.2.1 s.2.2.2) hp (by decide)
  walk_at "rz"
  refine YW k (aEg h hl hw) (rE k ((aES h hl hw).mono (by decide)) hp.po ?_)
  refine aCB k h hp ?_
  have m2:=aBn (f:=fun r=>tw (md r) p r) h hf hl hw
  have z:=YW (T:=T) k (rs:=rs.map fun r=>tw (md r) p r) (G:=G) (Q:=fun y G2=>T.S "_law_alike" [shV (tw (md (dO rs (List.replicate rs.length 1))) p (dO rs (List.replicate rs.length 1))),y] G2 (Wk Q)) (by rw [List.length_map]; exact m2) (by
    rw [List.length_map]
    exact uT k (YQ hl hw).symm (Wk.here hq))
  exact z
noncomputable def dZ:CS:=(.seq (.asg (.gn 4) (.lst false (.cons (.tup (.cons (.str "lighter") (.cons (.var 2) .nil))) (.cons (.tup (.cons (.str "darker") (.cons (.var 2) .nil))) (.cons (.tup (.cons (.str "duller") (.cons (.var 2) .nil))) (.cons (.tup (.cons (.str "turned") (.cons (.var 3) .nil))) (.cons (.tup (.cons (.str "opposite") .nil)) (.cons (.tup (.cons (.str "lighter") .nil)) .nil))))))))
  (.seq (.asg (.gn 5) (.cal "mix" (.cons (.var 0) (.cons (.var 1) .nil))))
  (.seq (.fr (.gn 6) (.isq (.var 4)) aBs) aA6)))
theorem uM (k:L10 T):∀ xs G Q,oM xs G Q→wpS T dZ (aM Q) (aC 7 xs) G:=by
  rintro xs G Q ⟨rs,ws,p,n,rfl,h,hl,hw,hp,hq⟩
  unfold dZ
  walk_at "rz"
  refine ⟨by decide,lB k (aEg h hl hw) ?_⟩
  refine jE (fun σ G'=>G'=G∧∃ a b,σ=[some (.tup (rs.map shV)),some (.tup (ws.map .int)),some (FQ p),some (.int n),a,some (shV (dO rs ws)),b]) ⟨rfl,_,_,rfl⟩ ?_ ?_
  · rintro x hx σ G' R ⟨rfl,a,b,rfl⟩ hR
    obtain ⟨f,dx,hf⟩:=YU hp hx
    exact aCk k h hl hw dx hf (hR _ _ ⟨rfl,_,_,rfl⟩)
  · rintro σ G' ⟨rfl,a,b,rfl⟩
    exact aCf k h hp hq
end
noncomputable def I10 (ns:List Int) (σ:PSt):Prop:= ∃ a b c d e f g h i,σ=[some (.scr ns),a,b,c,d,e,f,g,h,i]
theorem aIe {r:Int} {a b c d:Rat} (h1:0≤r) (h2:r < 4) (ha:P12 a) (hb:P12 b) (hc:P12 c) (hd:P12 d):∃ p,atI [FQ a,FQ b,FQ c,FQ d] r=some (FQ p)∧P12 p:=by
  have e:r=0∨r=1∨r=2∨r=3:=by omega
  rcases e with rfl | rfl | rfl | rfl
  · exact ⟨_,at0,ha⟩
  · exact ⟨_,at1,hb⟩
  · exact ⟨_,at2,hc⟩
  · exact ⟨_,at3,hd⟩
theorem aKg:P12 0:=⟨aDk,bd0.mono (by decide)⟩
theorem aKZ:P12 1:=⟨ND,bd1.mono (by decide)⟩
set_option hygiene false in
local macro_rules | `(tactic| walk_at "rz") => `(tactic| simp only [wpS, wpE, wpL, wpT, wpO, wpI, wpG, eX, aM, aC, List.length_cons, List.length_nil, List.cons_append, List.nil_append, List.replicate, Nat.reduceAdd, Nat.reduceSub, Nat.zero_add, List.getElem?_cons_zero, List.getElem?_cons_succ, List.set_cons_zero, List.set_cons_succ, Option.some.injEq, exists_eq_left', true_and, and_true, exists_false, ite_self, false_and, and_false, or_false, iM, gQ, lF, gX, cX, lZ, lE, HW, GQ, YT, wJ, fS, cY, aH.1, aH.2.1, aH.2.2.1, List.cons.injEq, PV.int.injEq, PV.bl.injEq, PV.str.injEq, PV.ref.injEq, PV.tup.injEq, and_assoc, exists_and_left, eq_self, iN, Int.reduceToNat, Int.reducePow, wV, Option.getD_some, List.map, nD, jS, jO, wO, vV, rF, Bool.not_true, Bool.not_false, Bool.and_self, Bool.and_true, Bool.true_and, if_true, if_false, ite_true, ite_false, Bool.false_eq_true, decide_eq_true_eq, decide_true, decide_false, reduceCtorEq, sz2, Wk.here, aFD, aE5, *])
section
variable {T:Tb}
noncomputable def VD:CS:=(.seq (.iff (.oo (.no (.tst (.cal "_law_twice_right" (.cons (.var 9) (.cons (.var 5) (.cons (.var 6) .nil)))))) (.no (.tst (.cal "_law_turned_right" (.cons (.var 9) (.cons (.var 5) (.cons (.var 7) (.cons (.var 8) .nil)))))))) (.ret (.bl false)) .nil)
  (.iff (.no (.tst (.cal "_law_wheel_right" (.cons (.var 9) (.cons (.var 5) .nil))))) (.ret (.bl false)) .nil))
theorem aI4 (k:L10 T) {r:R3} {p q:Rat} {n m:Int} {x0 x1 x2 x3 x4:Option PV} {D:hJ} {G:Gh} (s:Sh7 12 r) (hp:P12 p) (hq:P12 q)
    (hR:D.nx [x0,x1,x2,x3,x4,some (FQ p),some (FQ q),some (.int n),some (.int m),some (shV r)] G):wpS T VD D [x0,x1,x2,x3,x4,some (FQ p),some (FQ q),some (.int n),some (.int m),some (shV r)] G:=by
  unfold VD
  have e1:=k.twice
  have e2:=k.turnR
  have e3:=k.wheelR
  have s1:∀ {G:Gh} {Q:PK1},Q (.bl true) G→T.S "_law_twice_right" [shV r,FQ p,FQ q] G Q:=fun {G Q} z=>by rw [e1]; exact ⟨r,p,q,rfl,s,hp,hq,z⟩
  have s2:∀ {G:Gh} {Q:PK1},Q (.bl true) G→T.S "_law_turned_right" [shV r,FQ p,.int n,.int m] G Q:=fun {G Q} z=>by rw [e2]; exact ⟨r,p,n,m,rfl,s,hp,z⟩
  have s3:∀ {G:Gh} {Q:PK1},Q (.bl true) G→T.S "_law_wheel_right" [shV r,FQ p] G Q:=fun {G Q} z=>by rw [e3]; exact ⟨r,p,rfl,s,hp,z⟩
  clear e1 e2 e3
  walk_at "rz"
  refine s1 ?_
  walk_at "rz"
  refine s2 ?_
  walk_at "rz"
  refine s3 ?_
  walk_at "rz"
noncomputable def ZB:CS:=(.seq (.iff (.no (.tst (.cal "_law_mixed_right" (.cons (.var 3) (.cons (.var 4) (.cons (.var 5) (.cons (.var 7) .nil))))))) (.ret (.bl false)) .nil)
  (.fr (.gn 9) (.isq (.var 3)) VD))
theorem aKm (k:L10 T) {ns:List Int} {rs:List R3} {ws:List Int} {p q:Rat} {n m:Int} {x1 x2 x9:Option PV} {D:hJ} {G:Gh} (h:zV rs) (hl:rs.length=ws.length) (hw:WOk ws) (hp:P12 p) (hq:P12 q)
    (hR:∀ σ G',I10 ns σ→D.nx σ G'):wpS T ZB D [some (.scr ns),x1,x2,some (.tup (rs.map shV)),some (.tup (ws.map .int)),some (FQ p),some (FQ q),some (.int n),some (.int m),x9] G:=by
  unfold ZB
  have e1:=k.mixedR
  have s1:∀ {G:Gh} {Q:PK1},Q (.bl true) G→T.S "_law_mixed_right" [.tup (rs.map shV),.tup (ws.map .int),FQ p,.int n] G Q:=fun {G Q} z=>by rw [e1]; exact ⟨rs,ws,p,n,rfl,h,hl,hw,hp,z⟩
  clear e1
  walk_at "rz"
  refine s1 ?_
  walk_at "rz"
  refine jE (fun σ G'=>∃ u,σ=[some (.scr ns),x1,x2,some (.tup (rs.map shV)),some (.tup (ws.map .int)),some (FQ p),some (FQ q),some (.int n),some (.int m),u]) ⟨_,rfl⟩ ?_ ?_
  · rintro x hx σ G' R ⟨u,rfl⟩ hR2
    obtain ⟨r,hr,rfl⟩:=List.mem_map.mp hx
    exact aI4 k (h.2.2 r hr) hp hq (hR2 _ _ ⟨_,rfl⟩)
  · rintro σ G' ⟨u,rfl⟩
    exact hR _ _ ⟨_,_,_,_,_,_,_,_,_,rfl⟩
noncomputable def ZO:CE:=(.cal "_law_made" (.cons (.var 2) (.cons (.cal "_law_shares" (.cons (.var 2) .nil)) .nil)))
noncomputable def aBx:CS:=(.seq (.asg (.gn 4) (.cal "_law_weights" (.cons (.var 2) (.cons (.blt .len (.cons (.var 3) .nil)) .nil))))
  (.seq (.asg (.gn 5) (.idx (.lst false (.cons (.tup (.cons (.int 0) (.cons (.int 1) .nil))) (.cons (.tup (.cons (.int 1) (.cons (.int 1) .nil))) (.cons (.cal "_law_share" (.cons (.var 2) .nil)) (.cons (.cal "_law_share" (.cons (.var 2) .nil)) .nil))))) (.cal "_law_pick" (.cons (.var 2) (.cons (.int 4) .nil)))))
  (.seq (.par3 6 7 8 (.cal "_law_share" (.cons (.var 2) .nil)) (.bin .Sub (.cal "_law_pick" (.cons (.var 2) (.cons (.int 99) .nil))) (.int 49)) (.bin .Sub (.cal "_law_pick" (.cons (.var 2) (.cons (.int 99) .nil))) (.int 49))) ZB)))
theorem aLq (lt:LT T) (k:L10 T) {ns:List Int} {p:Addr} {rs:List R3} {x1 x4 x5 x6 x7 x8 x9:Option PV} {D:hJ} {G:Gh} (hp:Pu p G) (h:zV rs) (hR:∀ σ G',I10 ns σ→D.nx σ G') :
    wpS T aBx D [some (.scr ns),x1,some (.ref p),some (.tup (rs.map shV)),x4,x5,x6,x7,x8,x9] G:=by
  unfold aBx
  have:=lt.pick
  have:=lt.share
  have e1:=k.weights
  have sw:∀ {p:Addr} {n:Int} {G:Gh} {Q:PK1},Pu p G→1≤n→n≤4→(∀ (ws:List Int) G',(ws.length:Int)=n→WOk ws→Pn p G G'→Q (.tup (ws.map .int)) G')→T.S "_law_weights" [.ref p,.int n] G Q:=fun {p n G Q} a b c d=>by rw [e1]; exact ⟨p,n,rfl,a,b,c,d⟩
  clear e1
  obtain ⟨h1,h4,hr⟩:=h
  walk_at "rz"
  refine sw hp (by rw [List.length_map]; omega) (by rw [List.length_map]; omega) fun ws G1 hl hw m1=>?_
  rw [List.length_map] at hl
  refine ⟨m1.pu,fun a G2 ia ba m2=>⟨m2.pu,fun b G3 ib bb m3=>⟨by decide,m3.pu,by decide,smP (by decide) (by decide),fun r G4 r0 r1 m4=>?_⟩⟩⟩
  obtain ⟨q,eq,hq⟩:=aIe (a:=0) (b:=1) (c:=a) (d:=b) r0 r1 aKg aKZ ⟨ia,ba⟩ ⟨ib,bb⟩
  refine ⟨_,eq, ?_⟩
  refine ⟨m4.pu,fun c G5 ic bc m5=>⟨m5.pu,by decide,smP (by decide) (by decide),fun n G6 n0 n1 m6=>⟨m6.pu,by decide,smP (by decide) (by decide),fun m G7 c0 c1 m7=>?_⟩⟩⟩
  exact aKm k ⟨h1,h4,hr⟩ (by omega) hw hq ⟨ic,bc⟩ hR
noncomputable def ZH:CS:=(.seq (.asg (.gn 2) (.cal "_law_purse" (.cons (.cal "_law_cell" (.cons (.var 0) (.cons (.var 1) .nil))) .nil)))
  (.seq (.asg (.gn 3) (.blt .tuple (.cons (.cmpr false (.gn 1) (.irg (.cons (.bin .Add (.int 2) (.cal "_law_pick" (.cons (.var 2) (.cons (.int 3) .nil)))) .nil)) .nil ZO [none,none,some 2]) .nil))) aBx))
theorem aJh (lt:LT T) (lm:LM T) (k:L10 T) {ns:List Int} {n:Int} {x2 x3 x4 x5 x6 x7 x8 x9:Option PV} {D:hJ} {G:Gh} (h1:0≤n) (h2:n < 64) (hR:∀ σ G',I10 ns σ→D.nx σ G') :
    wpS T ZH D [some (.scr ns),some (.int n),x2,x3,x4,x5,x6,x7,x8,x9] G:=by
  unfold ZH
  have:=lt.purse
  have:=lt.cell
  have:=lt.pick
  have:=@AE
  walk_at "rz"
  refine ⟨ns,rfl, ?_⟩
  intro c0 p x y z hp0
  refine ⟨⟨_,_,_,bA⟩,by decide,smP (by decide) (by decide),fun r G1 r0 r1 m1=>?_⟩
  refine ⟨by omega,by omega, ?_⟩
  refine ⟨by unfold pY; rw [List.length_map,List.length_range]; exact szN (by omega), ?_⟩
  unfold pY
  refine eD (fun k:Nat=>PV.int (0 + (k:Int))) (fun l σ G' acc=>Pu p G'∧(∃ u v,σ=[u,v,some (.ref p)])∧∃ rs:List R3,acc=rs.map shV∧rs.length + l.length=(2 + r).toNat∧∀ r∈rs,Sh7 12 r) (fun _ _ _ _ _=>trivial) ?_ ?_ (List.range (2 + r).toNat) _ _ _ ⟨m1.pu,⟨_,_,rfl⟩,[],rfl,by simp,fun w hw=>by cases hw⟩
  · rintro x r σ G' acc R ⟨m,⟨u,v,rfl⟩,rs,rfl,hl,hw⟩ hR
    unfold ZO
    have:=lt.shares
    have:=lm.made
    walk_at "rz"
    refine fun a b c G2 i1 i2 i3 d1 d2 d3 m2=>⟨m2.pu,i1,i2,i3,fun G3 m3=>hR _ _ _ ⟨m3.pu,⟨_,_,rfl⟩,rs ++ [(a,b,c)],by rw [List.map_append]; rfl,by rw [List.length_append]; simp only [List.length_cons,List.length_nil] at hl ⊢; omega,fun w h=>?_⟩⟩
    rcases List.mem_append.mp h with h | h
    · exact hw w h
    · rw [List.mem_singleton.mp h]; exact ⟨⟨i1,i2,i3⟩,d1,d2,d3⟩
  · rintro σ G2 acc ⟨m,_,rs,rfl,hl,hw⟩
    simp only [List.length_nil,Nat.add_zero] at hl
    exact aLq lt k m ⟨by omega,by omega,hw⟩ hR
noncomputable def xW:CS:=(.seq (.fr (.gn 1) (.irg (.cons (.blt .max (.cons (.int 2) (.cons (.blt .min (.cons (.blt .len (.cons (.var 0) .nil)) (.cons (.int 4) .nil))) .nil))) .nil)) ZH)
  (.ret (.bl true)))
theorem aLQ (lt:LT T) (lm:LM T) (k:L10 T):∀ xs G Q,EW xs G Q→wpS T xW (aM Q) (aC 10 xs) G:=by
  rintro xs G Q ⟨ns,rfl,hl,hq⟩
  have:=@AE
  unfold xW
  walk_at "rz"
  refine ⟨by omega,by omega, ?_⟩
  refine jE (fun σ _=>I10 ns σ) ⟨_,_,_,_,_,_,_,_,_,rfl⟩ ?_ ?_
  · rintro x hx σ G' R ⟨x1,x2,x3,x4,x5,x6,x7,x8,x9,rfl⟩ hR
    obtain ⟨j,rfl,hj⟩:=aBX hx
    exact aJh lt lm k (by omega) (by omega) hR
  · rintro σ G' ⟨x1,x2,x3,x4,x5,x6,x7,x8,x9,rfl⟩
    have:=hq G'
    walk_at "rz"
end
end L3
namespace My
open PySem L2 L3 PyProof.Rows
noncomputable def top (i:Nat):Stmt:=PySem.Challenge.pw_lightshares_k10_whole_deeds_go_along.main.body.getD i (.Pass ⟨0,0,0,0⟩)
noncomputable abbrev eO:Stmt:=top 64
noncomputable abbrev xO:Cfg:={ N:=["_law_script","_law_k","_law_state","_law_cell_here"],names:=(aA eO).names,blt:=["len"] }
local macro_rules | `(tactic| walk_at "dk") => `(tactic| exact ⟨⟨rfl,rfl,rfl,by decide +kernel,rfl,by decide +kernel,by decide +kernel⟩,rfl,rfl⟩)
theorem SK:aI eO ["_law_script","_law_k"] xO:=by walk_at "dk"
theorem QZ:cSs 80 xO (aB eO)=some mD:=by kernel_rfl
noncomputable abbrev eH:Stmt:=top 14
noncomputable abbrev xH:Cfg:={ N:=["one","other"],names:=(aA eH).names }
theorem SC:aI eH ["one","other"] xH:=by walk_at "dk"
theorem RH:cSs 80 xH (aB eH)=some lY:=by kernel_rfl
noncomputable abbrev cC:Stmt:=top 13
noncomputable abbrev nM:Cfg:={ N:=["thing"],names:=(aA cC).names,tys:=["bool","int"],blt:=["isinstance"] }
theorem IH:aI cC ["thing"] nM:=by walk_at "dk"
theorem IQ:cSs 80 nM (aB cC)=some iP:=by kernel_rfl
noncomputable abbrev bB:Stmt:=top 15
noncomputable abbrev iO:Cfg:={ N:=["thing","top","bottom"],names:=(aA bB).names,fns:=["common","is_whole"],tys:=["tuple"],blt:=["abs","isinstance","len"] }
theorem wR:aI bB ["thing"] iO:=by walk_at "dk"
theorem vP:cSs 80 iO (aB bB)=some fM:=by kernel_rfl
noncomputable abbrev bX:Stmt:=top 29
noncomputable abbrev nA:Cfg:={ N:=["thing"],names:=(aA bX).names,fns:=["is_fraction"] }
theorem FR:aI bX ["thing"] nA:=by walk_at "dk"
theorem IS:cSs 80 nA (aB bX)=some iZ:=by kernel_rfl
noncomputable abbrev aO:Stmt:=bK (top 30) 0
noncomputable abbrev eY:Cfg:={ N:=["self","ember","leaf","sky","light","share"],names:=(aA aO).names,fns:=["is_share"],blt:=["enumerate"] }
theorem rC:aI aO ["self","ember","leaf","sky"] eY:=by walk_at "dk"
theorem rD:cSs 80 eY (aB aO)=some dL:=by kernel_rfl
noncomputable abbrev eQ:Stmt:=top 66
noncomputable abbrev wF:Cfg:={ N:=["_law_purse_here","_law_many","_law_state","_law_taken"],names:=(aA eQ).names }
theorem SD:aI eQ ["_law_purse_here","_law_many"] wF:=by walk_at "dk"
theorem PX:cSs 80 wF (aB eQ)=some lQ:=by kernel_rfl
noncomputable abbrev eK:Stmt:=top 73
noncomputable abbrev wW:Cfg:={ N:=["_law_purse_here","_law_row"],names:=(aA eK).names,fns:=["_law_pick"],mks:=["Shade"],mkk:=[("Shade",["sky","ember","leaf"],[.arg 1,.arg 2,.arg 0])],gls:=["Shade"] }
theorem OY:aI eK ["_law_purse_here","_law_row"] wW:=by walk_at "dk"
theorem QX:cSs 80 wW (aB eK)=some lD:=by kernel_rfl
noncomputable abbrev cF:Stmt:=top 31
noncomputable abbrev mW:Cfg:={ N:=["thing"],names:=(aA cF).names,gls:=["Shade"],blt:=["isinstance"] }
theorem HN:aI cF ["thing"] mW:=by walk_at "dk"
theorem IU:cSs 80 mW (aB cF)=some iQ:=by kernel_rfl
noncomputable abbrev bI:Stmt:=top 32
noncomputable abbrev kA:Cfg:={ N:=["thing"],names:=(aA bI).names,fns:=["is_shade"] }
theorem yL:aI bI ["thing"] kA:=by walk_at "dk"
theorem AA:cSs 80 kA (aB bI)=some fW:=by kernel_rfl
noncomputable abbrev bP:Stmt:=top 33
noncomputable abbrev lV:Cfg:={ N:=["shade"],names:=(aA bP).names,fns:=["need_shade"] }
theorem CD:aI bP ["shade"] lV:=by walk_at "dk"
theorem DH:cSs 80 lV (aB bP)=some hW:=by kernel_rfl
noncomputable abbrev aZ:Stmt:=bK (top 30) 1
noncomputable abbrev hU:Cfg:={ N:=["self","other"],names:=(aA aZ).names,fns:=["shares_of"],gls:=["Shade"],blt:=["isinstance"] }
theorem uN:aI aZ ["self","other"] hU:=by walk_at "dk"
theorem uU:cSs 80 hU (aB aZ)=some eI:=by kernel_rfl
noncomputable abbrev dD:Stmt:=top 75
noncomputable abbrev tS:Cfg:={ N:=["_law_one","_law_other"],names:=(aA dD).names,fns:=["is_shade","shares_of"],eqs:=[("Shade","Shade.__eq__")] }
theorem MC:aI dD ["_law_one","_law_other"] tS:=by walk_at "dk"
theorem JQ:cSs 80 tS (aB dD)=some kO:=by kernel_rfl
noncomputable abbrev eN:Stmt:=top 16
noncomputable abbrev xZ:Cfg:={ N:=["top","bottom","shared"],names:=(aA eN).names,fns:=["common"],blt:=["abs"] }
theorem TK:aI eN ["top","bottom"] xZ:=by walk_at "dk"
theorem QS:cSs 80 xZ (aB eN)=some lR:=by kernel_rfl
noncomputable abbrev aP:Stmt:=top 17
noncomputable abbrev fB:Cfg:={ N:=["things","place","thing"],names:=(aA aP).names,fns:=["is_fraction"],blt:=["enumerate"] }
theorem oA:aI aP ["things"] fB:=by walk_at "dk"
theorem pT:cSs 80 fB (aB aP)=some dJ:=by kernel_rfl
noncomputable abbrev gN:Stmt:=top 20
noncomputable abbrev DP:Cfg:={ N:=["one","other"],names:=(aA gN).names,fns:=["lowest","need_fractions"] }
theorem aBl:aI gN ["one","other"] DP:=by walk_at "dk"
theorem ZW:cSs 80 DP (aB gN)=some nX:=by kernel_rfl
noncomputable abbrev bZ:Stmt:=top 34
noncomputable abbrev nY:Cfg:={ N:=["shares","ember","leaf","sky"],names:=(aA bZ).names,mks:=["Shade"],gls:=["Shade"],ls:=["shares"] }
theorem HL:aI bZ ["shares"] nY:=by walk_at "dk"
theorem HK:cSs 80 nY (aB bZ)=some iX:=by kernel_rfl
noncomputable abbrev bW:Stmt:=top 45
noncomputable abbrev mZ:Cfg:={ N:=["shade"],names:=(aA bW).names,fns:=["minus","shade_of","shares_of"],gls:=["ONE"] }
theorem GD:aI bW ["shade"] mZ:=by walk_at "dk"
theorem HZ:cSs 80 mZ (aB bW)=some fL:=by kernel_rfl
noncomputable abbrev dF:Stmt:=top 39
noncomputable abbrev tW:Cfg:={ N:=["by"],names:=(aA dF).names,fns:=["is_share"],gls:=["HALF"] }
theorem MQ:aI dF ["by"] tW:=by walk_at "dk"
theorem KH:cSs 80 tW (aB dF)=some gE:=by kernel_rfl
noncomputable abbrev kT:Stmt:=top 19
noncomputable abbrev MS:Cfg:={ N:=["one","other"],names:=(aA kT).names,fns:=["lowest","need_fractions"] }
theorem aDB:aI kT ["one","other"] MS:=by walk_at "dk"
theorem aBS:cSs 80 MS (aB kT)=some tB:=by kernel_rfl
noncomputable abbrev gJ:Stmt:=top 21
noncomputable abbrev EC:Cfg:={ N:=["one","other"],names:=(aA gJ).names,fns:=["lowest","need_fractions"] }
theorem WM:aI gJ ["one","other"] EC:=by walk_at "dk"
theorem XF:cSs 80 EC (aB gJ)=some nV:=by kernel_rfl
noncomputable abbrev eF:Stmt:=top 40
noncomputable abbrev vU:Cfg:={ N:=["shade","goal","part"],names:=(aA eF).names,fns:=["minus","plus","shade_of","shares_of","times"] }
theorem SF:aI eF ["shade","goal","part"] vU:=by walk_at "dk"
theorem QB:cSs 80 vU (aB eF)=some hZ:=by kernel_rfl
noncomputable abbrev eT:Stmt:=top 42
noncomputable abbrev xV:Cfg:={ N:=["shade","by"],names:=(aA eT).names,fns:=["need_shade","part_of","toward"],gls:=["ZERO"] }
theorem QL:aI eT ["shade","by"] xV:=by walk_at "dk"
theorem RN:cSs 80 xV (aB eT)=some hV:=by kernel_rfl
noncomputable abbrev kN:Stmt:=top 22
noncomputable abbrev KO:Cfg:={ N:=["one","other"],names:=(aA kN).names,fns:=["lowest","need_fractions"] }
theorem aBN:aI kN ["one","other"] KO:=by walk_at "dk"
theorem aBM:cSs 80 KO (aB kN)=some tQ:=by kernel_rfl
noncomputable abbrev eU:Stmt:=top 43
noncomputable abbrev wX:Cfg:={ N:=["shade","by","part","together"],names:=(aA eU).names,fns:=["need_shade","over","part_of","plus","toward"] }
theorem SI:aI eU ["shade","by"] wX:=by walk_at "dk"
theorem RK:cSs 80 wX (aB eU)=some iB:=by kernel_rfl
noncomputable abbrev dG:Stmt:=top 41
noncomputable abbrev tN:Cfg:={ N:=["shade","by"],names:=(aA dG).names,fns:=["need_shade","part_of","toward"],gls:=["ONE"] }
theorem KU:aI dG ["shade","by"] tN:=by walk_at "dk"
theorem MG:cSs 80 tN (aB dG)=some fR:=by kernel_rfl
noncomputable abbrev eJ:Stmt:=top 44
noncomputable abbrev wD:Cfg:={ N:=["shade","by","shares"],names:=(aA eJ).names,fns:=["is_whole","need_shade","shade_of","shares_of"],blt:=["range"] }
theorem TB:aI eJ ["shade","by"] wD:=by walk_at "dk"
theorem RB:cSs 80 wD (aB eJ)=some gY:=by kernel_rfl
noncomputable abbrev eP:Stmt:=top 50
noncomputable abbrev xD:Cfg:={ N:=["shade","deed","change"],names:=(aA eP).names,fns:=["opposite"],blt:=["len"],gds:=[("BY_WORD",[("lighter","lighter"),("darker","darker"),("duller","duller"),("turned","turned")])],fvs:=[("darker",1,[.arg 0,.non]),("darker",2,[.arg 0,.arg 1]),("duller",1,[.arg 0,.non]),("duller",2,[.arg 0,.arg 1]),("lighter",1,[.arg 0,.non]),("lighter",2,[.arg 0,.arg 1]),("turned",1,[.arg 0,.non]),("turned",2,[.arg 0,.arg 1])] }
theorem PC:aI eP ["shade","deed"] xD:=by walk_at "dk"
theorem QE:cSs 80 xD (aB eP)=some lW:=by kernel_rfl
noncomputable abbrev gM:Stmt:=top 47
noncomputable abbrev DD:Cfg:={ N:=["word","thing"],names:=(aA gM).names,fns:=["is_share","is_whole"] }
theorem aAR:aI gM ["word","thing"] DD:=by walk_at "dk"
theorem YB:cSs 80 DD (aB gM)=some mY:=by kernel_rfl
noncomputable abbrev dH:Stmt:=top 48
noncomputable abbrev tP:Cfg:={ N:=["thing","word"],names:=(aA dH).names,fns:=["is_by"],tys:=["str","tuple"],blt:=["isinstance","len"],gds:=[("BY_WORD",[("lighter","lighter"),("darker","darker"),("duller","duller"),("turned","turned")])] }
theorem KL:aI dH ["thing"] tP:=by walk_at "dk"
theorem JX:cSs 80 tP (aB dH)=some kU:=by kernel_rfl
noncomputable abbrev bH:Stmt:=top 49
noncomputable abbrev kS:Cfg:={ N:=["deeds","place","thing"],names:=(aA bH).names,fns:=["is_deed"],gls:=["MOST_DEEDS"],tys:=["tuple"],blt:=["enumerate","isinstance","len"] }
theorem yR:aI bH ["deeds"] kS:=by walk_at "dk"
theorem zY:cSs 80 kS (aB bH)=some gB:=by kernel_rfl
noncomputable abbrev jY:Stmt:=top 51
noncomputable abbrev KC:Cfg:={ N:=["shade","deeds","deed"],names:=(aA jY).names,fns:=["do_one","need_deeds","need_shade"] }
theorem aCw:aI jY ["shade","deeds"] KC:=by walk_at "dk"
theorem aBT:cSs 80 KC (aB jY)=some rP:=by kernel_rfl
noncomputable abbrev bF:Stmt:=top 35
noncomputable abbrev kB:Cfg:={ N:=["thing","least","most"],names:=(aA bF).names,fns:=["is_shade"],tys:=["tuple"],blt:=["all","isinstance","len"] }
theorem yQ:aI bF ["thing","least","most"] kB:=by walk_at "dk"
theorem yV:cSs 80 kB (aB bF)=some gG:=by kernel_rfl
noncomputable abbrev bQ:Stmt:=top 54
noncomputable abbrev lP:Cfg:={ N:=["thing","least"],names:=(aA bQ).names,fns:=["is_whole"],gls:=["MOST_WEIGHT"] }
theorem ES:aI bQ ["thing","least"] lP:=by walk_at "dk"
theorem DN:cSs 80 lP (aB bQ)=some iA:=by kernel_rfl
noncomputable abbrev bC:Stmt:=top 55
noncomputable abbrev iR:Cfg:={ N:=["thing","many"],names:=(aA bC).names,fns:=["is_weight"],tys:=["tuple"],blt:=["all","isinstance","len","sum"] }
theorem wB:aI bC ["thing","many"] iR:=by walk_at "dk"
theorem vR:cSs 80 iR (aB bC)=some fJ:=by kernel_rfl
noncomputable abbrev cA:Stmt:=top 18
noncomputable abbrev nC:Cfg:={ N:=["top","bottom"],names:=(aA cA).names,fns:=["is_whole","lowest"] }
theorem FM:aI cA ["top","bottom"] nC:=by walk_at "dk"
theorem HP:cSs 80 nC (aB cA)=some jA:=by kernel_rfl
noncomputable abbrev bG:Stmt:=top 56
noncomputable abbrev kQ:Cfg:={ N:=["shares","weights","top","bottom","share","weight"],names:=(aA bG).names,fns:=["fraction"],blt:=["sum","zip"] }
theorem yP:aI bG ["shares","weights"] kQ:=by walk_at "dk"
theorem zX:cSs 80 kQ (aB bG)=some fZ:=by kernel_rfl
noncomputable abbrev lB:Stmt:=top 57
noncomputable abbrev aAD:Cfg:={ N:=["shades","weights","many","rows"],names:=(aA lB).names,fns:=["are_shades","are_weights","mean_share","shade_of","shares_of"],gls:=["MOST_SHADES"],blt:=["len","range"] }
theorem aHi:aI lB ["shades","weights"] aAD:=by walk_at "dk"
theorem aGj:cSs 80 aAD (aB lB)=some vT:=by kernel_rfl
noncomputable abbrev aU:Stmt:=top 76
noncomputable abbrev gD:Cfg:={ N:=["_law_some","_law_weights_here","_law_by","_law_turns","_law_rows","_law_both","_law_row"],names:=(aA aU).names,fns:=["_law_alike","done","duller","mix"],shs:=[("mix",1,[],[.arg 0,.non])],tys:=["tuple"],blt:=["tuple"] }
theorem rW:aI aU ["_law_some","_law_weights_here","_law_by","_law_turns"] gD:=by walk_at "dk"
theorem rR:cSs 80 gD (aB aU)=some dZ:=by kernel_rfl
noncomputable abbrev dE:Stmt:=top 65
noncomputable abbrev sL:Cfg:={ N:=["_law_cell_here"],names:=(aA dE).names,tys:=["int"],blt:=["int"],rm:=true }
theorem KW:aI dE ["_law_cell_here"] sL:=by walk_at "dk"
theorem LW:cSs 80 sL (aB dE)=some jW:=by kernel_rfl
noncomputable abbrev gI:Stmt:=top 67
noncomputable abbrev EB:Cfg:={ N:=["_law_top","_law_bottom","_law_one","_law_other"],names:=(aA gI).names,blt:=["abs"] }
theorem UR:aI gI ["_law_top","_law_bottom"] EB:=by walk_at "dk"
theorem YS:cSs 80 EB (aB gI)=some nQ:=by kernel_rfl
noncomputable abbrev cZ:Stmt:=top 71
noncomputable abbrev tL:Cfg:={ N:=["_law_purse_here","_law_way","_law_bottom"],names:=(aA cZ).names,fns:=["_law_low","_law_pick"] }
theorem LL:aI cZ ["_law_purse_here"] tL:=by walk_at "dk"
theorem JL:cSs 80 tL (aB cZ)=some jV:=by kernel_rfl
noncomputable abbrev cH:Stmt:=top 72
noncomputable abbrev nB:Cfg:={ N:=["_law_purse_here","_law_alike_here","_law_row"],names:=(aA cH).names,fns:=["_law_pick","_law_share"],tys:=["tuple"],blt:=["range","tuple"],M:=["_law_row"] }
theorem IR:aI cH ["_law_purse_here"] nB:=by walk_at "dk"
theorem IV:cSs 80 nB (aB cH)=some iW:=by kernel_rfl
noncomputable abbrev aQ:Stmt:=top 78
noncomputable abbrev fE:Cfg:={ N:=["_law_one","_law_by","_law_turns","_law_more"],names:=(aA aQ).names,fns:=["_law_alike","duller","lighter","opposite","turned"] }
theorem pK:aI aQ ["_law_one","_law_by","_law_turns","_law_more"] fE:=by walk_at "dk"
theorem rL:cSs 80 fE (aB aQ)=some dN:=by kernel_rfl
noncomputable abbrev dI:Stmt:=top 69
noncomputable abbrev rY:Cfg:={ N:=["_law_a","_law_b"],names:=(aA dI).names,fns:=["_law_low"] }
theorem KI:aI dI ["_law_a","_law_b"] rY:=by walk_at "dk"
theorem LG:cSs 80 rY (aB dI)=some kH:=by kernel_rfl
noncomputable abbrev eR:Stmt:=top 68
noncomputable abbrev yI:Cfg:={ N:=["_law_a","_law_b"],names:=(aA eR).names,fns:=["_law_low"] }
theorem TQ:aI eR ["_law_a","_law_b"] yI:=by walk_at "dk"
theorem RW:cSs 80 yI (aB eR)=some lK:=by kernel_rfl
noncomputable abbrev dA:Stmt:=top 70
noncomputable abbrev tD:Cfg:={ N:=["_law_a","_law_b"],names:=(aA dA).names,fns:=["_law_low"] }
theorem LP:aI dA ["_law_a","_law_b"] tD:=by walk_at "dk"
theorem KF:cSs 80 tD (aB dA)=some kR:=by kernel_rfl
noncomputable abbrev aT:Stmt:=top 77
noncomputable abbrev fY:Cfg:={ N:=["_law_one","_law_by","_law_more","_law_both"],names:=(aA aT).names,fns:=["_law_alike","_law_minus","_law_plus","_law_times","darker","duller","lighter","opposite"] }
theorem rT:aI aT ["_law_one","_law_by","_law_more"] fY:=by walk_at "dk"
theorem sT:cSs 80 fY (aB aT)=some dY:=by kernel_rfl
noncomputable abbrev bM:Stmt:=top 74
noncomputable abbrev lJ:Cfg:={ N:=["_law_purse_here","_law_many","_law_found"],names:=(aA bM).names,fns:=["_law_pick"],tys:=["tuple"],blt:=["range","sum","tuple"],M:=["_law_found"] }
theorem DS:aI bM ["_law_purse_here","_law_many"] lJ:=by walk_at "dk"
theorem BO:cSs 80 lJ (aB bM)=some eS:=by kernel_rfl
noncomputable abbrev kJ:Stmt:=top 23
noncomputable abbrev LU:Cfg:={ N:=["one","other"],names:=(aA kJ).names }
theorem aC6:aI kJ ["one","other"] LU:=by walk_at "dk"
theorem aCm:cSs 80 LU (aB kJ)=some BJ:=by kernel_rfl
noncomputable abbrev gK:Stmt:=top 24
noncomputable abbrev BU:Cfg:={ N:=["one","other"],names:=(aA gK).names,fns:=["less","need_fractions"] }
theorem UY:aI gK ["one","other"] BU:=by walk_at "dk"
theorem VQ:cSs 80 BU (aB gK)=some iY:=by kernel_rfl
noncomputable abbrev gO:Stmt:=top 60
noncomputable abbrev EM:Cfg:={ N:=["shares","stretch","greatest","least","middle"],names:=(aA gO).names,fns:=["below"] }
theorem VI:aI gO ["shares","stretch"] EM:=by walk_at "dk"
theorem WB:cSs 80 EM (aB gO)=some nJ:=by kernel_rfl
noncomputable abbrev bJ:Stmt:=top 61
noncomputable abbrev jT:Cfg:={ N:=["shares","fitting"],names:=(aA bJ).names,fns:=["falls"],gls:=["STRETCHES"] }
theorem zD:aI bJ ["shares"] jT:=by walk_at "dk"
theorem zQ:cSs 80 jT (aB bJ)=some eA:=by kernel_rfl
noncomputable abbrev bY:Stmt:=top 62
noncomputable abbrev nG:Cfg:={ N:=["shade","shares","greatest","least","middle","start","way","white","black","part"],names:=(aA bY).names,fns:=["minus","over","plus","shares_of","stretch_of","times"],gls:=["ONE"] }
theorem IF:aI bY ["shade"] nG:=by walk_at "dk"
theorem FK:cSs 80 nG (aB bY)=some fF:=by kernel_rfl
noncomputable abbrev aS:Stmt:=top 79
noncomputable abbrev fU:Cfg:={ N:=["_law_one","_law_by","_law_turn","_law_white","_law_black","_law_due"],names:=(aA aS).names,fns:=["_law_minus","_law_plus","_law_times","lighter","wheel_of"] }
theorem tT:aI aS ["_law_one","_law_by"] fU:=by walk_at "dk"
theorem rS:cSs 80 fU (aB aS)=some eB:=by kernel_rfl
noncomputable abbrev lO:Stmt:=top 80
noncomputable abbrev aAj:Cfg:={ N:=["_law_script","_law_k","_law_purse_here","_law_some","_law_weights_here","_law_by","_law_more","_law_turns","_law_others","_law_one"],names:=(aA lO).names,fns:=["_law_cell","_law_made","_law_mixed_right","_law_pick","_law_purse","_law_share","_law_shares","_law_turned_right","_law_twice_right","_law_weights","_law_wheel_right"],tys:=["tuple"],blt:=["len","max","min","range","tuple"] }
theorem aHX:aI lO ["_law_script"] aAj:=by walk_at "dk"
theorem aHM:cSs 80 aAj (aB lO)=some xW:=by kernel_rfl
noncomputable abbrev zS0:Value:=.str "law_lightshares_k10_whole_deeds_go_along" 807
noncomputable abbrev zS1:Value:=.str "lightshares.errors" 187
noncomputable abbrev zS2:Value:=.str "lightshares.fractions" 352
noncomputable abbrev zS3:Value:=.str "lightshares.deeds" 592
noncomputable abbrev zS4:Value:=.str "lightshares.shades" 481
noncomputable abbrev zS5:Value:=.str "lightshares.mixing" 702
noncomputable abbrev zS6:Value:=.str "lightshares.wheel" 738
noncomputable abbrev fX (a b:Str) (s:Stmt) (d m c:Value):FuncData:=W.fnOf a b (fN s) (aB s) (aA s) d .none .none m none c .none
noncomputable abbrev oC (l:List Value):Obj:=⟨.type "code",none,.fields l.toArray, #[]⟩
noncomputable abbrev oT (l:List Value):Obj:=⟨.type "tuple",none,.seq l.toArray 0, #[]⟩
noncomputable abbrev oL (l:List Value):Obj:=⟨.none,none,.fields l.toArray, #[]⟩
noncomputable abbrev oN (a b:Str) (s:Stmt):Obj:=⟨.none,none,.func { W.fnOf a b (fN s) (aB s) (aA s) .none .none .none .none none .none .none with globals:=0,builtins:=0 }, #[]⟩
noncomputable abbrev oF (a b:Str) (s:Stmt) (d m:Value) (c:Addr):Obj:=⟨.type "function",none,.func (W.fnOf a b (fN s) (aB s) (aA s) d .none .none m none (.ref c) .none), #[]⟩
noncomputable abbrev oR (c l:Addr) (m:Value):Obj:=⟨.type "frame",none,.plain, #[some (.ref c),some (.ref 3),some (.ref l),none,some m,none,some (.ref 0)]⟩
noncomputable abbrev oS (c:Addr):Obj:=⟨.type "super",none,.fields #[.ref c,.ref c,.ref c], #[]⟩
noncomputable abbrev oB (n:String) (c:Value):Obj:=⟨.type "builtin_function_or_method",none,.fields #[.builtin n,c], #[]⟩
noncomputable abbrev fC (n:Tok):Value:=.str "/claim/cut.py" n
noncomputable abbrev iV (n:Int):Value:=.int n 0
noncomputable abbrev oD (l:List DictEntry):Obj:=⟨.type "dict",none,.dict l.toArray 0, #[]⟩
noncomputable def kE (P:Params) (x:Str) (t:Tok) (v:Value):DictEntry:=⟨PyData.keyHash P x,.str x t,v⟩
noncomputable def ko3 (P:Params):Obj:=⟨(.type "dict"),none,.dict #[kE P "__name__" 165 zS0,kE P "__doc__" 166 .none,kE P "__package__" 167 .none,kE P "__loader__" 168 (.builtin "__main__.__loader__#opaque"),kE P "__spec__" 169 .none,kE P "__annotations__" 170 (.ref 6),kE P "__builtins__" 171 (.ref 4),kE P "__file__" 173 (.str "/claim/cut.py" 172),kE P "__cached__" 174 .none,kE P "ShadeError" 206 (.ref 24),kE P "MixError" 226 (.ref 37),kE P "NoNumber" 251 (.ref 57),kE P "NoShade" 276 (.ref 76),kE P "NoPart" 301 (.ref 95),kE P "NoDeed" 326 (.ref 114),kE P "NoWeights" 351 (.ref 133),kE P "ZERO" 356 (.ref 136),kE P "ONE" 359 (.ref 137),kE P "PIECE_FIGURES" 361 (.int 64 360),kE P "PIECE" 365 (.int 10000000000000000000000000000000000000000000000000000000000000000 364),kE P "is_whole" 372 (.ref 144),kE P "common" 380 (.ref 151),kE P "is_fraction" 389 (.ref 158),kE P "lowest" 398 (.ref 165),kE P "need_fractions" 407 (.ref 172),kE P "fraction" 416 (.ref 180),kE P "plus" 424 (.ref 187),kE P "minus" 432 (.ref 194),kE P "times" 440 (.ref 201),kE P "over" 448 (.ref 208),kE P "less" 456 (.ref 215),kE P "below" 464 (.ref 222),kE P "figures" 473 (.ref 229),kE P "written" 480 (.ref 236),kE P "MOST_SHADES" 484 (.int 60 483),kE P "is_share" 491 (.ref 243),kE P "Shade" 554 (.ref 284),kE P "is_shade" 561 (.ref 295),kE P "need_shade" 568 (.ref 302),kE P "shares_of" 575 (.ref 309),kE P "shade_of" 585 (.ref 316),kE P "are_shades" 591 (.ref 321),kE P "MOST_DEEDS" 595 (.int 20 594),kE P "HALF" 598 (.ref 322),kE P "part_of" 605 (.ref 329),kE P "toward" 611 (.ref 334),kE P "lighter" 619 (.ref 342),kE P "darker" 627 (.ref 350),kE P "duller" 637 (.ref 358),kE P "turned" 643 (.ref 364),kE P "opposite" 649 (.ref 369),kE P "BY_WORD" 658 (.ref 370),kE P "is_by" 666 (.ref 377),kE P "is_deed" 674 (.ref 384),kE P "need_deeds" 683 (.ref 391),kE P "do_one" 692 (.ref 398),kE P "done" 701 (.ref 405),kE P "MOST_WEIGHT" 705 (.int 1000000 704),kE P "is_weight" 713 (.ref 412),kE P "are_weights" 719 (.ref 417),kE P "mean_share" 731 (.ref 424),kE P "mix" 737 (.ref 430),kE P "STRETCHES" 773 (.ref 437),kE P "falls" 784 (.ref 444),kE P "stretch_of" 790 (.ref 449),kE P "wheel_of" 806 (.ref 456),kE P "_law_cell" 818 (.ref 463),kE P "_law_purse" 825 (.ref 470),kE P "_law_pick" 835 (.ref 477),kE P "_law_low" 845 (.ref 484),kE P "_law_plus" 853 (.ref 491),kE P "_law_minus" 861 (.ref 498),kE P "_law_times" 869 (.ref 505),kE P "_law_share" 878 (.ref 512),kE P "_law_shares" 884 (.ref 517),kE P "_law_made" 892 (.ref 524),kE P "_law_weights" 898 (.ref 529),kE P "_law_alike" 906 (.ref 536),kE P "_law_mixed_right" 912 (.ref 541),kE P "_law_twice_right" 922 (.ref 548),kE P "_law_turned_right" 932 (.ref 555),kE P "_law_wheel_right" 944 (.ref 562),kE P "law" 950 (.ref 567)] 83, #[]⟩
noncomputable def aCF (P:Params):Obj:=⟨(.type "dict"),none,.dict #[kE P "__module__" 196 zS1,kE P "__firstlineno__" 200 (.int 2 199),kE P "__static_attributes__" 201 (.ref 22),kE P "__weakref__" 203 (.ref 25),kE P "__doc__" 204 .none] 3, #[]⟩
noncomputable def aDj (P:Params):Obj:=⟨(.type "type"),none,.cls ⟨"ShadeError",[(.type "ValueError")],[(.ref 24),(.type "ValueError"),(.type "Exception"),(.type "BaseException"),(.type "object")],23,"ShadeError",true,[],[(.ref 57),(.ref 76),(.ref 95),(.ref 114)],false,none,false⟩, #[(some (.ref 15)),none,(some (.str "ShadeError" 189)),(some (.str "ShadeError" 197)),(some (.builtin "ValueError.__new__")),(some (.bool true))]⟩
noncomputable def aCS (P:Params):Obj:=⟨(.type "dict"),none,.dict #[kE P "__module__" 214 zS1,kE P "__firstlineno__" 218 (.int 4 217),kE P "__static_attributes__" 219 (.ref 35),kE P "__weakref__" 221 (.ref 38),kE P "__doc__" 222 .none] 3, #[]⟩
noncomputable def aHF (P:Params):Obj:=⟨(.type "type"),none,.cls ⟨"MixError",[(.type "ArithmeticError")],[(.ref 37),(.type "ArithmeticError"),(.type "Exception"),(.type "BaseException"),(.type "object")],36,"MixError",true,[],[(.ref 133)],false,none,false⟩, #[(some (.ref 28)),none,(some (.str "MixError" 207)),(some (.str "MixError" 215)),(some (.builtin "ArithmeticError.__new__")),(some (.bool true))]⟩
noncomputable def aC5 (P:Params):Obj:=⟨(.type "dict"),none,.dict #[kE P "__module__" 234 zS1,kE P "__firstlineno__" 238 (.int 6 237),kE P "__init__" 246 (.ref 54),kE P "__static_attributes__" 248 (.ref 55),kE P "__doc__" 249 .none] 2, #[]⟩
noncomputable def aCj (P:Params):Obj:=⟨(.type "type"),none,.cls ⟨"NoNumber",[(.ref 24)],[(.ref 57),(.ref 24),(.type "ValueError"),(.type "Exception"),(.type "BaseException"),(.type "object")],56,"NoNumber",true,[],[],false,none,false⟩, #[(some (.ref 41)),none,(some (.str "NoNumber" 227)),(some (.str "NoNumber" 235)),(some (.builtin "ValueError.__new__")),(some (.bool true))]⟩
noncomputable def aBW (P:Params):Obj:=⟨(.type "dict"),none,.dict #[kE P "__module__" 259 zS1,kE P "__firstlineno__" 263 (.int 11 262),kE P "__init__" 271 (.ref 73),kE P "__static_attributes__" 273 (.ref 74),kE P "__doc__" 274 .none] 2, #[]⟩
noncomputable def aDO (P:Params):Obj:=⟨(.type "type"),none,.cls ⟨"NoShade",[(.ref 24)],[(.ref 76),(.ref 24),(.type "ValueError"),(.type "Exception"),(.type "BaseException"),(.type "object")],75,"NoShade",true,[],[],false,none,false⟩, #[(some (.ref 60)),none,(some (.str "NoShade" 252)),(some (.str "NoShade" 260)),(some (.builtin "ValueError.__new__")),(some (.bool true))]⟩
noncomputable def aCN (P:Params):Obj:=⟨(.type "dict"),none,.dict #[kE P "__module__" 284 zS1,kE P "__firstlineno__" 288 (.int 16 287),kE P "__init__" 296 (.ref 92),kE P "__static_attributes__" 298 (.ref 93),kE P "__doc__" 299 .none] 2, #[]⟩
noncomputable def aCR (P:Params):Obj:=⟨(.type "type"),none,.cls ⟨"NoPart",[(.ref 24)],[(.ref 95),(.ref 24),(.type "ValueError"),(.type "Exception"),(.type "BaseException"),(.type "object")],94,"NoPart",true,[],[],false,none,false⟩, #[(some (.ref 79)),none,(some (.str "NoPart" 277)),(some (.str "NoPart" 285)),(some (.builtin "ValueError.__new__")),(some (.bool true))]⟩
noncomputable def OM (P:Params):Obj:=⟨(.type "dict"),none,.dict #[kE P "__module__" 309 zS1,kE P "__firstlineno__" 313 (.int 21 312),kE P "__init__" 321 (.ref 111),kE P "__static_attributes__" 323 (.ref 112),kE P "__doc__" 324 .none] 2, #[]⟩
noncomputable def OJ (P:Params):Obj:=⟨(.type "type"),none,.cls ⟨"NoDeed",[(.ref 24)],[(.ref 114),(.ref 24),(.type "ValueError"),(.type "Exception"),(.type "BaseException"),(.type "object")],113,"NoDeed",true,[],[],false,none,false⟩, #[(some (.ref 98)),none,(some (.str "NoDeed" 302)),(some (.str "NoDeed" 310)),(some (.builtin "ValueError.__new__")),(some (.bool true))]⟩
noncomputable def aAm (P:Params):Obj:=⟨(.type "dict"),none,.dict #[kE P "__module__" 334 zS1,kE P "__firstlineno__" 338 (.int 26 337),kE P "__init__" 346 (.ref 130),kE P "__static_attributes__" 348 (.ref 131),kE P "__doc__" 349 .none] 2, #[]⟩
noncomputable def aA9 (P:Params):Obj:=⟨(.type "type"),none,.cls ⟨"NoWeights",[(.ref 37)],[(.ref 133),(.ref 37),(.type "ArithmeticError"),(.type "Exception"),(.type "BaseException"),(.type "object")],132,"NoWeights",true,[],[],false,none,false⟩, #[(some (.ref 117)),none,(some (.str "NoWeights" 327)),(some (.str "NoWeights" 335)),(some (.builtin "ArithmeticError.__new__")),(some (.bool true))]⟩
noncomputable def aBy (P:Params):Obj:=oT [.int 0 354,.int 1 355]
noncomputable def VA (P:Params):Obj:=oT [.int 1 357,.int 1 358]
noncomputable def UT (P:Params):Obj:=oC [.str "is_whole" 366,.str "is_whole" 367,fC 368,iV 36,iV 1,iV 0,iV 0,iV 3,.ref 138,.bool true,iV 181,.ref 139,.none,.ref 140,.ref 141,.ref 142,iV 370,iV 36,fC 371]
noncomputable def ZD (P:Params):Obj:=oF "is_whole" "is_whole" cC .none zS2 143
noncomputable def ZU (P:Params):Obj:=oC [.str "common" 373,.str "common" 374,fC 375,iV 38,iV 2,iV 0,iV 0,iV 3,.ref 145,.bool true,iV 181,.ref 146,.none,.ref 147,.ref 148,.ref 149,iV 378,iV 38,fC 379]
noncomputable def YJ (P:Params):Obj:=oF "common" "common" eH .none zS2 150
noncomputable def aAE (P:Params):Obj:=oC [.str "is_fraction" 381,.str "is_fraction" 382,fC 383,iV 42,iV 1,iV 0,iV 0,iV 3,.ref 152,.bool true,iV 181,.ref 153,.none,.ref 154,.ref 155,.ref 156,iV 387,iV 42,fC 388]
noncomputable def aAv (P:Params):Obj:=oF "is_fraction" "is_fraction" bB .none zS2 157
noncomputable def aAV (P:Params):Obj:=oC [.str "lowest" 390,.str "lowest" 391,fC 392,iV 47,iV 2,iV 0,iV 0,iV 3,.ref 159,.bool true,iV 181,.ref 160,.none,.ref 161,.ref 162,.ref 163,iV 396,iV 47,fC 397]
noncomputable def aAN (P:Params):Obj:=oF "lowest" "lowest" eN .none zS2 164
noncomputable def ZF (P:Params):Obj:=oC [.str "need_fractions" 399,.str "need_fractions" 400,fC 401,iV 52,iV 1,iV 0,iV 0,iV 3,.ref 166,.bool true,iV 181,.ref 167,.none,.ref 168,.ref 169,.ref 170,iV 405,iV 52,fC 406]
noncomputable def aAL (P:Params):Obj:=oF "need_fractions" "need_fractions" aP .none zS2 171
noncomputable def XU (P:Params):Obj:=oT [.int 1 408]
noncomputable def aBd (P:Params):Obj:=oC [.str "fraction" 409,.str "fraction" 410,fC 411,iV 56,iV 2,iV 0,iV 0,iV 3,.ref 174,.bool true,iV 181,.ref 175,.none,.ref 176,.ref 177,.ref 178,iV 414,iV 56,fC 415]
noncomputable def XO (P:Params):Obj:=oF "fraction" "fraction" cA (.ref 173) zS2 179
noncomputable def WC (P:Params):Obj:=oC [.str "plus" 417,.str "plus" 418,fC 419,iV 62,iV 2,iV 0,iV 0,iV 3,.ref 181,.bool true,iV 181,.ref 182,.none,.ref 183,.ref 184,.ref 185,iV 422,iV 62,fC 423]
noncomputable def YK (P:Params):Obj:=oF "plus" "plus" kT .none zS2 186
noncomputable def aBf (P:Params):Obj:=oC [.str "minus" 425,.str "minus" 426,fC 427,iV 65,iV 2,iV 0,iV 0,iV 3,.ref 188,.bool true,iV 181,.ref 189,.none,.ref 190,.ref 191,.ref 192,iV 430,iV 65,fC 431]
noncomputable def aA7 (P:Params):Obj:=oF "minus" "minus" gN .none zS2 193
noncomputable def aAa (P:Params):Obj:=oC [.str "times" 433,.str "times" 434,fC 435,iV 68,iV 2,iV 0,iV 0,iV 3,.ref 195,.bool true,iV 181,.ref 196,.none,.ref 197,.ref 198,.ref 199,iV 438,iV 68,fC 439]
noncomputable def aBw (P:Params):Obj:=oF "times" "times" gJ .none zS2 200
noncomputable def US (P:Params):Obj:=oC [.str "over" 441,.str "over" 442,fC 443,iV 71,iV 2,iV 0,iV 0,iV 3,.ref 202,.bool true,iV 181,.ref 203,.none,.ref 204,.ref 205,.ref 206,iV 446,iV 71,fC 447]
noncomputable def ZE (P:Params):Obj:=oF "over" "over" kN .none zS2 207
noncomputable def UL (P:Params):Obj:=oC [.str "less" 449,.str "less" 450,fC 451,iV 76,iV 2,iV 0,iV 0,iV 3,.ref 209,.bool true,iV 181,.ref 210,.none,.ref 211,.ref 212,.ref 213,iV 454,iV 76,fC 455]
noncomputable def aAn (P:Params):Obj:=oF "less" "less" kJ .none zS2 214
noncomputable def aBi (P:Params):Obj:=oC [.str "below" 457,.str "below" 458,fC 459,iV 78,iV 2,iV 0,iV 0,iV 3,.ref 216,.bool true,iV 181,.ref 217,.none,.ref 218,.ref 219,.ref 220,iV 462,iV 78,fC 463]
noncomputable def aAk (P:Params):Obj:=oF "below" "below" gK .none zS2 221
noncomputable def UC (P:Params):Obj:=oC [.str "is_share" 485,.str "is_share" 486,fC 487,iV 94,iV 1,iV 0,iV 0,iV 3,.ref 237,.bool true,iV 181,.ref 238,.none,.ref 239,.ref 240,.ref 241,iV 489,iV 94,fC 490]
noncomputable def ZN (P:Params):Obj:=oF "is_share" "is_share" bX .none zS4 242
noncomputable def aAc (P:Params):Obj:=oC [.str "__init__" 504,.str "Shade.__init__" 505,fC 506,iV 98,iV 4,iV 0,iV 0,iV 3,.ref 251,.bool true,iV 181,.ref 252,.none,.ref 253,.ref 254,.ref 255,iV 513,iV 98,fC 514]
noncomputable def aAA (P:Params):Obj:=oF "__init__" "Shade.__init__" aO .none zS4 256
noncomputable def aAt (P:Params):Obj:=oC [.str "__eq__" 516,.str "Shade.__eq__" 517,fC 518,iV 106,iV 2,iV 0,iV 0,iV 3,.ref 258,.bool true,iV 181,.ref 259,.none,.ref 260,.ref 261,.ref 262,iV 521,iV 106,fC 522]
noncomputable def YN (P:Params):Obj:=oF "__eq__" "Shade.__eq__" aZ .none zS4 263
noncomputable def aAd (P:Params):Obj:=⟨(.type "dict"),none,.dict #[kE P "__module__" 499 zS4,kE P "__firstlineno__" 503 (.int 96 502),kE P "__init__" 515 (.ref 257),kE P "__eq__" 523 (.ref 264),kE P "__len__" 529 (.ref 269),kE P "__str__" 535 (.ref 274),kE P "__repr__" 542 (.ref 281),kE P "__static_attributes__" 546 (.ref 282),kE P "__dict__" 548 (.ref 285),kE P "__weakref__" 550 (.ref 286),kE P "__doc__" 551 .none,kE P "__hash__" 552 .none] 5, #[]⟩
noncomputable def aAl (P:Params):Obj:=⟨(.type "type"),none,.cls ⟨"Shade",[(.type "object")],[(.ref 284),(.type "object")],283,"Shade",true,[],[],false,none,false⟩, #[none,none,(some (.str "Shade" 492)),(some (.str "Shade" 500)),(some (.builtin "object.__new__")),(some (.bool true))]⟩
noncomputable def UB (P:Params):Obj:=oC [.str "is_shade" 555,.str "is_shade" 556,fC 557,iV 117,iV 1,iV 0,iV 0,iV 3,.ref 289,.bool true,iV 181,.ref 290,.none,.ref 291,.ref 292,.ref 293,iV 559,iV 117,fC 560]
noncomputable def UD (P:Params):Obj:=oF "is_shade" "is_shade" cF .none zS4 294
noncomputable def aA2 (P:Params):Obj:=oC [.str "need_shade" 562,.str "need_shade" 563,fC 564,iV 119,iV 1,iV 0,iV 0,iV 3,.ref 296,.bool true,iV 181,.ref 297,.none,.ref 298,.ref 299,.ref 300,iV 566,iV 119,fC 567]
noncomputable def aBk (P:Params):Obj:=oF "need_shade" "need_shade" bI .none zS4 301
noncomputable def VS (P:Params):Obj:=oC [.str "shares_of" 569,.str "shares_of" 570,fC 571,iV 122,iV 1,iV 0,iV 0,iV 3,.ref 303,.bool true,iV 181,.ref 304,.none,.ref 305,.ref 306,.ref 307,iV 573,iV 122,fC 574]
noncomputable def WE (P:Params):Obj:=oF "shares_of" "shares_of" bP .none zS4 308
noncomputable def YC (P:Params):Obj:=oC [.str "shade_of" 576,.str "shade_of" 577,fC 578,iV 125,iV 1,iV 0,iV 0,iV 3,.ref 310,.bool true,iV 181,.ref 311,.none,.ref 312,.ref 313,.ref 314,iV 583,iV 125,fC 584]
noncomputable def aBt (P:Params):Obj:=oF "shade_of" "shade_of" bZ .none zS4 315
noncomputable def aBq (P:Params):Obj:=oC [.str "are_shades" 586,.str "are_shades" 587,fC 588,iV 128,iV 3,iV 0,iV 0,iV 3,.ref 317,.bool true,iV 181,.ref 318,.none,.none,.none,.ref 319,iV 589,iV 128,fC 590]
noncomputable def WK (P:Params):Obj:=oF "are_shades" "are_shades" bF .none zS4 320
noncomputable def aEl (P:Params):Obj:=oT [.int 1 596,.int 2 597]
noncomputable def aDX (P:Params):Obj:=oC [.str "part_of" 599,.str "part_of" 600,fC 601,iV 135,iV 1,iV 0,iV 0,iV 3,.ref 323,.bool true,iV 181,.ref 324,.none,.ref 325,.ref 326,.ref 327,iV 603,iV 135,fC 604]
noncomputable def aE9 (P:Params):Obj:=oF "part_of" "part_of" dF .none zS3 328
noncomputable def aEo (P:Params):Obj:=oC [.str "toward" 606,.str "toward" 607,fC 608,iV 141,iV 3,iV 0,iV 0,iV 3,.ref 330,.bool true,iV 181,.ref 331,.none,.none,.none,.ref 332,iV 609,iV 141,fC 610]
noncomputable def aEi (P:Params):Obj:=oF "toward" "toward" eF .none zS3 333
noncomputable def aKc (P:Params):Obj:=oT [.none]
noncomputable def aD1 (P:Params):Obj:=oC [.str "lighter" 612,.str "lighter" 613,fC 614,iV 143,iV 2,iV 0,iV 0,iV 3,.ref 336,.bool true,iV 181,.ref 337,.none,.ref 338,.ref 339,.ref 340,iV 617,iV 143,fC 618]
noncomputable def aFB (P:Params):Obj:=oF "lighter" "lighter" dG (.ref 335) zS3 341
noncomputable def aLk (P:Params):Obj:=oT [.none]
noncomputable def aE2 (P:Params):Obj:=oC [.str "darker" 620,.str "darker" 621,fC 622,iV 146,iV 2,iV 0,iV 0,iV 3,.ref 344,.bool true,iV 181,.ref 345,.none,.ref 346,.ref 347,.ref 348,iV 625,iV 146,fC 626]
noncomputable def aFk (P:Params):Obj:=oF "darker" "darker" eT (.ref 343) zS3 349
noncomputable def aKB (P:Params):Obj:=oT [.none]
noncomputable def aEh (P:Params):Obj:=oC [.str "duller" 628,.str "duller" 629,fC 630,iV 149,iV 2,iV 0,iV 0,iV 3,.ref 352,.bool true,iV 181,.ref 353,.none,.ref 354,.ref 355,.ref 356,iV 635,iV 149,fC 636]
noncomputable def aFI (P:Params):Obj:=oF "duller" "duller" eU (.ref 351) zS3 357
noncomputable def aJ4 (P:Params):Obj:=oT [.none]
noncomputable def aFl (P:Params):Obj:=oC [.str "turned" 638,.str "turned" 639,fC 640,iV 154,iV 2,iV 0,iV 0,iV 3,.ref 360,.bool true,iV 181,.ref 361,.none,.none,.none,.ref 362,iV 641,iV 154,fC 642]
noncomputable def aDT (P:Params):Obj:=oF "turned" "turned" eJ (.ref 359) zS3 363
noncomputable def aE8 (P:Params):Obj:=oC [.str "opposite" 644,.str "opposite" 645,fC 646,iV 162,iV 1,iV 0,iV 0,iV 3,.ref 365,.bool true,iV 181,.ref 366,.none,.none,.none,.ref 367,iV 647,iV 162,fC 648]
noncomputable def aDR (P:Params):Obj:=oF "opposite" "opposite" bW .none zS3 368
noncomputable def aFj (P:Params):Obj:=⟨(.type "dict"),none,.dict #[kE P "lighter" 650 (.ref 342),kE P "darker" 651 (.ref 350),kE P "duller" 652 (.ref 358),kE P "turned" 653 (.ref 364)] 4, #[]⟩
noncomputable def aFw (P:Params):Obj:=oC [.str "is_by" 659,.str "is_by" 660,fC 661,iV 165,iV 2,iV 0,iV 0,iV 3,.ref 371,.bool true,iV 181,.ref 372,.none,.ref 373,.ref 374,.ref 375,iV 664,iV 165,fC 665]
noncomputable def aFK (P:Params):Obj:=oF "is_by" "is_by" gM .none zS3 376
noncomputable def aEr (P:Params):Obj:=oC [.str "is_deed" 667,.str "is_deed" 668,fC 669,iV 171,iV 1,iV 0,iV 0,iV 3,.ref 378,.bool true,iV 181,.ref 379,.none,.ref 380,.ref 381,.ref 382,iV 672,iV 171,fC 673]
noncomputable def aFg (P:Params):Obj:=oF "is_deed" "is_deed" dH .none zS3 383
noncomputable def aEk (P:Params):Obj:=oC [.str "need_deeds" 675,.str "need_deeds" 676,fC 677,iV 180,iV 1,iV 0,iV 0,iV 3,.ref 385,.bool true,iV 181,.ref 386,.none,.ref 387,.ref 388,.ref 389,iV 681,iV 180,fC 682]
noncomputable def aD2 (P:Params):Obj:=oF "need_deeds" "need_deeds" bH .none zS3 390
noncomputable def aE1 (P:Params):Obj:=oC [.str "do_one" 684,.str "do_one" 685,fC 686,iV 186,iV 2,iV 0,iV 0,iV 3,.ref 392,.bool true,iV 181,.ref 393,.none,.ref 394,.ref 395,.ref 396,iV 690,iV 186,fC 691]
noncomputable def aD0 (P:Params):Obj:=oF "do_one" "do_one" eP .none zS3 397
noncomputable def aE7 (P:Params):Obj:=oC [.str "done" 693,.str "done" 694,fC 695,iV 193,iV 2,iV 0,iV 0,iV 3,.ref 399,.bool true,iV 181,.ref 400,.none,.ref 401,.ref 402,.ref 403,iV 699,iV 193,fC 700]
noncomputable def aFo (P:Params):Obj:=oF "done" "done" jY .none zS3 404
noncomputable def aFH (P:Params):Obj:=oC [.str "is_weight" 706,.str "is_weight" 707,fC 708,iV 201,iV 2,iV 0,iV 0,iV 3,.ref 406,.bool true,iV 181,.ref 407,.none,.ref 408,.ref 409,.ref 410,iV 711,iV 201,fC 712]
noncomputable def aFC (P:Params):Obj:=oF "is_weight" "is_weight" bQ .none zS5 411
noncomputable def aEC (P:Params):Obj:=oC [.str "are_weights" 714,.str "are_weights" 715,fC 716,iV 203,iV 2,iV 0,iV 0,iV 3,.ref 413,.bool true,iV 181,.ref 414,.none,.none,.none,.ref 415,iV 717,iV 203,fC 718]
noncomputable def aEe (P:Params):Obj:=oF "are_weights" "are_weights" bC .none zS5 416
noncomputable def aEn (P:Params):Obj:=oC [.str "mean_share" 720,.str "mean_share" 721,fC 722,iV 207,iV 2,iV 0,iV 0,iV 3,.ref 418,.bool true,iV 181,.ref 419,.none,.ref 420,.ref 421,.ref 422,iV 729,iV 207,fC 730]
noncomputable def aEG (P:Params):Obj:=oF "mean_share" "mean_share" bG .none zS5 423
noncomputable def AF (P:Params):Obj:=oT [.none]
noncomputable def aD9 (P:Params):Obj:=oC [.str "mix" 732,.str "mix" 733,fC 734,iV 214,iV 2,iV 0,iV 0,iV 3,.ref 426,.bool true,iV 181,.ref 427,.none,.none,.none,.ref 428,iV 735,iV 214,fC 736]
noncomputable def aD6 (P:Params):Obj:=oF "mix" "mix" lB (.ref 425) zS5 429
noncomputable def aD8 (P:Params):Obj:=oT [.int 0 740,.int 2 741,.int 1 742,.int 0 743,.int 1 744]
noncomputable def aEX (P:Params):Obj:=oT [.int 1 745,.int 2 746,.int 0 747,.int 2 748,.int (-1) 750]
noncomputable def aFi (P:Params):Obj:=oT [.int 1 751,.int 0 752,.int 2 753,.int 2 754,.int 1 755]
noncomputable def aEj (P:Params):Obj:=oT [.int 2 756,.int 0 757,.int 1 758,.int 4 759,.int (-1) 761]
noncomputable def aEY (P:Params):Obj:=oT [.int 2 762,.int 1 763,.int 0 764,.int 4 765,.int 1 766]
noncomputable def aEN (P:Params):Obj:=oT [.int 0 767,.int 1 768,.int 2 769,.int 6 770,.int (-1) 772]
noncomputable def aFp (P:Params):Obj:=oT [.ref 431,.ref 432,.ref 433,.ref 434,.ref 435,.ref 436]
noncomputable def aFq (P:Params):Obj:=oC [.str "falls" 774,.str "falls" 775,fC 776,iV 226,iV 2,iV 0,iV 0,iV 3,.ref 438,.bool true,iV 181,.ref 439,.none,.ref 440,.ref 441,.ref 442,iV 782,iV 226,fC 783]
noncomputable def aEs (P:Params):Obj:=oF "falls" "falls" gO .none zS6 443
noncomputable def aEb (P:Params):Obj:=oC [.str "stretch_of" 785,.str "stretch_of" 786,fC 787,iV 229,iV 1,iV 0,iV 0,iV 3,.ref 445,.bool true,iV 181,.ref 446,.none,.none,.none,.ref 447,iV 788,iV 229,fC 789]
noncomputable def aFL (P:Params):Obj:=oF "stretch_of" "stretch_of" bJ .none zS6 448
noncomputable def aFu (P:Params):Obj:=oC [.str "wheel_of" 791,.str "wheel_of" 792,fC 793,iV 232,iV 1,iV 0,iV 0,iV 3,.ref 450,.bool true,iV 181,.ref 451,.none,.ref 452,.ref 453,.ref 454,iV 804,iV 232,fC 805]
noncomputable def aEa (P:Params):Obj:=oF "wheel_of" "wheel_of" bY .none zS6 455
noncomputable def aEA (P:Params):Obj:=oC [.str "_law_cell" 809,.str "_law_cell" 810,fC 811,iV 242,iV 2,iV 0,iV 0,iV 3,.ref 457,.bool true,iV 181,.ref 458,.none,.ref 459,.ref 460,.ref 461,iV 816,iV 242,fC 817]
noncomputable def aEp (P:Params):Obj:=oF "_law_cell" "_law_cell" eO .none zS0 462
noncomputable def aFz (P:Params):Obj:=oC [.str "_law_purse" 819,.str "_law_purse" 820,fC 821,iV 249,iV 1,iV 0,iV 0,iV 3,.ref 464,.bool true,iV 181,.ref 465,.none,.ref 466,.ref 467,.ref 468,iV 823,iV 249,fC 824]
noncomputable def aEM (P:Params):Obj:=oF "_law_purse" "_law_purse" dE .none zS0 469
noncomputable def aFM (P:Params):Obj:=oC [.str "_law_pick" 826,.str "_law_pick" 827,fC 828,iV 251,iV 2,iV 0,iV 0,iV 3,.ref 471,.bool true,iV 181,.ref 472,.none,.ref 473,.ref 474,.ref 475,iV 833,iV 251,fC 834]
noncomputable def aEP (P:Params):Obj:=oF "_law_pick" "_law_pick" eQ .none zS0 476
noncomputable def aFv (P:Params):Obj:=oC [.str "_law_low" 836,.str "_law_low" 837,fC 838,iV 260,iV 2,iV 0,iV 0,iV 3,.ref 478,.bool true,iV 181,.ref 479,.none,.ref 480,.ref 481,.ref 482,iV 843,iV 260,fC 844]
noncomputable def aDZ (P:Params):Obj:=oF "_law_low" "_law_low" gI .none zS0 483
noncomputable def aEc (P:Params):Obj:=oC [.str "_law_plus" 846,.str "_law_plus" 847,fC 848,iV 267,iV 2,iV 0,iV 0,iV 3,.ref 485,.bool true,iV 181,.ref 486,.none,.ref 487,.ref 488,.ref 489,iV 851,iV 267,fC 852]
noncomputable def aFe (P:Params):Obj:=oF "_law_plus" "_law_plus" eR .none zS0 490
noncomputable def aDQ (P:Params):Obj:=oC [.str "_law_minus" 854,.str "_law_minus" 855,fC 856,iV 269,iV 2,iV 0,iV 0,iV 3,.ref 492,.bool true,iV 181,.ref 493,.none,.ref 494,.ref 495,.ref 496,iV 859,iV 269,fC 860]
noncomputable def aE6 (P:Params):Obj:=oF "_law_minus" "_law_minus" dI .none zS0 497
noncomputable def aEy (P:Params):Obj:=oC [.str "_law_times" 862,.str "_law_times" 863,fC 864,iV 271,iV 2,iV 0,iV 0,iV 3,.ref 499,.bool true,iV 181,.ref 500,.none,.ref 501,.ref 502,.ref 503,iV 867,iV 271,fC 868]
noncomputable def aEU (P:Params):Obj:=oF "_law_times" "_law_times" dA .none zS0 504
noncomputable def aD4 (P:Params):Obj:=oC [.str "_law_share" 870,.str "_law_share" 871,fC 872,iV 273,iV 1,iV 0,iV 0,iV 3,.ref 506,.bool true,iV 181,.ref 507,.none,.ref 508,.ref 509,.ref 510,iV 876,iV 273,fC 877]
noncomputable def aEu (P:Params):Obj:=oF "_law_share" "_law_share" cZ .none zS0 511
noncomputable def aDU (P:Params):Obj:=oC [.str "_law_shares" 879,.str "_law_shares" 880,fC 881,iV 277,iV 1,iV 0,iV 0,iV 3,.ref 513,.bool true,iV 181,.ref 514,.none,.none,.none,.ref 515,iV 882,iV 277,fC 883]
noncomputable def aEQ (P:Params):Obj:=oF "_law_shares" "_law_shares" cH .none zS0 516
noncomputable def aEt (P:Params):Obj:=oC [.str "_law_made" 885,.str "_law_made" 886,fC 887,iV 285,iV 2,iV 0,iV 0,iV 3,.ref 518,.bool true,iV 181,.ref 519,.none,.ref 520,.ref 521,.ref 522,iV 890,iV 285,fC 891]
noncomputable def aDV (P:Params):Obj:=oF "_law_made" "_law_made" eK .none zS0 523
noncomputable def aDS (P:Params):Obj:=oC [.str "_law_weights" 893,.str "_law_weights" 894,fC 895,iV 289,iV 2,iV 0,iV 0,iV 3,.ref 525,.bool true,iV 181,.ref 526,.none,.none,.none,.ref 527,iV 896,iV 289,fC 897]
noncomputable def aFm (P:Params):Obj:=oF "_law_weights" "_law_weights" bM .none zS0 528
noncomputable def aET (P:Params):Obj:=oC [.str "_law_alike" 899,.str "_law_alike" 900,fC 901,iV 296,iV 2,iV 0,iV 0,iV 3,.ref 530,.bool true,iV 181,.ref 531,.none,.ref 532,.ref 533,.ref 534,iV 904,iV 296,fC 905]
noncomputable def aFa (P:Params):Obj:=oF "_law_alike" "_law_alike" dD .none zS0 535
noncomputable def aEB (P:Params):Obj:=oC [.str "_law_mixed_right" 907,.str "_law_mixed_right" 908,fC 909,iV 298,iV 4,iV 0,iV 0,iV 3,.ref 537,.bool true,iV 181,.ref 538,.none,.none,.none,.ref 539,iV 910,iV 298,fC 911]
noncomputable def aFb (P:Params):Obj:=oF "_law_mixed_right" "_law_mixed_right" aU .none zS0 540
noncomputable def aEv (P:Params):Obj:=oC [.str "_law_twice_right" 913,.str "_law_twice_right" 914,fC 915,iV 305,iV 3,iV 0,iV 0,iV 3,.ref 542,.bool true,iV 181,.ref 543,.none,.ref 544,.ref 545,.ref 546,iV 920,iV 305,fC 921]
noncomputable def aFy (P:Params):Obj:=oF "_law_twice_right" "_law_twice_right" aT .none zS0 547
noncomputable def aEO (P:Params):Obj:=oC [.str "_law_turned_right" 923,.str "_law_turned_right" 924,fC 925,iV 318,iV 4,iV 0,iV 0,iV 3,.ref 549,.bool true,iV 181,.ref 550,.none,.ref 551,.ref 552,.ref 553,iV 930,iV 318,fC 931]
noncomputable def aE0 (P:Params):Obj:=oF "_law_turned_right" "_law_turned_right" aQ .none zS0 554
noncomputable def aD3 (P:Params):Obj:=oC [.str "_law_wheel_right" 933,.str "_law_wheel_right" 934,fC 935,iV 326,iV 2,iV 0,iV 0,iV 3,.ref 556,.bool true,iV 181,.ref 557,.none,.ref 558,.ref 559,.ref 560,iV 942,iV 326,fC 943]
noncomputable def aFr (P:Params):Obj:=oF "_law_wheel_right" "_law_wheel_right" aS .none zS0 561
noncomputable def aEW (P:Params):Obj:=oC [.str "law" 945,.str "law" 946,fC 947,iV 332,iV 1,iV 0,iV 0,iV 3,.ref 563,.bool true,iV 181,.ref 564,.none,.none,.none,.ref 565,iV 948,iV 332,fC 949]
noncomputable def aD5 (P:Params):Obj:=oF "law" "law" lO .none zS0 566
noncomputable def K0:Params→W.Frag:=fun P=>[(3,ko3 P),(23,aCF P),(24,aDj P),(36,aCS P),(37,aHF P),(56,aC5 P),(57,aCj P),(75,aBW P),(76,aDO P),(94,aCN P),(95,aCR P),(113,OM P),(114,OJ P),(132,aAm P),(133,aA9 P),(136,aBy P),(137,VA P),(143,UT P),(144,ZD P),(150,ZU P),(151,YJ P),(157,aAE P),(158,aAv P),(164,aAV P),(165,aAN P),(171,ZF P),(172,aAL P),(173,XU P),(179,aBd P),(180,XO P),(186,WC P),(187,YK P),(193,aBf P),(194,aA7 P),(200,aAa P),(201,aBw P),(207,US P),(208,ZE P),(214,UL P),(215,aAn P),(221,aBi P),(222,aAk P),(242,UC P),(243,ZN P),(256,aAc P),(257,aAA P),(263,aAt P),(264,YN P),(283,aAd P),(284,aAl P),(294,UB P),(295,UD P),(301,aA2 P),(302,aBk P),(308,VS P),(309,WE P),(315,YC P),(316,aBt P),(320,aBq P),(321,WK P),(322,aEl P),(328,aDX P),(329,aE9 P),(333,aEo P),(334,aEi P),(335,aKc P),(341,aD1 P),(342,aFB P),(343,aLk P),(349,aE2 P),(350,aFk P),(351,aKB P),(357,aEh P),(358,aFI P),(359,aJ4 P),(363,aFl P),(364,aDT P),(368,aE8 P),(369,aDR P),(370,aFj P),(376,aFw P),(377,aFK P),(383,aEr P),(384,aFg P),(390,aEk P),(391,aD2 P),(397,aE1 P),(398,aD0 P),(404,aE7 P),(405,aFo P),(411,aFH P),(412,aFC P),(416,aEC P),(417,aEe P),(423,aEn P),(424,aEG P),(425,AF P),(429,aD9 P),(430,aD6 P),(431,aD8 P),(432,aEX P),(433,aFi P),(434,aEj P),(435,aEY P),(436,aEN P),(437,aFp P),(443,aFq P),(444,aEs P),(448,aEb P),(449,aFL P),(455,aFu P),(456,aEa P),(462,aEA P),(463,aEp P),(469,aFz P),(470,aEM P),(476,aFM P),(477,aEP P),(483,aFv P),(484,aDZ P),(490,aEc P),(491,aFe P),(497,aDQ P),(498,aE6 P),(504,aEy P),(505,aEU P),(511,aD4 P),(512,aEu P),(516,aDU P),(517,aEQ P),(523,aEt P),(524,aDV P),(528,aDS P),(529,aFm P),(535,aET P),(536,aFa P),(540,aEB P),(541,aFb P),(547,aEv P),(548,aFy P),(554,aEO P),(555,aE0 P),(561,aD3 P),(562,aFr P),(566,aEW P),(567,aD5 P)]
noncomputable def aK:List Addr:=[3,23,24,36,37,56,57,75,76,94,95,113,114,132,133,136,137,143,144,150,151,157,158,164,165,171,172,173,179,180,186,187,193,194,200,201,207,208,214,215,221,222,242,243,256,257,263,264,283,284,294,295,301,302,308,309,315,316,320,321,322,328,329,333,334,335,341,342,343,349,350,351,357,358,359,363,364,368,369,370,376,377,383,384,390,391,397,398,404,405,411,412,416,417,423,424,425,429,430,431,432,433,434,435,436,437,443,444,448,449,455,456,462,463,469,470,476,477,483,484,490,491,497,498,504,505,511,512,516,517,523,524,528,529,535,536,540,541,547,548,554,555,561,562,566,567]
noncomputable def qv:Program:={ PySem.Challenge.pw_lightshares_k10_whole_deeds_go_along with main:={ PySem.Challenge.pw_lightshares_k10_whole_deeds_go_along.main with body:=[top 80] } }
noncomputable def lo:List Str:=(["ShadeError","MixError","NoNumber","NoShade","NoPart","NoDeed","NoWeights","ZERO","ONE","PIECE_FIGURES","PIECE","is_whole","common","is_fraction","lowest","need_fractions","fraction","plus","minus","times","over","less","below","figures","written","MOST_SHADES","is_share","Shade","is_shade","need_shade","shares_of","shade_of","are_shades","MOST_DEEDS","HALF","part_of","toward","lighter","darker","duller","turned","opposite","BY_WORD","is_by","is_deed","need_deeds","do_one","done","MOST_WEIGHT","is_weight","are_weights","mean_share","mix","STRETCHES","falls","stretch_of","wheel_of","_law_cell","_law_purse","_law_pick","_law_low","_law_plus","_law_minus","_law_times","_law_share","_law_shares","_law_made","_law_weights","_law_alike","_law_mixed_right","_law_twice_right","_law_turned_right","_law_wheel_right"]:List String).map Str.ofString
noncomputable def nmS:List Str:=(["is_whole","common","is_fraction","lowest","need_fractions","plus","minus","times","over","below","nearest_whole","is_share","Shade","Shade.__init__","is_shade","need_shade","shares_of","shade_of","is_grade","need_grade","is_step","need_step","printed","span_of","_law_cell","_law_purse","_law_pick","_law_whole","_law_low","_law_plus","_law_minus","_law_times","_law_over","_law_below","_law_is_fraction","_law_share","_law_shares","_law_made","fraction","are_shades","is_weight","are_weights","mean_share","mix","Shade.__eq__","part_of","toward","lighter","darker","duller","opposite","turned","is_by","is_deed","need_deeds","do_one","done","less","falls","stretch_of","wheel_of","_law_alike","_law_weights","_law_mixed_right","_law_twice_right","_law_turned_right","_law_wheel_right","law"]:List String).map Str.ofString
noncomputable def pkS:Nat→Sp3
  | 0=>cV
  | 1=>mE
  | 2=>jP
  | 3=>bT
  | 4=>pV
  | 5=>gH
  | 6=>dU
  | 7=>dB
  | 8=>iS
  | 9=>gL
  | 10=>DY
  | 11=>eE
  | 12=>mK
  | 13=>pU
  | 14=>fH
  | 15=>iI
  | 16=>bD
  | 17=>fI
  | 18=>DW
  | 19=>oK
  | 20=>pL
  | 21=>kC
  | 22=>sH
  | 23=>KM
  | 24=>vV
  | 25=>rF
  | 26=>nD
  | 27=>cV
  | 28=>bT
  | 29=>gH
  | 30=>dU
  | 31=>dB
  | 32=>iS
  | 33=>gL
  | 34=>sB
  | 35=>jS
  | 36=>jO
  | 37=>wO
  | 38=>hX
  | 39=>oE
  | 40=>vS
  | 41=>pD
  | 42=>xA
  | 43=>OP
  | 44=>xC
  | 45=>vN
  | 46=>CZ
  | 47=>dC (fun _=>1)
  | 48=>dC (fun _=>0)
  | 49=>dC md
  | 50=>ET
  | 51=>vB
  | 52=>FA
  | 53=>oW
  | 54=>vD
  | 55=>vJ
  | 56=>EV
  | 57=>nH
  | 58=>kM
  | 59=>jR
  | 60=>pQ
  | 61=>vC
  | 62=>ON
  | 63=>oM
  | 64=>vE
  | 65=>vH
  | 66=>rG
  | 67=>EW
  | _=>fun _ _ _=>False
noncomputable def nmG:List Str:=(["ONE","ZERO","MOST_GRADE","Shade","int","bool","tuple","MOST_SHADES","MOST_WEIGHT","MOST_DEEDS","HALF","STRETCHES","str"]:List String).map Str.ofString
noncomputable def pkG:Nat→PV
  | 0=>FQ 1
  | 1=>FQ 0
  | 2=>.int 1000
  | 3=>.cl "Shade"
  | 4=>.ty "int"
  | 5=>.ty "bool"
  | 6=>.ty "tuple"
  | 7=>.int 60
  | 8=>.int 1000000
  | 9=>.int 20
  | 10=>.tup [.int 1,.int 2]
  | 11=>.tup [stV 0,stV 1,stV 2,stV 3,stV 4,stV 5]
  | 12=>.ty "str"
  | _=>.non
noncomputable def T:Tb:=⟨fun f=>pkS (nmS.idxOf f),fun f=>pkG (nmG.idxOf f),["Shade"],[("Shade","ember"),("Shade","leaf"),("Shade","sky")]⟩
theorem wM:T.S "is_whole"=cV:=congrArg pkS (by decide +kernel:nmS.idxOf ("is_whole":Str)=0)
theorem IW:T.S "common"=mE:=congrArg pkS (by decide +kernel:nmS.idxOf ("common":Str)=1)
theorem mR:T.S "is_fraction"=jP:=congrArg pkS (by decide +kernel:nmS.idxOf ("is_fraction":Str)=2)
theorem FT:T.S "lowest"=bT:=congrArg pkS (by decide +kernel:nmS.idxOf ("lowest":Str)=3)
theorem jM:T.S "need_fractions"=pV:=congrArg pkS (by decide +kernel:nmS.idxOf ("need_fractions":Str)=4)
theorem aAz:T.S "plus"=gH:=congrArg pkS (by decide +kernel:nmS.idxOf ("plus":Str)=5)
theorem OD:T.S "minus"=dU:=congrArg pkS (by decide +kernel:nmS.idxOf ("minus":Str)=6)
theorem NQ:T.S "times"=dB:=congrArg pkS (by decide +kernel:nmS.idxOf ("times":Str)=7)
theorem XQ:T.S "over"=iS:=congrArg pkS (by decide +kernel:nmS.idxOf ("over":Str)=8)
theorem NS:T.S "below"=gL:=congrArg pkS (by decide +kernel:nmS.idxOf ("below":Str)=9)
theorem uL:T.S "nearest_whole"=DY:=congrArg pkS (by decide +kernel:nmS.idxOf ("nearest_whole":Str)=10)
theorem wG:T.S "is_share"=eE:=congrArg pkS (by decide +kernel:nmS.idxOf ("is_share":Str)=11)
theorem aCT:T.S "Shade"=mK:=congrArg pkS (by decide +kernel:nmS.idxOf ("Shade":Str)=12)
theorem jH:T.S "Shade.__init__"=pU:=congrArg pkS (by decide +kernel:nmS.idxOf ("Shade.__init__":Str)=13)
theorem yB:T.S "is_shade"=fH:=congrArg pkS (by decide +kernel:nmS.idxOf ("is_shade":Str)=14)
theorem pO:T.S "need_shade"=iI:=congrArg pkS (by decide +kernel:nmS.idxOf ("need_shade":Str)=15)
theorem uE:T.S "shares_of"=bD:=congrArg pkS (by decide +kernel:nmS.idxOf ("shares_of":Str)=16)
theorem wP:T.S "shade_of"=fI:=congrArg pkS (by decide +kernel:nmS.idxOf ("shade_of":Str)=17)
theorem LR:T.S "is_grade"=DW:=congrArg pkS (by decide +kernel:nmS.idxOf ("is_grade":Str)=18)
theorem BP:T.S "need_grade"=oK:=congrArg pkS (by decide +kernel:nmS.idxOf ("need_grade":Str)=19)
theorem PN:T.S "is_step"=pL:=congrArg pkS (by decide +kernel:nmS.idxOf ("is_step":Str)=20)
theorem FP:T.S "need_step"=kC:=congrArg pkS (by decide +kernel:nmS.idxOf ("need_step":Str)=21)
theorem RM:T.S "printed"=sH:=congrArg pkS (by decide +kernel:nmS.idxOf ("printed":Str)=22)
theorem RC:T.S "span_of"=KM:=congrArg pkS (by decide +kernel:nmS.idxOf ("span_of":Str)=23)
theorem GR:T.S "_law_cell"=vV:=congrArg pkS (by decide +kernel:nmS.idxOf ("_law_cell":Str)=24)
theorem AO:T.S "_law_purse"=rF:=congrArg pkS (by decide +kernel:nmS.idxOf ("_law_purse":Str)=25)
theorem FX:T.S "_law_pick"=nD:=congrArg pkS (by decide +kernel:nmS.idxOf ("_law_pick":Str)=26)
theorem RY:T.S "_law_whole"=cV:=congrArg pkS (by decide +kernel:nmS.idxOf ("_law_whole":Str)=27)
theorem NZ:T.S "_law_low"=bT:=congrArg pkS (by decide +kernel:nmS.idxOf ("_law_low":Str)=28)
theorem HM:T.S "_law_plus"=gH:=congrArg pkS (by decide +kernel:nmS.idxOf ("_law_plus":Str)=29)
theorem AL:T.S "_law_minus"=dU:=congrArg pkS (by decide +kernel:nmS.idxOf ("_law_minus":Str)=30)
theorem BH:T.S "_law_times"=dB:=congrArg pkS (by decide +kernel:nmS.idxOf ("_law_times":Str)=31)
theorem UZ:T.S "_law_over"=iS:=congrArg pkS (by decide +kernel:nmS.idxOf ("_law_over":Str)=32)
theorem QV:T.S "_law_below"=gL:=congrArg pkS (by decide +kernel:nmS.idxOf ("_law_below":Str)=33)
theorem uJ:T.S "_law_is_fraction"=sB:=congrArg pkS (by decide +kernel:nmS.idxOf ("_law_is_fraction":Str)=34)
theorem AN:T.S "_law_share"=jS:=congrArg pkS (by decide +kernel:nmS.idxOf ("_law_share":Str)=35)
theorem vX:T.S "_law_shares"=jO:=congrArg pkS (by decide +kernel:nmS.idxOf ("_law_shares":Str)=36)
theorem GH:T.S "_law_made"=wO:=congrArg pkS (by decide +kernel:nmS.idxOf ("_law_made":Str)=37)
theorem xQ:T.S "fraction"=hX:=congrArg pkS (by decide +kernel:nmS.idxOf ("fraction":Str)=38)
theorem pM:T.S "are_shades"=oE:=congrArg pkS (by decide +kernel:nmS.idxOf ("are_shades":Str)=39)
theorem uD:T.S "is_weight"=vS:=congrArg pkS (by decide +kernel:nmS.idxOf ("is_weight":Str)=40)
theorem mQ:T.S "are_weights"=pD:=congrArg pkS (by decide +kernel:nmS.idxOf ("are_weights":Str)=41)
theorem oQ:T.S "mean_share"=xA:=congrArg pkS (by decide +kernel:nmS.idxOf ("mean_share":Str)=42)
theorem aFn:T.S "mix"=OP:=congrArg pkS (by decide +kernel:nmS.idxOf ("mix":Str)=43)
theorem mF:T.S "Shade.__eq__"=xC:=congrArg pkS (by decide +kernel:nmS.idxOf ("Shade.__eq__":Str)=44)
theorem AS:T.S "part_of"=vN:=congrArg pkS (by decide +kernel:nmS.idxOf ("part_of":Str)=45)
theorem GN:T.S "toward"=CZ:=congrArg pkS (by decide +kernel:nmS.idxOf ("toward":Str)=46)
theorem AX:T.S "lighter"=dC (fun _=>1):=congrArg pkS (by decide +kernel:nmS.idxOf ("lighter":Str)=47)
theorem IP:T.S "darker"=dC (fun _=>0):=congrArg pkS (by decide +kernel:nmS.idxOf ("darker":Str)=48)
theorem JJ:T.S "duller"=dC md:=congrArg pkS (by decide +kernel:nmS.idxOf ("duller":Str)=49)
theorem yG:T.S "opposite"=ET:=congrArg pkS (by decide +kernel:nmS.idxOf ("opposite":Str)=50)
theorem FW:T.S "turned"=vB:=congrArg pkS (by decide +kernel:nmS.idxOf ("turned":Str)=51)
theorem NR:T.S "is_by"=FA:=congrArg pkS (by decide +kernel:nmS.idxOf ("is_by":Str)=52)
theorem AR:T.S "is_deed"=oW:=congrArg pkS (by decide +kernel:nmS.idxOf ("is_deed":Str)=53)
theorem pS:T.S "need_deeds"=vD:=congrArg pkS (by decide +kernel:nmS.idxOf ("need_deeds":Str)=54)
theorem GC:T.S "do_one"=vJ:=congrArg pkS (by decide +kernel:nmS.idxOf ("do_one":Str)=55)
theorem aAX:T.S "done"=EV:=congrArg pkS (by decide +kernel:nmS.idxOf ("done":Str)=56)
theorem WS:T.S "less"=nH:=congrArg pkS (by decide +kernel:nmS.idxOf ("less":Str)=57)
theorem NF:T.S "falls"=kM:=congrArg pkS (by decide +kernel:nmS.idxOf ("falls":Str)=58)
theorem oX:T.S "stretch_of"=jR:=congrArg pkS (by decide +kernel:nmS.idxOf ("stretch_of":Str)=59)
theorem vQ:T.S "wheel_of"=pQ:=congrArg pkS (by decide +kernel:nmS.idxOf ("wheel_of":Str)=60)
theorem BI:T.S "_law_alike"=vC:=congrArg pkS (by decide +kernel:nmS.idxOf ("_law_alike":Str)=61)
theorem uA:T.S "_law_weights"=ON:=congrArg pkS (by decide +kernel:nmS.idxOf ("_law_weights":Str)=62)
theorem kX:T.S "_law_mixed_right"=oM:=congrArg pkS (by decide +kernel:nmS.idxOf ("_law_mixed_right":Str)=63)
theorem kZ:T.S "_law_twice_right"=vE:=congrArg pkS (by decide +kernel:nmS.idxOf ("_law_twice_right":Str)=64)
theorem jD:T.S "_law_turned_right"=vH:=congrArg pkS (by decide +kernel:nmS.idxOf ("_law_turned_right":Str)=65)
theorem kY:T.S "_law_wheel_right"=rG:=congrArg pkS (by decide +kernel:nmS.idxOf ("_law_wheel_right":Str)=66)
theorem aEZ:T.S "law"=EW:=congrArg pkS (by decide +kernel:nmS.idxOf ("law":Str)=67)
theorem OE:T.gv "ONE"=FQ 1:=congrArg pkG (by decide +kernel:nmG.idxOf ("ONE":Str)=0)
theorem UA:T.gv "ZERO"=FQ 0:=congrArg pkG (by decide +kernel:nmG.idxOf ("ZERO":Str)=1)
theorem DZ:T.gv "MOST_GRADE"= .int 1000:=congrArg pkG (by decide +kernel:nmG.idxOf ("MOST_GRADE":Str)=2)
theorem rM:T.gv "Shade"= .cl "Shade":=congrArg pkG (by decide +kernel:nmG.idxOf ("Shade":Str)=3)
theorem ZT:T.gv "int"= .ty "int":=congrArg pkG (by decide +kernel:nmG.idxOf ("int":Str)=4)
theorem WZ:T.gv "bool"= .ty "bool":=congrArg pkG (by decide +kernel:nmG.idxOf ("bool":Str)=5)
theorem fO:T.gv "tuple"= .ty "tuple":=congrArg pkG (by decide +kernel:nmG.idxOf ("tuple":Str)=6)
theorem mS:T.gv "MOST_SHADES"= .int 60:=congrArg pkG (by decide +kernel:nmG.idxOf ("MOST_SHADES":Str)=7)
theorem mT:T.gv "MOST_WEIGHT"= .int 1000000:=congrArg pkG (by decide +kernel:nmG.idxOf ("MOST_WEIGHT":Str)=8)
theorem pR:T.gv "MOST_DEEDS"= .int 20:=congrArg pkG (by decide +kernel:nmG.idxOf ("MOST_DEEDS":Str)=9)
theorem aAT:T.gv "HALF"= .tup [.int 1,.int 2]:=congrArg pkG (by decide +kernel:nmG.idxOf ("HALF":Str)=10)
theorem tZ:T.gv "STRETCHES"= .tup [stV 0,stV 1,stV 2,stV 3,stV 4,stV 5]:=congrArg pkG (by decide +kernel:nmG.idxOf ("STRETCHES":Str)=11)
theorem aED:T.gv "str"= .ty "str":=congrArg pkG (by decide +kernel:nmG.idxOf ("str":Str)=12)
theorem hPT:PT T:={ is_whole:=wM,common:=IW,is_fraction:=mR,lowest:=FT,need_fractions:=jM,plus:=aAz,minus:=OD,times:=NQ,over:=XQ,below:=NS,nearest_whole:=uL,is_share:=wG,shade:=aCT,shadeI:=jH,is_shade:=yB,need_shade:=pO,shares_of:=uE,shade_of:=wP,is_grade:=LR,need_grade:=BP,is_step:=PN,need_step:=FP,printed:=RM,span_of:=RC,gv_ONE:=OE,gv_ZERO:=UA,gv_MOST_GRADE:=DZ,gv_Shade:=rM,cs:=by decide +kernel,fl_e:=by decide +kernel,fl_l:=by decide +kernel,fl_s:=by decide +kernel,ty_int:=ZT,ty_bool:=WZ,ty_tuple:=fO }
theorem hLT:LT T:={ cell:=GR,purse:=AO,pick:=FX,whole:=RY,low:=NZ,plus:=HM,minus:=AL,times:=BH,over:=UZ,below:=QV,is_fraction:=uJ,share:=AN,shares:=vX }
theorem hLM:LM T:={ made:=GH }
theorem iU:L10 T:={ fraction:=xQ,are_shades:=pM,is_weight:=uD,are_weights:=mQ,mean:=oQ,mix:=aFn,eqS:=mF,part_of:=AS,toward:=GN,lighter:=AX,darker:=IP,duller:=JJ,opposite:=yG,turned:=FW,is_by:=NR,is_deed:=AR,need_deeds:=pS,do_one:=GC,done:=aAX,less:=WS,falls:=NF,stretch_of:=oX,wheel_of:=vQ,alike:=BI,weights:=uA,mixedR:=kX,twice:=kZ,turnR:=jD,wheelR:=kY,gv_MS:=mS,gv_MW:=mT,gv_MD:=pR,gv_HALF:=aAT,gv_ST:=tZ,ty_str:=aED }
noncomputable def VX (a:Nat→Addr) (c:String):Addr:=if c="Shade" then a 56 else 0
theorem aX {a:Nat→Addr}:VX a "Shade"=a 56:=by unfold VX; simp
structure Tx (w:World) (K:W.Frag) (mg:Str→Option Value) (a:Nat→Addr) (d:Nat→FuncData) (v:Nat→Value):Prop where
  qa:aY K "_law_cell" "_law_cell" eO (.none) (a 0) (d 0)
  qb:mg "_law_cell"=some (.ref (a 0))
  qc:aY K "common" "common" eH (.none) (a 1) (d 1)
  qd:mg "common"=some (.ref (a 1))
  qe:aY K "is_whole" "is_whole" cC (.none) (a 2) (d 2)
  qf:mg "is_whole"=some (.ref (a 2))
  qg:aY K "is_fraction" "is_fraction" bB (.none) (a 3) (d 3)
  qh:mg "is_fraction"=some (.ref (a 3))
  qi:aY K "is_share" "is_share" bX (.none) (a 4) (d 4)
  qj:mg "is_share"=some (.ref (a 4))
  qk:aY K "__init__" "Shade.__init__" aO (.none) (a 5) (d 5)
  ql:aY K "_law_pick" "_law_pick" eQ (.none) (a 6) (d 6)
  qm:mg "_law_pick"=some (.ref (a 6))
  qo:aY K "_law_made" "_law_made" eK (.none) (a 7) (d 7)
  qp:mg "_law_made"=some (.ref (a 7))
  qq:aY K "is_shade" "is_shade" cF (.none) (a 8) (d 8)
  qr:mg "is_shade"=some (.ref (a 8))
  qt:aY K "need_shade" "need_shade" bI (.none) (a 9) (d 9)
  qu:mg "need_shade"=some (.ref (a 9))
  qw:aY K "shares_of" "shares_of" bP (.none) (a 10) (d 10)
  qx:mg "shares_of"=some (.ref (a 10))
  qy:aY K "__eq__" "Shade.__eq__" aZ (.none) (a 11) (d 11)
  qz:zZ K (a 56) "__eq__" (a 11)
  qA:aY K "_law_alike" "_law_alike" dD (.none) (a 12) (d 12)
  qB:mg "_law_alike"=some (.ref (a 12))
  qC:aY K "lowest" "lowest" eN (.none) (a 13) (d 13)
  qD:mg "lowest"=some (.ref (a 13))
  qE:aY K "need_fractions" "need_fractions" aP (.none) (a 14) (d 14)
  qF:mg "need_fractions"=some (.ref (a 14))
  qG:aY K "minus" "minus" gN (.none) (a 15) (d 15)
  qH:mg "minus"=some (.ref (a 15))
  qI:aY K "shade_of" "shade_of" bZ (.none) (a 16) (d 16)
  qJ:mg "shade_of"=some (.ref (a 16))
  qK:aY K "opposite" "opposite" bW (.none) (a 17) (d 17)
  qL:mg "opposite"=some (.ref (a 17))
  qM:aY K "part_of" "part_of" dF (.none) (a 18) (d 18)
  qN:mg "part_of"=some (.ref (a 18))
  qO:aY K "plus" "plus" kT (.none) (a 19) (d 19)
  qP:mg "plus"=some (.ref (a 19))
  qQ:aY K "times" "times" gJ (.none) (a 20) (d 20)
  qR:mg "times"=some (.ref (a 20))
  qS:aY K "toward" "toward" eF (.none) (a 21) (d 21)
  qT:mg "toward"=some (.ref (a 21))
  qU:aY K "darker" "darker" eT (v 22) (a 22) (d 22)
  qV:∃ (b:Addr) (oc:Value) (od:Option Addr) (n:Nat) (sl:Array (Option Value)) ,v 22= .ref b∧K.lookup b=some ⟨oc,od,.seq #[.none] n,sl⟩
  qW:mg "darker"=some (.ref (a 22))
  qX:aY K "over" "over" kN (.none) (a 23) (d 23)
  qY:mg "over"=some (.ref (a 23))
  qZ:aY K "duller" "duller" eU (v 24) (a 24) (d 24)
  qz1:∃ (b:Addr) (oc:Value) (od:Option Addr) (n:Nat) (sl:Array (Option Value)) ,v 24= .ref b∧K.lookup b=some ⟨oc,od,.seq #[.none] n,sl⟩
  qz2:mg "duller"=some (.ref (a 24))
  qz3:aY K "lighter" "lighter" dG (v 25) (a 25) (d 25)
  qz4:∃ (b:Addr) (oc:Value) (od:Option Addr) (n:Nat) (sl:Array (Option Value)) ,v 25= .ref b∧K.lookup b=some ⟨oc,od,.seq #[.none] n,sl⟩
  qz5:mg "lighter"=some (.ref (a 25))
  qz6:aY K "turned" "turned" eJ (v 26) (a 26) (d 26)
  qz7:∃ (b:Addr) (oc:Value) (od:Option Addr) (n:Nat) (sl:Array (Option Value)) ,v 26= .ref b∧K.lookup b=some ⟨oc,od,.seq #[.none] n,sl⟩
  qz8:mg "turned"=some (.ref (a 26))
  qz9:aY K "do_one" "do_one" eP (.none) (a 27) (d 27)
  qz10:mg "do_one"=some (.ref (a 27))
  qz11:aY K "is_by" "is_by" gM (.none) (a 28) (d 28)
  qz12:mg "is_by"=some (.ref (a 28))
  qz13:aY K "is_deed" "is_deed" dH (.none) (a 29) (d 29)
  qz14:mg "is_deed"=some (.ref (a 29))
  qz15:aY K "need_deeds" "need_deeds" bH (.none) (a 30) (d 30)
  qz16:mg "need_deeds"=some (.ref (a 30))
  qz17:aY K "done" "done" jY (.none) (a 31) (d 31)
  qz18:mg "done"=some (.ref (a 31))
  qz19:aY K "are_shades" "are_shades" bF (.none) (a 32) (d 32)
  qz20:mg "are_shades"=some (.ref (a 32))
  qz21:aY K "is_weight" "is_weight" bQ (.none) (a 33) (d 33)
  qz22:mg "is_weight"=some (.ref (a 33))
  qz23:aY K "are_weights" "are_weights" bC (.none) (a 34) (d 34)
  qz24:mg "are_weights"=some (.ref (a 34))
  qz25:aY K "fraction" "fraction" cA (v 35) (a 35) (d 35)
  qz26:∃ (b:Addr) (oc:Value) (od:Option Addr) (n:Nat) (sl:Array (Option Value)) (t0:Tok),v 35= .ref b∧K.lookup b=some ⟨oc,od,.seq #[.int 1 t0] n,sl⟩
  qz27:mg "fraction"=some (.ref (a 35))
  qz28:aY K "mean_share" "mean_share" bG (.none) (a 36) (d 36)
  qz29:mg "mean_share"=some (.ref (a 36))
  qz30:aY K "mix" "mix" lB (v 37) (a 37) (d 37)
  qz31:∃ (b:Addr) (oc:Value) (od:Option Addr) (n:Nat) (sl:Array (Option Value)) ,v 37= .ref b∧K.lookup b=some ⟨oc,od,.seq #[.none] n,sl⟩
  qz32:mg "mix"=some (.ref (a 37))
  qz33:aY K "_law_mixed_right" "_law_mixed_right" aU (.none) (a 38) (d 38)
  qz34:mg "_law_mixed_right"=some (.ref (a 38))
  qz35:aY K "_law_purse" "_law_purse" dE (.none) (a 39) (d 39)
  qz36:mg "_law_purse"=some (.ref (a 39))
  qz37:aY K "_law_low" "_law_low" gI (.none) (a 40) (d 40)
  qz38:mg "_law_low"=some (.ref (a 40))
  qz39:aY K "_law_share" "_law_share" cZ (.none) (a 41) (d 41)
  qz40:mg "_law_share"=some (.ref (a 41))
  qz41:aY K "_law_shares" "_law_shares" cH (.none) (a 42) (d 42)
  qz42:mg "_law_shares"=some (.ref (a 42))
  qz43:aY K "_law_turned_right" "_law_turned_right" aQ (.none) (a 43) (d 43)
  qz44:mg "_law_turned_right"=some (.ref (a 43))
  qz45:aY K "_law_minus" "_law_minus" dI (.none) (a 44) (d 44)
  qz46:mg "_law_minus"=some (.ref (a 44))
  qz47:aY K "_law_plus" "_law_plus" eR (.none) (a 45) (d 45)
  qz48:mg "_law_plus"=some (.ref (a 45))
  qz49:aY K "_law_times" "_law_times" dA (.none) (a 46) (d 46)
  qz50:mg "_law_times"=some (.ref (a 46))
  qz51:aY K "_law_twice_right" "_law_twice_right" aT (.none) (a 47) (d 47)
  qz52:mg "_law_twice_right"=some (.ref (a 47))
  qz53:aY K "_law_weights" "_law_weights" bM (.none) (a 48) (d 48)
  qz54:mg "_law_weights"=some (.ref (a 48))
  qz55:aY K "less" "less" kJ (.none) (a 49) (d 49)
  qz56:mg "less"=some (.ref (a 49))
  qz57:aY K "below" "below" gK (.none) (a 50) (d 50)
  qz58:mg "below"=some (.ref (a 50))
  qz59:aY K "falls" "falls" gO (.none) (a 51) (d 51)
  qz60:mg "falls"=some (.ref (a 51))
  qz61:aY K "stretch_of" "stretch_of" bJ (.none) (a 52) (d 52)
  qz62:mg "stretch_of"=some (.ref (a 52))
  qz63:aY K "wheel_of" "wheel_of" bY (.none) (a 53) (d 53)
  qz64:mg "wheel_of"=some (.ref (a 53))
  qz65:aY K "_law_wheel_right" "_law_wheel_right" aS (.none) (a 54) (d 54)
  qz66:mg "_law_wheel_right"=some (.ref (a 54))
  qz67:aY K "law" "law" lO (.none) (a 55) (d 55)
  qz68:mg "law"=some (.ref (a 55))
  qz69:aB9 K (a 56)
  qz70:mg "Shade"=some (.ref (a 56))
  qz71:Mk K (a 56) (a 5)
  qz72:∀ n∈aAy,W.kitOne K (.type n) (.ref (a 56))=some false
  qz73:∀ n∈pA,W.kitOne K (.ref (a 56)) (.type n)=some false
  na_Shade_ember:gF K (a 56) "ember"
  na_Shade_leaf:gF K (a 56) "leaf"
  na_Shade_sky:gF K (a 56) "sky"
  qz74:∃ a t0 t1 n sl,mg "HALF"=some (.ref a)∧K.lookup a=some ⟨.type "tuple",none,.seq #[.int 1 t0,.int 2 t1] n,sl⟩
  qz75:∃ t,mg "MOST_DEEDS"=some (.int 20 t)
  qz76:∃ t,mg "MOST_SHADES"=some (.int 60 t)
  qz77:∃ t,mg "MOST_WEIGHT"=some (.int 1000000 t)
  qz78:∃ a t0 t1 n sl,mg "ONE"=some (.ref a)∧K.lookup a=some ⟨.type "tuple",none,.seq #[.int 1 t0,.int 1 t1] n,sl⟩
  qz79:∃ b b0 b1 b2 b3 b4 b5 n sl,mg "STRETCHES"=some (.ref b)∧K.lookup b=some ⟨.type "tuple",none,.seq #[.ref b0,.ref b1,.ref b2,.ref b3,.ref b4,.ref b5] n,sl⟩∧pJ K b0 [0,2,1,0,1]∧pJ K b1 [1,2,0,2,-1]∧pJ K b2 [1,0,2,2,1]∧pJ K b3 [2,0,1,4,-1]∧pJ K b4 [2,1,0,4,1]∧pJ K b5 [0,1,2,6,-1]
  qz80:∃ a t0 t1 n sl,mg "ZERO"=some (.ref a)∧K.lookup a=some ⟨.type "tuple",none,.seq #[.int 0 t0,.int 1 t1] n,sl⟩
  qz81:∃ (b:Addr) (n:Nat) (t0 t1 t2 t3:Tok),mg "BY_WORD"=some (.ref b)∧K.lookup b=some ⟨.type "dict",none,.dict (([("lighter",t0,.ref (a 25)),("darker",t1,.ref (a 22)),("duller",t2,.ref (a 24)),("turned",t3,.ref (a 26))]:List (Str×Tok×Value)).map fun p=>(⟨PyData.keyHash w.params p.1,.str p.1 p.2.1,p.2.2⟩:DictEntry)).toArray n, #[]⟩∧(b == sysModules)=false
  qz82:mg "abs"=none
  qz83:mg "all"=none
  qz84:mg "bool"=none
  qz85:mg "enumerate"=none
  qz86:mg "int"=none
  qz87:mg "isinstance"=none
  qz88:mg "len"=none
  qz89:mg "max"=none
  qz90:mg "min"=none
  qz91:mg "range"=none
  qz92:mg "str"=none
  qz93:mg "sum"=none
  qz94:mg "tuple"=none
  qz95:mg "zip"=none
variable {P:Program} {w:World} {K:W.Frag} {mg:Str→Option Value} {base:Heap} {a:Nat→Addr} {d:Nat→FuncData} {v:Nat→Value}
noncomputable def BZ (a:Nat→Addr) (f:Str):Addr:=if f=("darker":Str) then a 22 else if f=("duller":Str) then a 24 else if f=("lighter":Str) then a 25 else if f=("turned":Str) then a 26 else 0
theorem kL {a:Nat→Addr}:BZ a "darker"=a 22:=by unfold BZ; rw [if_pos rfl]
theorem kF {a:Nat→Addr}:BZ a "duller"=a 24:=by unfold BZ; rw [if_neg (by decide +kernel)]; rw [if_pos rfl]
theorem iG {a:Nat→Addr}:BZ a "lighter"=a 25:=by unfold BZ; rw [if_neg (by decide +kernel)]; rw [if_neg (by decide +kernel)]; rw [if_pos rfl]
theorem kG {a:Nat→Addr}:BZ a "turned"=a 26:=by unfold BZ; rw [if_neg (by decide +kernel)]; rw [if_neg (by decide +kernel)]; rw [if_neg (by decide +kernel)]; rw [if_pos rfl]
theorem lnS {n:Nat} {l:List Value} (h:l.length=n + 1):∃ a t,l=a :: t∧t.length=n:=by
  cases l with
  | nil=>cases h
  | cons a t=>exact ⟨a,t,rfl,Nat.succ.inj h⟩
theorem ln0 {l:List Value} (h:l.length=0):l=[]:=List.eq_nil_of_length_eq_zero h
theorem ln1 {l:List Value} (h:l.length=1):∃ a,l=[a]:=by
  obtain ⟨a,t,rfl,h2⟩:=lnS h
  exact ⟨a,by rw [ln0 h2]⟩
theorem ln2 {l:List Value} (h:l.length=2):∃ a b,l=[a,b]:=by
  obtain ⟨a,t,rfl,h2⟩:=lnS h
  obtain ⟨b,rfl⟩:=ln1 h2
  exact ⟨a,b,rfl⟩
theorem ln3 {l:List Value} (h:l.length=3):∃ a b c,l=[a,b,c]:=by
  obtain ⟨a,t,rfl,h2⟩:=lnS h
  obtain ⟨b,c,rfl⟩:=ln2 h2
  exact ⟨a,b,c,rfl⟩
theorem ln4 {l:List Value} (h:l.length=4):∃ a b c d,l=[a,b,c,d]:=by
  obtain ⟨a,t,rfl,h2⟩:=lnS h
  obtain ⟨b,c,d,rfl⟩:=ln3 h2
  exact ⟨a,b,c,d,rfl⟩
noncomputable abbrev Ew (K:W.Frag) (a:Nat→Addr):Ev:={ K:=K,cls:=VX a,fna:=BZ a }
theorem aBp (X:Tx w K mg a d v):L2.aE K (d 0) ["_law_script","_law_k"] []:=X.qa.binds fun _ _ _ _ _ _ _ us _ hl=>by obtain ⟨_,_,rfl⟩:=ln2 hl; exact .of_eq rfl
theorem GE (X:Tx w K mg a d v):L2.aE K (d 1) ["one","other"] []:=X.qc.binds fun _ _ _ _ _ _ _ us _ hl=>by obtain ⟨_,_,rfl⟩:=ln2 hl; exact .of_eq rfl
theorem KJ (X:Tx w K mg a d v):L2.aE K (d 2) ["thing"] []:=X.qe.binds fun _ _ _ _ _ _ _ us _ hl=>by obtain ⟨_,rfl⟩:=ln1 hl; exact .of_eq rfl
theorem mV (X:Tx w K mg a d v):L2.aE K (d 3) ["thing"] []:=X.qg.binds fun _ _ _ _ _ _ _ us _ hl=>by obtain ⟨_,rfl⟩:=ln1 hl; exact .of_eq rfl
theorem nN (X:Tx w K mg a d v):L2.aE K (d 4) ["thing"] []:=X.qi.binds fun _ _ _ _ _ _ _ us _ hl=>by obtain ⟨_,rfl⟩:=ln1 hl; exact .of_eq rfl
theorem jG (X:Tx w K mg a d v):L2.aE K (d 5) ["self","ember","leaf","sky"] []:=X.qk.binds fun _ _ _ _ _ _ _ us _ hl=>by obtain ⟨_,_,_,_,rfl⟩:=ln4 hl; exact .of_eq rfl
theorem XM (X:Tx w K mg a d v):L2.aE K (d 6) ["_law_purse_here","_law_many"] []:=X.ql.binds fun _ _ _ _ _ _ _ us _ hl=>by obtain ⟨_,_,rfl⟩:=ln2 hl; exact .of_eq rfl
theorem WW (X:Tx w K mg a d v):L2.aE K (d 7) ["_law_purse_here","_law_row"] []:=X.qo.binds fun _ _ _ _ _ _ _ us _ hl=>by obtain ⟨_,_,rfl⟩:=ln2 hl; exact .of_eq rfl
theorem nU (X:Tx w K mg a d v):L2.aE K (d 8) ["thing"] []:=X.qq.binds fun _ _ _ _ _ _ _ us _ hl=>by obtain ⟨_,rfl⟩:=ln1 hl; exact .of_eq rfl
theorem CI (X:Tx w K mg a d v):L2.aE K (d 9) ["thing"] []:=X.qt.binds fun _ _ _ _ _ _ _ us _ hl=>by obtain ⟨_,rfl⟩:=ln1 hl; exact .of_eq rfl
theorem IM (X:Tx w K mg a d v):L2.aE K (d 10) ["shade"] []:=X.qw.binds fun _ _ _ _ _ _ _ us _ hl=>by obtain ⟨_,rfl⟩:=ln1 hl; exact .of_eq rfl
theorem xG (X:Tx w K mg a d v):L2.aE K (d 11) ["self","other"] []:=X.qy.binds fun _ _ _ _ _ _ _ us _ hl=>by obtain ⟨_,_,rfl⟩:=ln2 hl; exact .of_eq rfl
theorem sP (X:Tx w K mg a d v):L2.aE K (d 12) ["_law_one","_law_other"] []:=X.qA.binds fun _ _ _ _ _ _ _ us _ hl=>by obtain ⟨_,_,rfl⟩:=ln2 hl; exact .of_eq rfl
theorem VY (X:Tx w K mg a d v):L2.aE K (d 13) ["top","bottom"] []:=X.qC.binds fun _ _ _ _ _ _ _ us _ hl=>by obtain ⟨_,_,rfl⟩:=ln2 hl; exact .of_eq rfl
theorem sY (X:Tx w K mg a d v):L2.aE K (d 14) ["things"] []:=X.qE.binds fun _ _ _ _ _ _ _ us _ hl=>by obtain ⟨_,rfl⟩:=ln1 hl; exact .of_eq rfl
theorem ED (X:Tx w K mg a d v):L2.aE K (d 15) ["one","other"] []:=X.qG.binds fun _ _ _ _ _ _ _ us _ hl=>by obtain ⟨_,_,rfl⟩:=ln2 hl; exact .of_eq rfl
theorem KY (X:Tx w K mg a d v):L2.aE K (d 16) ["shares"] []:=X.qI.binds fun _ _ _ _ _ _ _ us _ hl=>by obtain ⟨_,rfl⟩:=ln1 hl; exact .of_eq rfl
theorem nP (X:Tx w K mg a d v):L2.aE K (d 17) ["shade"] []:=X.qK.binds fun _ _ _ _ _ _ _ us _ hl=>by obtain ⟨_,rfl⟩:=ln1 hl; exact .of_eq rfl
theorem tM (X:Tx w K mg a d v):L2.aE K (d 18) ["by"] []:=X.qM.binds fun _ _ _ _ _ _ _ us _ hl=>by obtain ⟨_,rfl⟩:=ln1 hl; exact .of_eq rfl
theorem MM (X:Tx w K mg a d v):L2.aE K (d 19) ["one","other"] []:=X.qO.binds fun _ _ _ _ _ _ _ us _ hl=>by obtain ⟨_,_,rfl⟩:=ln2 hl; exact .of_eq rfl
theorem NY (X:Tx w K mg a d v):L2.aE K (d 20) ["one","other"] []:=X.qQ.binds fun _ _ _ _ _ _ _ us _ hl=>by obtain ⟨_,_,rfl⟩:=ln2 hl; exact .of_eq rfl
theorem yA (X:Tx w K mg a d v):L2.aE K (d 21) ["shade","goal","part"] []:=X.qS.binds fun _ _ _ _ _ _ _ us _ hl=>by obtain ⟨_,_,_,rfl⟩:=ln3 hl; exact .of_eq rfl
theorem WF (X:Tx w K mg a d v):L2.aE K (d 22) ["shade","by"] []:=by
  obtain ⟨b,oc,od,n,sl,e,hb⟩:=X.qV
  exact X.qU.binds fun _ _ _ _ _ _ _ us hK hl=>by obtain ⟨_,_,rfl⟩:=ln2 hl; exact W.binds_K hK e hb rfl rfl rfl
theorem aBj (X:Tx w K mg a d v):L2.aE K (d 23) ["one","other"] []:=X.qX.binds fun _ _ _ _ _ _ _ us _ hl=>by obtain ⟨_,_,rfl⟩:=ln2 hl; exact .of_eq rfl
theorem wT (X:Tx w K mg a d v):L2.aE K (d 24) ["shade","by"] []:=by
  obtain ⟨b,oc,od,n,sl,e,hb⟩:=X.qz1
  exact X.qZ.binds fun _ _ _ _ _ _ _ us hK hl=>by obtain ⟨_,_,rfl⟩:=ln2 hl; exact W.binds_K hK e hb rfl rfl rfl
theorem sR (X:Tx w K mg a d v):L2.aE K (d 25) ["shade","by"] []:=by
  obtain ⟨b,oc,od,n,sl,e,hb⟩:=X.qz4
  exact X.qz3.binds fun _ _ _ _ _ _ _ us hK hl=>by obtain ⟨_,_,rfl⟩:=ln2 hl; exact W.binds_K hK e hb rfl rfl rfl
theorem XL (X:Tx w K mg a d v):L2.aE K (d 26) ["shade","by"] []:=by
  obtain ⟨b,oc,od,n,sl,e,hb⟩:=X.qz7
  exact X.qz6.binds fun _ _ _ _ _ _ _ us hK hl=>by obtain ⟨_,_,rfl⟩:=ln2 hl; exact W.binds_K hK e hb rfl rfl rfl
theorem XJ (X:Tx w K mg a d v):L2.aE K (d 27) ["shade","deed"] []:=X.qz9.binds fun _ _ _ _ _ _ _ us _ hl=>by obtain ⟨_,_,rfl⟩:=ln2 hl; exact .of_eq rfl
theorem aC8 (X:Tx w K mg a d v):L2.aE K (d 28) ["word","thing"] []:=X.qz11.binds fun _ _ _ _ _ _ _ us _ hl=>by obtain ⟨_,_,rfl⟩:=ln2 hl; exact .of_eq rfl
theorem RT (X:Tx w K mg a d v):L2.aE K (d 29) ["thing"] []:=X.qz13.binds fun _ _ _ _ _ _ _ us _ hl=>by obtain ⟨_,rfl⟩:=ln1 hl; exact .of_eq rfl
theorem CO (X:Tx w K mg a d v):L2.aE K (d 30) ["deeds"] []:=X.qz15.binds fun _ _ _ _ _ _ _ us _ hl=>by obtain ⟨_,rfl⟩:=ln1 hl; exact .of_eq rfl
theorem aGU (X:Tx w K mg a d v):L2.aE K (d 31) ["shade","deeds"] []:=X.qz17.binds fun _ _ _ _ _ _ _ us _ hl=>by obtain ⟨_,_,rfl⟩:=ln2 hl; exact .of_eq rfl
theorem FI (X:Tx w K mg a d v):L2.aE K (d 32) ["thing","least","most"] []:=X.qz19.binds fun _ _ _ _ _ _ _ us _ hl=>by obtain ⟨_,_,_,rfl⟩:=ln3 hl; exact .of_eq rfl
theorem GZ (X:Tx w K mg a d v):L2.aE K (d 33) ["thing","least"] []:=X.qz21.binds fun _ _ _ _ _ _ _ us _ hl=>by obtain ⟨_,_,rfl⟩:=ln2 hl; exact .of_eq rfl
theorem yN (X:Tx w K mg a d v):L2.aE K (d 34) ["thing","many"] []:=X.qz23.binds fun _ _ _ _ _ _ _ us _ hl=>by obtain ⟨_,_,rfl⟩:=ln2 hl; exact .of_eq rfl
theorem MO (X:Tx w K mg a d v):L2.aE K (d 35) ["top","bottom"] []:=by
  obtain ⟨b,oc,od,n,sl,t0,e,hb⟩:=X.qz26
  exact X.qz25.binds fun _ _ _ _ _ _ _ us hK hl=>by obtain ⟨_,_,rfl⟩:=ln2 hl; exact W.binds_K hK e hb rfl rfl rfl
theorem CM (X:Tx w K mg a d v):L2.aE K (d 36) ["shares","weights"] []:=X.qz28.binds fun _ _ _ _ _ _ _ us _ hl=>by obtain ⟨_,_,rfl⟩:=ln2 hl; exact .of_eq rfl
theorem aI8 (X:Tx w K mg a d v):L2.aE K (d 37) ["shades","weights"] []:=by
  obtain ⟨b,oc,od,n,sl,e,hb⟩:=X.qz31
  exact X.qz30.binds fun _ _ _ _ _ _ _ us hK hl=>by obtain ⟨_,_,rfl⟩:=ln2 hl; exact W.binds_K hK e hb rfl rfl rfl
theorem uP (X:Tx w K mg a d v):L2.aE K (d 38) ["_law_some","_law_weights_here","_law_by","_law_turns"] []:=X.qz33.binds fun _ _ _ _ _ _ _ us _ hl=>by obtain ⟨_,_,_,_,rfl⟩:=ln4 hl; exact .of_eq rfl
theorem RJ (X:Tx w K mg a d v):L2.aE K (d 39) ["_law_cell_here"] []:=X.qz35.binds fun _ _ _ _ _ _ _ us _ hl=>by obtain ⟨_,rfl⟩:=ln1 hl; exact .of_eq rfl
theorem aBD (X:Tx w K mg a d v):L2.aE K (d 40) ["_law_top","_law_bottom"] []:=X.qz37.binds fun _ _ _ _ _ _ _ us _ hl=>by obtain ⟨_,_,rfl⟩:=ln2 hl; exact .of_eq rfl
theorem AV (X:Tx w K mg a d v):L2.aE K (d 41) ["_law_purse_here"] []:=X.qz39.binds fun _ _ _ _ _ _ _ us _ hl=>by obtain ⟨_,rfl⟩:=ln1 hl; exact .of_eq rfl
theorem KS (X:Tx w K mg a d v):L2.aE K (d 42) ["_law_purse_here"] []:=X.qz41.binds fun _ _ _ _ _ _ _ us _ hl=>by obtain ⟨_,rfl⟩:=ln1 hl; exact .of_eq rfl
theorem tU (X:Tx w K mg a d v):L2.aE K (d 43) ["_law_one","_law_by","_law_turns","_law_more"] []:=X.qz43.binds fun _ _ _ _ _ _ _ us _ hl=>by obtain ⟨_,_,_,_,rfl⟩:=ln4 hl; exact .of_eq rfl
theorem AM (X:Tx w K mg a d v):L2.aE K (d 44) ["_law_a","_law_b"] []:=X.qz45.binds fun _ _ _ _ _ _ _ us _ hl=>by obtain ⟨_,_,rfl⟩:=ln2 hl; exact .of_eq rfl
theorem FS (X:Tx w K mg a d v):L2.aE K (d 45) ["_law_a","_law_b"] []:=X.qz47.binds fun _ _ _ _ _ _ _ us _ hl=>by obtain ⟨_,_,rfl⟩:=ln2 hl; exact .of_eq rfl
theorem AJ (X:Tx w K mg a d v):L2.aE K (d 46) ["_law_a","_law_b"] []:=X.qz49.binds fun _ _ _ _ _ _ _ us _ hl=>by obtain ⟨_,_,rfl⟩:=ln2 hl; exact .of_eq rfl
theorem uI (X:Tx w K mg a d v):L2.aE K (d 47) ["_law_one","_law_by","_law_more"] []:=X.qz51.binds fun _ _ _ _ _ _ _ us _ hl=>by obtain ⟨_,_,_,rfl⟩:=ln3 hl; exact .of_eq rfl
theorem GU (X:Tx w K mg a d v):L2.aE K (d 48) ["_law_purse_here","_law_many"] []:=X.qz53.binds fun _ _ _ _ _ _ _ us _ hl=>by obtain ⟨_,_,rfl⟩:=ln2 hl; exact .of_eq rfl
theorem aGB (X:Tx w K mg a d v):L2.aE K (d 49) ["one","other"] []:=X.qz55.binds fun _ _ _ _ _ _ _ us _ hl=>by obtain ⟨_,_,rfl⟩:=ln2 hl; exact .of_eq rfl
theorem aDp (X:Tx w K mg a d v):L2.aE K (d 50) ["one","other"] []:=X.qz57.binds fun _ _ _ _ _ _ _ us _ hl=>by obtain ⟨_,_,rfl⟩:=ln2 hl; exact .of_eq rfl
theorem aCt (X:Tx w K mg a d v):L2.aE K (d 51) ["shares","stretch"] []:=X.qz59.binds fun _ _ _ _ _ _ _ us _ hl=>by obtain ⟨_,_,rfl⟩:=ln2 hl; exact .of_eq rfl
theorem EF (X:Tx w K mg a d v):L2.aE K (d 52) ["shares"] []:=X.qz61.binds fun _ _ _ _ _ _ _ us _ hl=>by obtain ⟨_,rfl⟩:=ln1 hl; exact .of_eq rfl
theorem LQ (X:Tx w K mg a d v):L2.aE K (d 53) ["shade"] []:=X.qz63.binds fun _ _ _ _ _ _ _ us _ hl=>by obtain ⟨_,rfl⟩:=ln1 hl; exact .of_eq rfl
theorem uS (X:Tx w K mg a d v):L2.aE K (d 54) ["_law_one","_law_by"] []:=X.qz65.binds fun _ _ _ _ _ _ _ us _ hl=>by obtain ⟨_,_,rfl⟩:=ln2 hl; exact .of_eq rfl
theorem iE (X:Tx w K mg a d v):jI K (d 5) ["self","ember","leaf","sky"] 1 ["sky","ember","leaf"] [.arg 0,.arg 2,.arg 3,.arg 1]:=by
  refine X.qk.sh rfl fun _ _ _ _ _ _ _ us ws hK hl hl2=>?_
  obtain ⟨u0,rfl⟩:=ln1 hl
  obtain ⟨w0,w1,w2,rfl⟩:=ln3 hl2
  refine ⟨[u0,w1,w2,w0],.of_eq rfl,fun vs zs r rz=>?_⟩
  obtain _ | ⟨r_u0,r⟩:=r
  cases r
  obtain _ | ⟨r_w0,rz⟩:=rz
  obtain _ | ⟨r_w1,rz⟩:=rz
  obtain _ | ⟨r_w2,rz⟩:=rz
  cases rz
  exact (.cons r_u0 (.cons r_w1 (.cons r_w2 (.cons r_w0 .nil))))
theorem PR (X:Tx w K mg a d v):jI K (d 37) ["shades","weights"] 1 [] [.arg 0,.non]:=by
  obtain ⟨b,oc,od,n,sl,e,hb⟩:=X.qz31
  refine X.qz30.sh rfl fun _ _ _ _ _ _ _ us ws hK hl hl2=>?_
  obtain ⟨u0,rfl⟩:=ln1 hl
  obtain rfl:=ln0 hl2
  refine ⟨[u0,(.none)],W.binds_K hK e hb rfl rfl rfl,fun vs zs r rz=>?_⟩
  obtain _ | ⟨r_u0,r⟩:=r
  cases r
  cases rz
  exact (.cons r_u0 (.cons rfl .nil))
theorem EL (X:Tx w K mg a d v):jI K (d 22) ["shade","by"] 1 [] [.arg 0,.non]:=by
  obtain ⟨b,oc,od,n,sl,e,hb⟩:=X.qV
  refine X.qU.sh rfl fun _ _ _ _ _ _ _ us ws hK hl hl2=>?_
  obtain ⟨u0,rfl⟩:=ln1 hl
  obtain rfl:=ln0 hl2
  refine ⟨[u0,(.none)],W.binds_K hK e hb rfl rfl rfl,fun vs zs r rz=>?_⟩
  obtain _ | ⟨r_u0,r⟩:=r
  cases r
  cases rz
  exact (.cons r_u0 (.cons rfl .nil))
theorem EO (X:Tx w K mg a d v):jI K (d 22) ["shade","by"] 2 [] [.arg 0,.arg 1]:=by
  obtain ⟨b,oc,od,n,sl,e,hb⟩:=X.qV
  refine X.qU.sh rfl fun _ _ _ _ _ _ _ us ws hK hl hl2=>?_
  obtain ⟨u0,u1,rfl⟩:=ln2 hl
  obtain rfl:=ln0 hl2
  refine ⟨[u0,u1],W.binds_K hK e hb rfl rfl rfl,fun vs zs r rz=>?_⟩
  obtain _ | ⟨r_u0,r⟩:=r
  obtain _ | ⟨r_u1,r⟩:=r
  cases r
  cases rz
  exact (.cons r_u0 (.cons r_u1 .nil))
theorem CJ (X:Tx w K mg a d v):jI K (d 24) ["shade","by"] 1 [] [.arg 0,.non]:=by
  obtain ⟨b,oc,od,n,sl,e,hb⟩:=X.qz1
  refine X.qZ.sh rfl fun _ _ _ _ _ _ _ us ws hK hl hl2=>?_
  obtain ⟨u0,rfl⟩:=ln1 hl
  obtain rfl:=ln0 hl2
  refine ⟨[u0,(.none)],W.binds_K hK e hb rfl rfl rfl,fun vs zs r rz=>?_⟩
  obtain _ | ⟨r_u0,r⟩:=r
  cases r
  cases rz
  exact (.cons r_u0 (.cons rfl .nil))
theorem CF (X:Tx w K mg a d v):jI K (d 24) ["shade","by"] 2 [] [.arg 0,.arg 1]:=by
  obtain ⟨b,oc,od,n,sl,e,hb⟩:=X.qz1
  refine X.qZ.sh rfl fun _ _ _ _ _ _ _ us ws hK hl hl2=>?_
  obtain ⟨u0,u1,rfl⟩:=ln2 hl
  obtain rfl:=ln0 hl2
  refine ⟨[u0,u1],W.binds_K hK e hb rfl rfl rfl,fun vs zs r rz=>?_⟩
  obtain _ | ⟨r_u0,r⟩:=r
  obtain _ | ⟨r_u1,r⟩:=r
  cases r
  cases rz
  exact (.cons r_u0 (.cons r_u1 .nil))
theorem zU (X:Tx w K mg a d v):jI K (d 25) ["shade","by"] 1 [] [.arg 0,.non]:=by
  obtain ⟨b,oc,od,n,sl,e,hb⟩:=X.qz4
  refine X.qz3.sh rfl fun _ _ _ _ _ _ _ us ws hK hl hl2=>?_
  obtain ⟨u0,rfl⟩:=ln1 hl
  obtain rfl:=ln0 hl2
  refine ⟨[u0,(.none)],W.binds_K hK e hb rfl rfl rfl,fun vs zs r rz=>?_⟩
  obtain _ | ⟨r_u0,r⟩:=r
  cases r
  cases rz
  exact (.cons r_u0 (.cons rfl .nil))
theorem yT (X:Tx w K mg a d v):jI K (d 25) ["shade","by"] 2 [] [.arg 0,.arg 1]:=by
  obtain ⟨b,oc,od,n,sl,e,hb⟩:=X.qz4
  refine X.qz3.sh rfl fun _ _ _ _ _ _ _ us ws hK hl hl2=>?_
  obtain ⟨u0,u1,rfl⟩:=ln2 hl
  obtain rfl:=ln0 hl2
  refine ⟨[u0,u1],W.binds_K hK e hb rfl rfl rfl,fun vs zs r rz=>?_⟩
  obtain _ | ⟨r_u0,r⟩:=r
  obtain _ | ⟨r_u1,r⟩:=r
  cases r
  cases rz
  exact (.cons r_u0 (.cons r_u1 .nil))
theorem CW (X:Tx w K mg a d v):jI K (d 26) ["shade","by"] 1 [] [.arg 0,.non]:=by
  obtain ⟨b,oc,od,n,sl,e,hb⟩:=X.qz7
  refine X.qz6.sh rfl fun _ _ _ _ _ _ _ us ws hK hl hl2=>?_
  obtain ⟨u0,rfl⟩:=ln1 hl
  obtain rfl:=ln0 hl2
  refine ⟨[u0,(.none)],W.binds_K hK e hb rfl rfl rfl,fun vs zs r rz=>?_⟩
  obtain _ | ⟨r_u0,r⟩:=r
  cases r
  cases rz
  exact (.cons r_u0 (.cons rfl .nil))
theorem DK (X:Tx w K mg a d v):jI K (d 26) ["shade","by"] 2 [] [.arg 0,.arg 1]:=by
  obtain ⟨b,oc,od,n,sl,e,hb⟩:=X.qz7
  refine X.qz6.sh rfl fun _ _ _ _ _ _ _ us ws hK hl hl2=>?_
  obtain ⟨u0,u1,rfl⟩:=ln2 hl
  obtain rfl:=ln0 hl2
  refine ⟨[u0,u1],W.binds_K hK e hb rfl rfl rfl,fun vs zs r rz=>?_⟩
  obtain _ | ⟨r_u0,r⟩:=r
  obtain _ | ⟨r_u1,r⟩:=r
  cases r
  cases rz
  exact (.cons r_u0 (.cons r_u1 .nil))
noncomputable abbrev FO (P:Program) (w:World) (K:W.Frag) (mg:Str→Option Value) (base:Heap) (a:Nat→Addr) (d:Nat→FuncData) (n i:Nat) (ps:List Str) (x:Str):Prop:=cJ P w K mg base CX0 n (a i) (d i) ps (fA (Ew K a) (T.S x))
theorem ck (X:Tx w K mg a d v):Ck K (Ew K a) T:=by
  refine ⟨rfl,⟨?_, ?_, ?_, ?_⟩, ?_⟩
  · exact ac (by rw [show (Ew K a).cls "Shade"=a 56 from aX]; exact X.qz69) (an)
  · exact ac (by rw [show (Ew K a).cls "Shade"=a 56 from aX]; exact X.qz72) (an)
  · exact ac (by rw [show (Ew K a).cls "Shade"=a 56 from aX]; exact X.qz73) (an)
  · exact ac (ac (fun h=>absurd rfl h) (an)) (an)
  · intro c f h
    have key:∀ p∈T.fl,Cls K ((Ew K a).cls p.1)∧gF K ((Ew K a).cls p.1) p.2:=ac (by dsimp only; rw [aX]; exact ⟨X.qz69.cl,X.na_Shade_ember⟩) (ac (by dsimp only; rw [aX]; exact ⟨X.qz69.cl,X.na_Shade_leaf⟩) (ac (by dsimp only; rw [aX]; exact ⟨X.qz69.cl,X.na_Shade_sky⟩) (an)))
    exact key (c,f) h
local macro_rules | `(tactic| walk_at "sl") => `(tactic| (intro xs G Q h; repeat (first | exact (congrArg List.length h.1).trans rfl | (obtain ⟨_, h⟩ := h))))
theorem SA (X:Tx w K mg a d v):Gf P w K mg base (Ew K a) T 0 xO:=
  ⟨an,an,an,an,an,an,ac (X.qz88) (an),an,an,an,an,an,an,an⟩
theorem QK (X:Tx w K mg a d v):FO P w K mg base a d 2 0 ["_law_script","_law_k"] "_law_cell":=by
  rw [FO,GR]; exact aJ X.qa SK (ck X) (SA X ) QZ (by walk_at "sl") (aAg)
theorem PY (X:Tx w K mg a d v):Gf P w K mg base (Ew K a) T 0 xH:=
  ⟨an,an,an,an,an,an,an,an,an,an,an,an,an,an⟩
theorem AT (X:Tx w K mg a d v):FO P w K mg base a d 2 1 ["one","other"] "common":=by
  rw [FO,IW]; exact aJ X.qc SC (ck X) (PY X ) RH (by walk_at "sl") (XZ hPT)
theorem IN (X:Tx w K mg a d v):Gf P w K mg base (Ew K a) T 0 nM:=
  ⟨an,an,an,an,an,ac (⟨X.qz84,⟨"bool",PyProof.Rows.boot_bool,WZ⟩,by decide +kernel⟩) (ac (⟨X.qz86,⟨"int",PyProof.Rows.boot_int,ZT⟩,by decide +kernel⟩) (an)),ac (X.qz87) (an),an,an,an,an,an,an,an⟩
theorem HS (X:Tx w K mg a d v):FO P w K mg base a d 2 2 ["thing"] "is_whole":=by
  rw [FO,wM]; exact aJ X.qe IH (ck X) (IN X ) IQ (by walk_at "sl") (MJ hPT)
theorem fQ (X:Tx w K mg a d v) {k:Nat} (h:2≤k):∃ ad fd ps,Fk P w K mg base (Ew K a) T k "is_whole" ad fd ps∧L2.aE K fd ps []:=⟨_,_,_,⟨(HS X).mono h,X.qf,X.qe.kp,by decide +kernel⟩,KJ X⟩
theorem wU (X:Tx w K mg a d v):Gf P w K mg base (Ew K a) T 2 iO:=
  ⟨ac (⟨_,_,_,⟨(AT X).mono (by decide),X.qd,X.qc.kp,by decide +kernel⟩,GE X⟩) (ac (fQ X (by decide)) (an)),an,an,an,an,ac (⟨X.qz94,⟨"tuple",PyProof.Rows.boot_tuple,fO⟩,by decide +kernel⟩) (an),ac (X.qz82) (ac (X.qz87) (ac (X.qz88) (an))),an,an,an,an,an,an,an⟩
theorem lN (X:Tx w K mg a d v):FO P w K mg base a d 4 3 ["thing"] "is_fraction":=by
  rw [FO,mR]; exact aJ X.qg wR (ck X) (wU X) vP (by walk_at "sl") (zH hPT)
theorem GM (X:Tx w K mg a d v):Gf P w K mg base (Ew K a) T 4 nA:=
  ⟨ac (⟨_,_,_,⟨(lN X).mono (by decide),X.qh,X.qg.kp,by decide +kernel⟩,mV X⟩) (an),an,an,an,an,an,an,an,an,an,an,an,an,an⟩
theorem lU (X:Tx w K mg a d v):FO P w K mg base a d 6 4 ["thing"] "is_share":=by
  rw [FO,wG]; exact aJ X.qi FR (ck X) (GM X) IS (by walk_at "sl") (MH hPT)
theorem pB (X:Tx w K mg a d v):Gf P w K mg base (Ew K a) T 6 eY:=
  ⟨ac (⟨_,_,_,⟨(lU X).mono (by decide),X.qj,X.qi.kp,by decide +kernel⟩,nN X⟩) (an),an,an,an,an,an,ac (X.qz85) (an),an,an,an,an,an,an,an⟩
theorem eV (X:Tx w K mg a d v):FO P w K mg base a d 8 5 ["self","ember","leaf","sky"] "Shade.__init__":=by
  rw [FO,jH]; exact aJ X.qk rC (ck X) (pB X) rD (by walk_at "sl") (sV hPT)
theorem TZ (X:Tx w K mg a d v):Gf P w K mg base (Ew K a) T 0 wF:=
  ⟨an,an,an,an,an,an,an,an,an,an,an,an,an,an⟩
theorem RX (X:Tx w K mg a d v):FO P w K mg base a d 2 6 ["_law_purse_here","_law_many"] "_law_pick":=by
  rw [FO,FX]; exact aJ X.ql SD (ck X) (TZ X ) PX (by walk_at "sl") (VH)
theorem jQ (X:Tx w K mg a d v) {k:Nat} (h:2≤k):∃ ad fd ps,Fk P w K mg base (Ew K a) T k "_law_pick" ad fd ps∧L2.aE K fd ps []:=⟨_,_,_,⟨(RX X).mono h,X.qm,X.ql.kp,by decide +kernel⟩,XM X⟩
theorem ST (X:Tx w K mg a d v):Gf P w K mg base (Ew K a) T 8 wW:=
  ⟨ac (jQ X (by decide)) (an),ac (⟨"Shade","Shade.__init__",_,_,_,⟨by rw [show (Ew K a).cls "Shade"=a 56 from aX]; exact X.qz71,(eV X).mono (by decide),by rw [show (Ew K a).cls "Shade"=a 56 from aX]; exact X.qz70,nZ hPT,by decide +kernel⟩,jG X⟩) (an),an,ac (⟨"Shade","Shade.__init__",_,_,_,⟨by rw [show (Ew K a).cls "Shade"=a 56 from aX]; exact X.qz71,(eV X).mono (by decide),by rw [show (Ew K a).cls "Shade"=a 56 from aX]; exact X.qz70,nZ hPT,by decide +kernel⟩,iE X⟩) (an),ac (by rw [rM]; exact ER X.qz70 aX) (an),an,an,an,an,an,an,an,an,an⟩
theorem PF (X:Tx w K mg a d v):FO P w K mg base a d 10 7 ["_law_purse_here","_law_row"] "_law_made":=by
  rw [FO,GH]; exact aJ X.qo OY (ck X) (ST X) QX (by walk_at "sl") (aAP hPT hLT)
theorem FJ (X:Tx w K mg a d v):Gf P w K mg base (Ew K a) T 0 mW:=
  ⟨an,an,an,an,ac (by rw [rM]; exact ER X.qz70 aX) (an),an,ac (X.qz87) (an),an,an,an,an,an,an,an⟩
theorem lH (X:Tx w K mg a d v):FO P w K mg base a d 2 8 ["thing"] "is_shade":=by
  rw [FO,yB]; exact aJ X.qq HN (ck X) (FJ X ) IU (by walk_at "sl") (MN hPT)
theorem yW (X:Tx w K mg a d v):Gf P w K mg base (Ew K a) T 2 kA:=
  ⟨ac (⟨_,_,_,⟨(lH X).mono (by decide),X.qr,X.qq.kp,by decide +kernel⟩,nU X⟩) (an),an,an,an,an,an,an,an,an,an,an,an,an,an⟩
theorem zW (X:Tx w K mg a d v):FO P w K mg base a d 4 9 ["thing"] "need_shade":=by
  rw [FO,pO]; exact aJ X.qt yL (ck X) (yW X) AA (by walk_at "sl") (FH hPT)
theorem cR (X:Tx w K mg a d v) {k:Nat} (h:4≤k):∃ ad fd ps,Fk P w K mg base (Ew K a) T k "need_shade" ad fd ps∧L2.aE K fd ps []:=⟨_,_,_,⟨(zW X).mono h,X.qu,X.qt.kp,by decide +kernel⟩,CI X⟩
theorem CU (X:Tx w K mg a d v):Gf P w K mg base (Ew K a) T 4 lV:=
  ⟨ac (cR X (by decide)) (an),an,an,an,an,an,an,an,an,an,an,an,an,an⟩
theorem EI (X:Tx w K mg a d v):FO P w K mg base a d 6 10 ["shade"] "shares_of":=by
  rw [FO,uE]; exact aJ X.qw CD (ck X) (CU X) DH (by walk_at "sl") (HX hPT)
theorem cD (X:Tx w K mg a d v) {k:Nat} (h:6≤k):∃ ad fd ps,Fk P w K mg base (Ew K a) T k "shares_of" ad fd ps∧L2.aE K fd ps []:=⟨_,_,_,⟨(EI X).mono h,X.qx,X.qw.kp,by decide +kernel⟩,IM X⟩
theorem uX (X:Tx w K mg a d v):Gf P w K mg base (Ew K a) T 6 hU:=
  ⟨ac (cD X (by decide)) (an),an,an,an,ac (by rw [rM]; exact ER X.qz70 aX) (an),an,ac (X.qz87) (an),an,an,an,an,an,an,an⟩
theorem uO (X:Tx w K mg a d v):FO P w K mg base a d 8 11 ["self","other"] "Shade.__eq__":=by
  rw [FO,mF]; exact aJ X.qy uN (ck X) (uX X) uU (by walk_at "sl") (vW hPT)
theorem KG (X:Tx w K mg a d v):Gf P w K mg base (Ew K a) T 8 tS:=
  ⟨ac (⟨_,_,_,⟨(lH X).mono (by decide),X.qr,X.qq.kp,by decide +kernel⟩,nU X⟩) (ac (cD X (by decide)) (an)),an,an,an,an,an,an,ac (⟨_,_,by rw [show (Ew K a).cls "Shade"=a 56 from aX]; exact X.qz,(uO X).mono (by decide),xG X⟩) (an),an,an,an,an,an,an⟩
theorem nW (X:Tx w K mg a d v):FO P w K mg base a d 10 12 ["_law_one","_law_other"] "_law_alike":=by
  rw [FO,BI]; exact aJ X.qA MC (ck X) (KG X) JQ (by walk_at "sl") (SY hPT iU)
theorem SB (X:Tx w K mg a d v):Gf P w K mg base (Ew K a) T 2 xZ:=
  ⟨ac (⟨_,_,_,⟨(AT X).mono (by decide),X.qd,X.qc.kp,by decide +kernel⟩,GE X⟩) (an),an,an,an,an,an,ac (X.qz82) (an),an,an,an,an,an,an,an⟩
theorem SN (X:Tx w K mg a d v):FO P w K mg base a d 4 13 ["top","bottom"] "lowest":=by
  rw [FO,FT]; exact aJ X.qC TK (ck X) (SB X) QS (by walk_at "sl") (aAf hPT)
theorem jL (X:Tx w K mg a d v) {k:Nat} (h:4≤k):∃ ad fd ps,Fk P w K mg base (Ew K a) T k "lowest" ad fd ps∧L2.aE K fd ps []:=⟨_,_,_,⟨(SN X).mono h,X.qD,X.qC.kp,by decide +kernel⟩,VY X⟩
theorem pF (X:Tx w K mg a d v):Gf P w K mg base (Ew K a) T 4 fB:=
  ⟨ac (⟨_,_,_,⟨(lN X).mono (by decide),X.qh,X.qg.kp,by decide +kernel⟩,mV X⟩) (an),an,an,an,an,an,ac (X.qz85) (an),an,an,an,an,an,an,an⟩
theorem pH (X:Tx w K mg a d v):FO P w K mg base a d 6 14 ["things"] "need_fractions":=by
  rw [FO,jM]; exact aJ X.qE oA (ck X) (pF X) pT (by walk_at "sl") (sU hPT)
theorem bR (X:Tx w K mg a d v) {k:Nat} (h:6≤k):∃ ad fd ps,Fk P w K mg base (Ew K a) T k "need_fractions" ad fd ps∧L2.aE K fd ps []:=⟨_,_,_,⟨(pH X).mono h,X.qF,X.qE.kp,by decide +kernel⟩,sY X⟩
theorem VM (X:Tx w K mg a d v):Gf P w K mg base (Ew K a) T 6 DP:=
  ⟨ac (jL X (by decide)) (ac (bR X (by decide)) (an)),an,an,an,an,an,an,an,an,an,an,an,an,an⟩
theorem xU (X:Tx w K mg a d v):FO P w K mg base a d 8 15 ["one","other"] "minus":=by
  rw [FO,OD]; exact aJ X.qG aBl (ck X) (VM X) ZW (by walk_at "sl") (aBZ hPT)
theorem GA (X:Tx w K mg a d v):Gf P w K mg base (Ew K a) T 8 nY:=
  ⟨an,ac (⟨"Shade","Shade.__init__",_,_,_,⟨by rw [show (Ew K a).cls "Shade"=a 56 from aX]; exact X.qz71,(eV X).mono (by decide),by rw [show (Ew K a).cls "Shade"=a 56 from aX]; exact X.qz70,nZ hPT,by decide +kernel⟩,jG X⟩) (an),an,an,ac (by rw [rM]; exact ER X.qz70 aX) (an),an,an,an,an,an,an,an,an,an⟩
theorem IK (X:Tx w K mg a d v):FO P w K mg base a d 10 16 ["shares"] "shade_of":=by
  rw [FO,wP]; exact aJ X.qI HL (ck X) (GA X) HK (by walk_at "sl") (MF hPT)
theorem iJ (X:Tx w K mg a d v) {k:Nat} (h:10≤k):∃ ad fd ps,Fk P w K mg base (Ew K a) T k "shade_of" ad fd ps∧L2.aE K fd ps []:=⟨_,_,_,⟨(IK X).mono h,X.qJ,X.qI.kp,by decide +kernel⟩,KY X⟩
theorem IO (X:Tx w K mg a d v):Gf P w K mg base (Ew K a) T 10 mZ:=
  ⟨ac (⟨_,_,_,⟨(xU X).mono (by decide),X.qH,X.qG.kp,by decide +kernel⟩,ED X⟩) (ac (iJ X (by decide)) (ac (cD X (by decide)) (an))),an,an,an,ac (by obtain ⟨b,t0,t1,n,sl,h,l⟩:=X.qz78; rw [OE]; exact rH (oJ rfl h l) (by first | rfl | exact rQ.symm)) (an),an,an,an,an,an,an,an,an,an⟩
theorem lS (X:Tx w K mg a d v):FO P w K mg base a d 12 17 ["shade"] "opposite":=by
  rw [FO,yG]; exact aJ X.qK GD (ck X) (IO X) HZ (by walk_at "sl") (yX hPT)
theorem JZ (X:Tx w K mg a d v):Gf P w K mg base (Ew K a) T 6 tW:=
  ⟨ac (⟨_,_,_,⟨(lU X).mono (by decide),X.qj,X.qi.kp,by decide +kernel⟩,nN X⟩) (an),an,an,an,ac (by obtain ⟨b,t0,t1,n,sl,h,l⟩:=X.qz74; rw [aAT]; exact rH (oJ rfl h l) (by first | rfl | exact rQ.symm)) (an),an,an,an,an,an,an,an,an,an⟩
theorem nI (X:Tx w K mg a d v):FO P w K mg base a d 8 18 ["by"] "part_of":=by
  rw [FO,AS]; exact aJ X.qM MQ (ck X) (JZ X) KH (by walk_at "sl") (BX hPT iU)
theorem aDP (X:Tx w K mg a d v):Gf P w K mg base (Ew K a) T 6 MS:=
  ⟨ac (jL X (by decide)) (ac (bR X (by decide)) (an)),an,an,an,an,an,an,an,an,an,an,an,an,an⟩
theorem BT (X:Tx w K mg a d v):FO P w K mg base a d 8 19 ["one","other"] "plus":=by
  rw [FO,aAz]; exact aJ X.qO aDB (ck X) (aDP X) aBS (by walk_at "sl") (aGx hPT)
theorem aA1 (X:Tx w K mg a d v):Gf P w K mg base (Ew K a) T 6 EC:=
  ⟨ac (jL X (by decide)) (ac (bR X (by decide)) (an)),an,an,an,an,an,an,an,an,an,an,an,an,an⟩
theorem GY (X:Tx w K mg a d v):FO P w K mg base a d 8 20 ["one","other"] "times":=by
  rw [FO,NQ]; exact aJ X.qQ WM (ck X) (aA1 X) XF (by walk_at "sl") (aBB hPT)
theorem PL (X:Tx w K mg a d v):Gf P w K mg base (Ew K a) T 10 vU:=
  ⟨ac (⟨_,_,_,⟨(xU X).mono (by decide),X.qH,X.qG.kp,by decide +kernel⟩,ED X⟩) (ac (⟨_,_,_,⟨(BT X).mono (by decide),X.qP,X.qO.kp,by decide +kernel⟩,MM X⟩) (ac (iJ X (by decide)) (ac (cD X (by decide)) (ac (⟨_,_,_,⟨(GY X).mono (by decide),X.qR,X.qQ.kp,by decide +kernel⟩,NY X⟩) (an))))),an,an,an,an,an,an,an,an,an,an,an,an,an⟩
theorem sW (X:Tx w K mg a d v):FO P w K mg base a d 12 21 ["shade","goal","part"] "toward":=by
  rw [FO,GN]; exact aJ X.qS SF (ck X) (PL X) QB (by walk_at "sl") (IG hPT)
theorem TL (X:Tx w K mg a d v):Gf P w K mg base (Ew K a) T 12 xV:=
  ⟨ac (cR X (by decide)) (ac (⟨_,_,_,⟨(nI X).mono (by decide),X.qN,X.qM.kp,by decide +kernel⟩,tM X⟩) (ac (⟨_,_,_,⟨(sW X).mono (by decide),X.qT,X.qS.kp,by decide +kernel⟩,yA X⟩) (an))),an,an,an,ac (by obtain ⟨b,t0,t1,n,sl,h,l⟩:=X.qz80; rw [UA]; exact rH (oJ rfl h l) (by first | rfl | exact rQ.symm)) (an),an,an,an,an,an,an,an,an,an⟩
theorem sK (X:Tx w K mg a d v):FO P w K mg base a d 14 22 ["shade","by"] "darker":=by
  rw [FO,IP]; exact aJ X.qU QL (ck X) (TL X) RN (by walk_at "sl") (FN hPT iU)
theorem aCH (X:Tx w K mg a d v):Gf P w K mg base (Ew K a) T 6 KO:=
  ⟨ac (jL X (by decide)) (ac (bR X (by decide)) (an)),an,an,an,an,an,an,an,an,an,an,an,an,an⟩
theorem NG (X:Tx w K mg a d v):FO P w K mg base a d 8 23 ["one","other"] "over":=by
  rw [FO,XQ]; exact aJ X.qX aBN (ck X) (aCH X) aBM (by walk_at "sl") (aIa hPT)
theorem OZ (X:Tx w K mg a d v):Gf P w K mg base (Ew K a) T 12 wX:=
  ⟨ac (cR X (by decide)) (ac (⟨_,_,_,⟨(NG X).mono (by decide),X.qY,X.qX.kp,by decide +kernel⟩,aBj X⟩) (ac (⟨_,_,_,⟨(nI X).mono (by decide),X.qN,X.qM.kp,by decide +kernel⟩,tM X⟩) (ac (⟨_,_,_,⟨(BT X).mono (by decide),X.qP,X.qO.kp,by decide +kernel⟩,MM X⟩) (ac (⟨_,_,_,⟨(sW X).mono (by decide),X.qT,X.qS.kp,by decide +kernel⟩,yA X⟩) (an))))),an,an,an,an,an,an,an,an,an,an,an,an,an⟩
theorem jK (X:Tx w K mg a d v):FO P w K mg base a d 14 24 ["shade","by"] "duller":=by
  rw [FO,JJ]; exact aJ X.qZ SI (ck X) (OZ X) RK (by walk_at "sl") (GS hPT iU)
theorem KP (X:Tx w K mg a d v):Gf P w K mg base (Ew K a) T 12 tN:=
  ⟨ac (cR X (by decide)) (ac (⟨_,_,_,⟨(nI X).mono (by decide),X.qN,X.qM.kp,by decide +kernel⟩,tM X⟩) (ac (⟨_,_,_,⟨(sW X).mono (by decide),X.qT,X.qS.kp,by decide +kernel⟩,yA X⟩) (an))),an,an,an,ac (by obtain ⟨b,t0,t1,n,sl,h,l⟩:=X.qz78; rw [OE]; exact rH (oJ rfl h l) (by first | rfl | exact rQ.symm)) (an),an,an,an,an,an,an,an,an,an⟩
theorem gS (X:Tx w K mg a d v):FO P w K mg base a d 14 25 ["shade","by"] "lighter":=by
  rw [FO,AX]; exact aJ X.qz3 KU (ck X) (KP X) MG (by walk_at "sl") (DE hPT iU)
theorem QN (X:Tx w K mg a d v):Gf P w K mg base (Ew K a) T 10 wD:=
  ⟨ac (fQ X (by decide)) (ac (cR X (by decide)) (ac (iJ X (by decide)) (ac (cD X (by decide)) (an)))),an,an,an,an,an,ac (X.qz91) (an),an,an,an,an,an,an,an⟩
theorem sS (X:Tx w K mg a d v):FO P w K mg base a d 12 26 ["shade","by"] "turned":=by
  rw [FO,FW]; exact aJ X.qz6 TB (ck X) (QN X) RB (by walk_at "sl") (GJ hPT)
theorem TY (X:Tx w K mg a d v):Gf P w K mg base (Ew K a) T 14 xD:=
  ⟨ac (⟨_,_,_,⟨(lS X).mono (by decide),X.qL,X.qK.kp,by decide +kernel⟩,nP X⟩) (an),an,an,an,an,an,ac (X.qz88) (an),an,an,an,an,ac (by obtain ⟨b,n,t0,t1,t2,t3,h1,h2,h3⟩:=X.qz81; exact ⟨b,_,n,h1,h2,xX _,h3,fun z=>by rw [HQ]; exact OC z (by simp only [List.map_cons,List.map_nil,Ew,kL,kF,iG,kG])⟩) (an),ac (by dsimp only; rw [kL]; exact ⟨_,_,(sK X).mono (by decide),X.qU.kp,EL X⟩) (ac (by dsimp only; rw [kL]; exact ⟨_,_,(sK X).mono (by decide),X.qU.kp,EO X⟩) (ac (by dsimp only; rw [kF]; exact ⟨_,_,(jK X).mono (by decide),X.qZ.kp,CJ X⟩) (ac (by dsimp only; rw [kF]; exact ⟨_,_,(jK X).mono (by decide),X.qZ.kp,CF X⟩) (ac (by dsimp only; rw [iG]; exact ⟨_,_,(gS X).mono (by decide),X.qz3.kp,zU X⟩) (ac (by dsimp only; rw [iG]; exact ⟨_,_,(gS X).mono (by decide),X.qz3.kp,yT X⟩) (ac (by dsimp only; rw [kG]; exact ⟨_,_,(sS X).mono (by decide),X.qz6.kp,CW X⟩) (ac (by dsimp only; rw [kG]; exact ⟨_,_,(sS X).mono (by decide),X.qz6.kp,DK X⟩) (an)))))))),an⟩
theorem SW (X:Tx w K mg a d v):FO P w K mg base a d 16 27 ["shade","deed"] "do_one":=by
  rw [FO,GC]; exact aJ X.qz9 PC (ck X) (TY X) QE (by walk_at "sl") (aAo iU)
theorem UO (X:Tx w K mg a d v):Gf P w K mg base (Ew K a) T 6 DD:=
  ⟨ac (⟨_,_,_,⟨(lU X).mono (by decide),X.qj,X.qi.kp,by decide +kernel⟩,nN X⟩) (ac (fQ X (by decide)) (an)),an,an,an,an,an,an,an,an,an,an,an,an,an⟩
theorem YM (X:Tx w K mg a d v):FO P w K mg base a d 8 28 ["word","thing"] "is_by":=by
  rw [FO,NR]; exact aJ X.qz11 aAR (ck X) (UO X) YB (by walk_at "sl") (aDM hPT)
theorem LV (X:Tx w K mg a d v):Gf P w K mg base (Ew K a) T 8 tP:=
  ⟨ac (⟨_,_,_,⟨(YM X).mono (by decide),X.qz12,X.qz11.kp,by decide +kernel⟩,aC8 X⟩) (an),an,an,an,an,ac (⟨X.qz92,⟨"str",PyProof.Rows.boot_str,aED⟩,by decide +kernel⟩) (ac (⟨X.qz94,⟨"tuple",PyProof.Rows.boot_tuple,fO⟩,by decide +kernel⟩) (an)),ac (X.qz87) (ac (X.qz88) (an)),an,an,an,an,ac (by obtain ⟨b,n,t0,t1,t2,t3,h1,h2,h3⟩:=X.qz81; exact ⟨b,_,n,h1,h2,xX _,h3,fun z=>by rw [HQ]; exact OC z (by simp only [List.map_cons,List.map_nil,Ew,kL,kF,iG,kG])⟩) (an),an,an⟩
theorem MD (X:Tx w K mg a d v):FO P w K mg base a d 10 29 ["thing"] "is_deed":=by
  rw [FO,AR]; exact aJ X.qz13 KL (ck X) (LV X) JX (by walk_at "sl") (TW hPT iU)
theorem yU (X:Tx w K mg a d v):Gf P w K mg base (Ew K a) T 10 kS:=
  ⟨ac (⟨_,_,_,⟨(MD X).mono (by decide),X.qz14,X.qz13.kp,by decide +kernel⟩,RT X⟩) (an),an,an,an,ac (by obtain ⟨t,h⟩:=X.qz75; rw [pR]; exact MP h) (an),ac (⟨X.qz94,⟨"tuple",PyProof.Rows.boot_tuple,fO⟩,by decide +kernel⟩) (an),ac (X.qz85) (ac (X.qz87) (ac (X.qz88) (an))),an,an,an,an,an,an,an⟩
theorem zJ (X:Tx w K mg a d v):FO P w K mg base a d 12 30 ["deeds"] "need_deeds":=by
  rw [FO,pS]; exact aJ X.qz15 yR (ck X) (yU X) zY (by walk_at "sl") (CH hPT iU)
theorem aCV (X:Tx w K mg a d v):Gf P w K mg base (Ew K a) T 16 KC:=
  ⟨ac (⟨_,_,_,⟨(SW X).mono (by decide),X.qz10,X.qz9.kp,by decide +kernel⟩,XJ X⟩) (ac (⟨_,_,_,⟨(zJ X).mono (by decide),X.qz16,X.qz15.kp,by decide +kernel⟩,CO X⟩) (ac (cR X (by decide)) (an))),an,an,an,an,an,an,an,an,an,an,an,an,an⟩
theorem aCW (X:Tx w K mg a d v):FO P w K mg base a d 18 31 ["shade","deeds"] "done":=by
  rw [FO,aAX]; exact aJ X.qz17 aCw (ck X) (aCV X) aBT (by walk_at "sl") (aIb hPT iU)
theorem zI (X:Tx w K mg a d v):Gf P w K mg base (Ew K a) T 2 kB:=
  ⟨ac (⟨_,_,_,⟨(lH X).mono (by decide),X.qr,X.qq.kp,by decide +kernel⟩,nU X⟩) (an),an,an,an,an,ac (⟨X.qz94,⟨"tuple",PyProof.Rows.boot_tuple,fO⟩,by decide +kernel⟩) (an),ac (X.qz83) (ac (X.qz87) (ac (X.qz88) (an))),an,an,an,an,an,an,an⟩
theorem zB (X:Tx w K mg a d v):FO P w K mg base a d 4 32 ["thing","least","most"] "are_shades":=by
  rw [FO,pM]; exact aJ X.qz19 yQ (ck X) (zI X) yV (by walk_at "sl") (CA hPT)
theorem CG (X:Tx w K mg a d v):Gf P w K mg base (Ew K a) T 2 lP:=
  ⟨ac (fQ X (by decide)) (an),an,an,an,ac (by obtain ⟨t,h⟩:=X.qz77; rw [mT]; exact MP h) (an),an,an,an,an,an,an,an,an,an⟩
theorem DL (X:Tx w K mg a d v):FO P w K mg base a d 4 33 ["thing","least"] "is_weight":=by
  rw [FO,uD]; exact aJ X.qz21 ES (ck X) (CG X) DN (by walk_at "sl") (HE hPT iU)
theorem wS (X:Tx w K mg a d v):Gf P w K mg base (Ew K a) T 4 iR:=
  ⟨ac (⟨_,_,_,⟨(DL X).mono (by decide),X.qz22,X.qz21.kp,by decide +kernel⟩,GZ X⟩) (an),an,an,an,an,ac (⟨X.qz94,⟨"tuple",PyProof.Rows.boot_tuple,fO⟩,by decide +kernel⟩) (an),ac (X.qz83) (ac (X.qz87) (ac (X.qz88) (ac (X.qz93) (an)))),an,an,an,an,an,an,an⟩
theorem wK (X:Tx w K mg a d v):FO P w K mg base a d 6 34 ["thing","many"] "are_weights":=by
  rw [FO,mQ]; exact aJ X.qz23 wB (ck X) (wS X) vR (by walk_at "sl") (AB hPT iU)
theorem HI (X:Tx w K mg a d v):Gf P w K mg base (Ew K a) T 4 nC:=
  ⟨ac (fQ X (by decide)) (ac (jL X (by decide)) (an)),an,an,an,an,an,an,an,an,an,an,an,an,an⟩
theorem FL (X:Tx w K mg a d v):FO P w K mg base a d 6 35 ["top","bottom"] "fraction":=by
  rw [FO,xQ]; exact aJ X.qz25 FM (ck X) (HI X) HP (by walk_at "sl") (MZ hPT)
theorem yY (X:Tx w K mg a d v):Gf P w K mg base (Ew K a) T 6 kQ:=
  ⟨ac (⟨_,_,_,⟨(FL X).mono (by decide),X.qz27,X.qz25.kp,by decide +kernel⟩,MO X⟩) (an),an,an,an,an,an,ac (X.qz93) (ac (X.qz95) (an)),an,an,an,an,an,an,an⟩
theorem zO (X:Tx w K mg a d v):FO P w K mg base a d 8 36 ["shares","weights"] "mean_share":=by
  rw [FO,oQ]; exact aJ X.qz28 yP (ck X) (yY X) zX (by walk_at "sl") (DC iU)
theorem aF2 (X:Tx w K mg a d v):Gf P w K mg base (Ew K a) T 10 aAD:=
  ⟨ac (⟨_,_,_,⟨(zB X).mono (by decide),X.qz20,X.qz19.kp,by decide +kernel⟩,FI X⟩) (ac (⟨_,_,_,⟨(wK X).mono (by decide),X.qz24,X.qz23.kp,by decide +kernel⟩,yN X⟩) (ac (⟨_,_,_,⟨(zO X).mono (by decide),X.qz29,X.qz28.kp,by decide +kernel⟩,CM X⟩) (ac (iJ X (by decide)) (ac (cD X (by decide)) (an))))),an,an,an,ac (by obtain ⟨t,h⟩:=X.qz76; rw [mS]; exact MP h) (an),an,ac (X.qz88) (ac (X.qz91) (an)),an,an,an,an,an,an,an⟩
theorem WT (X:Tx w K mg a d v):FO P w K mg base a d 12 37 ["shades","weights"] "mix":=by
  rw [FO,aFn]; exact aJ X.qz30 aHi (ck X) (aF2 X) aGj (by walk_at "sl") (aJm hPT iU)
theorem rZ (X:Tx w K mg a d v):Gf P w K mg base (Ew K a) T 18 gD:=
  ⟨ac (⟨_,_,_,⟨(nW X).mono (by decide),X.qB,X.qA.kp,by decide +kernel⟩,sP X⟩) (ac (⟨_,_,_,⟨(aCW X).mono (by decide),X.qz18,X.qz17.kp,by decide +kernel⟩,aGU X⟩) (ac (⟨_,_,_,⟨(jK X).mono (by decide),X.qz2,X.qZ.kp,by decide +kernel⟩,wT X⟩) (ac (⟨_,_,_,⟨(WT X).mono (by decide),X.qz32,X.qz30.kp,by decide +kernel⟩,aI8 X⟩) (an)))),an,ac (⟨_,_,_,⟨(WT X).mono (by decide),X.qz32,X.qz30.kp,by decide +kernel⟩,PR X⟩) (an),an,an,ac (⟨X.qz94,⟨"tuple",PyProof.Rows.boot_tuple,fO⟩,by decide +kernel⟩) (an),ac (X.qz94) (an),an,an,an,an,an,an,an⟩
theorem sF (X:Tx w K mg a d v):FO P w K mg base a d 20 38 ["_law_some","_law_weights_here","_law_by","_law_turns"] "_law_mixed_right":=by
  rw [FO,kX]; exact aJ X.qz33 rW (ck X) (rZ X) rR (by walk_at "sl") (uM iU)
theorem MA (X:Tx w K mg a d v):Gf P w K mg base (Ew K a) T 0 sL:=
  ⟨an,an,an,an,an,ac (⟨X.qz86,⟨"int",PyProof.Rows.boot_int,ZT⟩,by decide +kernel⟩) (an),ac (X.qz86) (an),an,an,an,an,an,an,an⟩
theorem NA (X:Tx w K mg a d v):FO P w K mg base a d 2 39 ["_law_cell_here"] "_law_purse":=by
  rw [FO,AO]; exact aJ X.qz35 KW (ck X) (MA X ) LW (by walk_at "sl") (TM)
theorem WD (X:Tx w K mg a d v):Gf P w K mg base (Ew K a) T 0 EB:=
  ⟨an,an,an,an,an,an,ac (X.qz82) (an),an,an,an,an,an,an,an⟩
theorem WX (X:Tx w K mg a d v):FO P w K mg base a d 2 40 ["_law_top","_law_bottom"] "_law_low":=by
  rw [FO,NZ]; exact aJ X.qz37 UR (ck X) (WD X ) YS (by walk_at "sl") (aBA)
theorem pC (X:Tx w K mg a d v) {k:Nat} (h:2≤k):∃ ad fd ps,Fk P w K mg base (Ew K a) T k "_law_low" ad fd ps∧L2.aE K fd ps []:=⟨_,_,_,⟨(WX X).mono h,X.qz38,X.qz37.kp,by decide +kernel⟩,aBD X⟩
theorem MU (X:Tx w K mg a d v):Gf P w K mg base (Ew K a) T 2 tL:=
  ⟨ac (pC X (by decide)) (ac (jQ X (by decide)) (an)),an,an,an,an,an,an,an,an,an,an,an,an,an⟩
theorem wI (X:Tx w K mg a d v):FO P w K mg base a d 4 41 ["_law_purse_here"] "_law_share":=by
  rw [FO,AN]; exact aJ X.qz39 LL (ck X) (MU X) JL (by walk_at "sl") (QA hLT)
theorem HA (X:Tx w K mg a d v):Gf P w K mg base (Ew K a) T 4 nB:=
  ⟨ac (jQ X (by decide)) (ac (⟨_,_,_,⟨(wI X).mono (by decide),X.qz40,X.qz39.kp,by decide +kernel⟩,AV X⟩) (an)),an,an,an,an,ac (⟨X.qz94,⟨"tuple",PyProof.Rows.boot_tuple,fO⟩,by decide +kernel⟩) (an),ac (X.qz91) (ac (X.qz94) (an)),an,an,an,an,an,an,an⟩
theorem II (X:Tx w K mg a d v):FO P w K mg base a d 6 42 ["_law_purse_here"] "_law_shares":=by
  rw [FO,vX]; exact aJ X.qz41 IR (ck X) (HA X) IV (by walk_at "sl") (NE hLT)
theorem rA (X:Tx w K mg a d v):Gf P w K mg base (Ew K a) T 14 fE:=
  ⟨ac (⟨_,_,_,⟨(nW X).mono (by decide),X.qB,X.qA.kp,by decide +kernel⟩,sP X⟩) (ac (⟨_,_,_,⟨(jK X).mono (by decide),X.qz2,X.qZ.kp,by decide +kernel⟩,wT X⟩) (ac (⟨_,_,_,⟨(gS X).mono (by decide),X.qz5,X.qz3.kp,by decide +kernel⟩,sR X⟩) (ac (⟨_,_,_,⟨(lS X).mono (by decide),X.qL,X.qK.kp,by decide +kernel⟩,nP X⟩) (ac (⟨_,_,_,⟨(sS X).mono (by decide),X.qz8,X.qz6.kp,by decide +kernel⟩,XL X⟩) (an))))),an,an,an,an,an,an,an,an,an,an,an,an,an⟩
theorem rB (X:Tx w K mg a d v):FO P w K mg base a d 16 43 ["_law_one","_law_by","_law_turns","_law_more"] "_law_turned_right":=by
  rw [FO,jD]; exact aJ X.qz43 pK (ck X) (rA X) rL (by walk_at "sl") (sI iU)
theorem JY (X:Tx w K mg a d v):Gf P w K mg base (Ew K a) T 2 rY:=
  ⟨ac (pC X (by decide)) (an),an,an,an,an,an,an,an,an,an,an,an,an,an⟩
theorem yH (X:Tx w K mg a d v):FO P w K mg base a d 4 44 ["_law_a","_law_b"] "_law_minus":=by
  rw [FO,AL]; exact aJ X.qz45 KI (ck X) (JY X) LG (by walk_at "sl") (SS hLT)
theorem RL (X:Tx w K mg a d v):Gf P w K mg base (Ew K a) T 2 yI:=
  ⟨ac (pC X (by decide)) (an),an,an,an,an,an,an,an,an,an,an,an,an,an⟩
theorem AG (X:Tx w K mg a d v):FO P w K mg base a d 4 45 ["_law_a","_law_b"] "_law_plus":=by
  rw [FO,HM]; exact aJ X.qz47 TQ (ck X) (RL X) RW (by walk_at "sl") (aAr hLT)
theorem JU (X:Tx w K mg a d v):Gf P w K mg base (Ew K a) T 2 tD:=
  ⟨ac (pC X (by decide)) (an),an,an,an,an,an,an,an,an,an,an,an,an,an⟩
theorem yE (X:Tx w K mg a d v):FO P w K mg base a d 4 46 ["_law_a","_law_b"] "_law_times":=by
  rw [FO,BH]; exact aJ X.qz49 LP (ck X) (JU X) KF (by walk_at "sl") (OX hLT)
theorem rX (X:Tx w K mg a d v):Gf P w K mg base (Ew K a) T 14 fY:=
  ⟨ac (⟨_,_,_,⟨(nW X).mono (by decide),X.qB,X.qA.kp,by decide +kernel⟩,sP X⟩) (ac (⟨_,_,_,⟨(yH X).mono (by decide),X.qz46,X.qz45.kp,by decide +kernel⟩,AM X⟩) (ac (⟨_,_,_,⟨(AG X).mono (by decide),X.qz48,X.qz47.kp,by decide +kernel⟩,FS X⟩) (ac (⟨_,_,_,⟨(yE X).mono (by decide),X.qz50,X.qz49.kp,by decide +kernel⟩,AJ X⟩) (ac (⟨_,_,_,⟨(sK X).mono (by decide),X.qW,X.qU.kp,by decide +kernel⟩,WF X⟩) (ac (⟨_,_,_,⟨(jK X).mono (by decide),X.qz2,X.qZ.kp,by decide +kernel⟩,wT X⟩) (ac (⟨_,_,_,⟨(gS X).mono (by decide),X.qz5,X.qz3.kp,by decide +kernel⟩,sR X⟩) (ac (⟨_,_,_,⟨(lS X).mono (by decide),X.qL,X.qK.kp,by decide +kernel⟩,nP X⟩) (an)))))))),an,an,an,an,an,an,an,an,an,an,an,an,an⟩
theorem tJ (X:Tx w K mg a d v):FO P w K mg base a d 16 47 ["_law_one","_law_by","_law_more"] "_law_twice_right":=by
  rw [FO,kZ]; exact aJ X.qz51 rT (ck X) (rX X) sT (by walk_at "sl") (uQ hLT iU)
theorem DR (X:Tx w K mg a d v):Gf P w K mg base (Ew K a) T 2 lJ:=
  ⟨ac (jQ X (by decide)) (an),an,an,an,an,ac (⟨X.qz94,⟨"tuple",PyProof.Rows.boot_tuple,fO⟩,by decide +kernel⟩) (an),ac (X.qz91) (ac (X.qz93) (ac (X.qz94) (an))),an,an,an,an,an,an,an⟩
theorem EG (X:Tx w K mg a d v):FO P w K mg base a d 4 48 ["_law_purse_here","_law_many"] "_law_weights":=by
  rw [FO,uA]; exact aJ X.qz53 DS (ck X) (DR X) BO (by walk_at "sl") (wN hLT)
theorem aDL (X:Tx w K mg a d v):Gf P w K mg base (Ew K a) T 0 LU:=
  ⟨an,an,an,an,an,an,an,an,an,an,an,an,an,an⟩
theorem aCP (X:Tx w K mg a d v):FO P w K mg base a d 2 49 ["one","other"] "less":=by
  rw [FO,WS]; exact aJ X.qz55 aC6 (ck X) (aDL X ) aCm (by walk_at "sl") (aHj)
theorem VR (X:Tx w K mg a d v):Gf P w K mg base (Ew K a) T 6 BU:=
  ⟨ac (⟨_,_,_,⟨(aCP X).mono (by decide),X.qz56,X.qz55.kp,by decide +kernel⟩,aGB X⟩) (ac (bR X (by decide)) (an)),an,an,an,an,an,an,an,an,an,an,an,an,an⟩
theorem YE (X:Tx w K mg a d v):FO P w K mg base a d 8 50 ["one","other"] "below":=by
  rw [FO,NS]; exact aJ X.qz57 UY (ck X) (VR X) VQ (by walk_at "sl") (KK hPT iU)
theorem VL (X:Tx w K mg a d v):Gf P w K mg base (Ew K a) T 8 EM:=
  ⟨ac (⟨_,_,_,⟨(YE X).mono (by decide),X.qz58,X.qz57.kp,by decide +kernel⟩,aDp X⟩) (an),an,an,an,an,an,an,an,an,an,an,an,an,an⟩
theorem ZY (X:Tx w K mg a d v):FO P w K mg base a d 10 51 ["shares","stretch"] "falls":=by
  rw [FO,NF]; exact aJ X.qz59 VI (ck X) (VL X) WB (by walk_at "sl") (aDn hPT)
theorem zF (X:Tx w K mg a d v):Gf P w K mg base (Ew K a) T 10 jT:=
  ⟨ac (⟨_,_,_,⟨(ZY X).mono (by decide),X.qz60,X.qz59.kp,by decide +kernel⟩,aCt X⟩) (an),an,an,an,ac (by obtain ⟨b,b0,b1,b2,b3,b4,b5,n,sl,h,l,h0,h1,h2,h3,h4,h5⟩:=X.qz79; rw [tZ]; exact aB8 (vs:=[.ref b0,.ref b1,.ref b2,.ref b3,.ref b4,.ref b5]) rfl h l (.cons rfl (.cons rfl (.cons rfl (.cons rfl (.cons rfl (.cons rfl .nil)))))) (show 6≤sizeLine by decide) ⟨_,_,rfl,pJ.rp (ns:=[0,2,1,0,1]) rfl h0 (show 5≤sizeLine by decide),⟨_,_,rfl,pJ.rp (ns:=[1,2,0,2,-1]) rfl h1 (show 5≤sizeLine by decide),⟨_,_,rfl,pJ.rp (ns:=[1,0,2,2,1]) rfl h2 (show 5≤sizeLine by decide),⟨_,_,rfl,pJ.rp (ns:=[2,0,1,4,-1]) rfl h3 (show 5≤sizeLine by decide),⟨_,_,rfl,pJ.rp (ns:=[2,1,0,4,1]) rfl h4 (show 5≤sizeLine by decide),⟨_,_,rfl,pJ.rp (ns:=[0,1,2,6,-1]) rfl h5 (show 5≤sizeLine by decide),rfl⟩⟩⟩⟩⟩⟩) (an),an,an,an,an,an,an,an,an,an⟩
theorem zG (X:Tx w K mg a d v):FO P w K mg base a d 12 52 ["shares"] "stretch_of":=by
  rw [FO,oX]; exact aJ X.qz61 zD (ck X) (zF X) zQ (by walk_at "sl") (uY iU)
theorem HD (X:Tx w K mg a d v):Gf P w K mg base (Ew K a) T 12 nG:=
  ⟨ac (⟨_,_,_,⟨(xU X).mono (by decide),X.qH,X.qG.kp,by decide +kernel⟩,ED X⟩) (ac (⟨_,_,_,⟨(NG X).mono (by decide),X.qY,X.qX.kp,by decide +kernel⟩,aBj X⟩) (ac (⟨_,_,_,⟨(BT X).mono (by decide),X.qP,X.qO.kp,by decide +kernel⟩,MM X⟩) (ac (cD X (by decide)) (ac (⟨_,_,_,⟨(zG X).mono (by decide),X.qz62,X.qz61.kp,by decide +kernel⟩,EF X⟩) (ac (⟨_,_,_,⟨(GY X).mono (by decide),X.qR,X.qQ.kp,by decide +kernel⟩,NY X⟩) (an)))))),an,an,an,ac (by obtain ⟨b,t0,t1,n,sl,h,l⟩:=X.qz78; rw [OE]; exact rH (oJ rfl h l) (by first | rfl | exact rQ.symm)) (an),an,an,an,an,an,an,an,an,an⟩
theorem HH (X:Tx w K mg a d v):FO P w K mg base a d 14 53 ["shade"] "wheel_of":=by
  rw [FO,vQ]; exact aJ X.qz63 IF (ck X) (HD X) FK (by walk_at "sl") (zN hPT iU)
theorem tK (X:Tx w K mg a d v):Gf P w K mg base (Ew K a) T 14 fU:=
  ⟨ac (⟨_,_,_,⟨(yH X).mono (by decide),X.qz46,X.qz45.kp,by decide +kernel⟩,AM X⟩) (ac (⟨_,_,_,⟨(AG X).mono (by decide),X.qz48,X.qz47.kp,by decide +kernel⟩,FS X⟩) (ac (⟨_,_,_,⟨(yE X).mono (by decide),X.qz50,X.qz49.kp,by decide +kernel⟩,AJ X⟩) (ac (⟨_,_,_,⟨(gS X).mono (by decide),X.qz5,X.qz3.kp,by decide +kernel⟩,sR X⟩) (ac (⟨_,_,_,⟨(HH X).mono (by decide),X.qz64,X.qz63.kp,by decide +kernel⟩,LQ X⟩) (an))))),an,an,an,an,an,an,an,an,an,an,an,an,an⟩
theorem tE (X:Tx w K mg a d v):FO P w K mg base a d 16 54 ["_law_one","_law_by"] "_law_wheel_right":=by
  rw [FO,kY]; exact aJ X.qz65 tT (ck X) (tK X) rS (by walk_at "sl") (uW hLT iU)
theorem aGk (X:Tx w K mg a d v):Gf P w K mg base (Ew K a) T 20 aAj:=
  ⟨ac (⟨_,_,_,⟨(QK X).mono (by decide),X.qb,X.qa.kp,by decide +kernel⟩,aBp X⟩) (ac (⟨_,_,_,⟨(PF X).mono (by decide),X.qp,X.qo.kp,by decide +kernel⟩,WW X⟩) (ac (⟨_,_,_,⟨(sF X).mono (by decide),X.qz34,X.qz33.kp,by decide +kernel⟩,uP X⟩) (ac (jQ X (by decide)) (ac (⟨_,_,_,⟨(NA X).mono (by decide),X.qz36,X.qz35.kp,by decide +kernel⟩,RJ X⟩) (ac (⟨_,_,_,⟨(wI X).mono (by decide),X.qz40,X.qz39.kp,by decide +kernel⟩,AV X⟩) (ac (⟨_,_,_,⟨(II X).mono (by decide),X.qz42,X.qz41.kp,by decide +kernel⟩,KS X⟩) (ac (⟨_,_,_,⟨(rB X).mono (by decide),X.qz44,X.qz43.kp,by decide +kernel⟩,tU X⟩) (ac (⟨_,_,_,⟨(tJ X).mono (by decide),X.qz52,X.qz51.kp,by decide +kernel⟩,uI X⟩) (ac (⟨_,_,_,⟨(EG X).mono (by decide),X.qz54,X.qz53.kp,by decide +kernel⟩,GU X⟩) (ac (⟨_,_,_,⟨(tE X).mono (by decide),X.qz66,X.qz65.kp,by decide +kernel⟩,uS X⟩) (an))))))))))),an,an,an,an,ac (⟨X.qz94,⟨"tuple",PyProof.Rows.boot_tuple,fO⟩,by decide +kernel⟩) (an),ac (X.qz88) (ac (X.qz89) (ac (X.qz90) (ac (X.qz91) (ac (X.qz94) (an))))),an,an,an,an,an,an,an⟩
theorem aF6 (X:Tx w K mg a d v):FO P w K mg base a d 22 55 ["_law_script"] "law":=by
  rw [FO,aEZ]; exact aJ X.qz67 aHX (ck X) (aGk X) aHM (by walk_at "sl") (aLQ hLT hLM iU)
noncomputable abbrev zA (K:W.Frag) (x:Str) (f:Addr):Prop:=W.nsIn K mainGlobals x=some (some (.ref f))
noncomputable abbrev zL (K:W.Frag) (f:Addr) (x y:Str) (s:Stmt) (d m c:Value):Prop:=K.lookup f=some ⟨.type "function",none,.func (fX x y s d m c), #[]⟩
noncomputable abbrev zC (K:W.Frag) (c:Value) (x:Str):Prop:=W.codeIn K c x=true
noncomputable abbrev zK (K:W.Frag) (f:Addr):Prop:=W.keepIn K (.ref f)=true
theorem aHB {l:W.OpenLaw} {w:World} {K:W.Frag} {h:Heap} {mg:Str→Option Value} {fa:Addr} {f0 f1 f2 f3 f4 f5 f6 f7 f8 f9 f10 f11 f12 f13 f14 f15 f16 f17 f18 f19 f20 f21 f22 f23 f24 f25 f26 f27 f28 f29 f30 f31 f32 f33 f34 f35 f36 f37 f38 f39 f40 f41 f42 f43 f44 f45 f46 f47 f48 f49 f50 f51 f52 f53 f54 f55:Addr} {pm0 cd0 pm1 cd1 pm2 cd2 pm3 cd3 pm4 cd4 pm5 cd5 pm6 cd6 pm7 cd7 pm8 cd8 pm9 cd9 pm10 cd10 pm11 cd11 pm12 cd12 pm13 cd13 pm14 cd14 pm15 cd15 pm16 cd16 pm17 cd17 pm18 cd18 pm19 cd19 pm20 cd20 pm21 cd21 pm22 cd22 pm23 cd23 pm24 cd24 pm25 cd25 pm26 cd26 pm27 cd27 pm28 cd28 pm29 cd29 pm30 cd30 pm31 cd31 pm32 cd32 pm33 cd33 pm34 cd34 pm35 cd35 pm36 cd36 pm37 cd37 pm38 cd38 pm39 cd39 pm40 cd40 pm41 cd41 pm42 cd42 pm43 cd43 pm44 cd44 pm45 cd45 pm46 cd46 pm47 cd47 pm48 cd48 pm49 cd49 pm50 cd50 pm51 cd51 pm52 cd52 pm53 cd53 pm54 cd54 pm55 cd55:Value} (X:K.In h) (G:h.Ns mainGlobals mg) (hfa:mg "law"=some (.ref fa))
    {C_Shade:Addr} (u1:zA K "Shade" C_Shade) (u2:W.plainGet K C_Shade Str.empty=true) (u3:W.hasDictIn K C_Shade=true) (u4:W.plainOver K C_Shade=true) (u5:W.findIn K (.ref C_Shade) "__setattr__"=some (some (.builtin "object.__setattr__"))) (u6:W.makesIn K C_Shade=true) (u7:zK K C_Shade)
    (u8:W.findIn K (.ref C_Shade) "__class__"=some (some (.builtin "object.__class__"))) (u9:W.specialIn K (.builtin "object.__class__") "__get__"=some (some (.builtin "getset_descriptor.__get__"))) (ua:W.takesIn K (.builtin "object.__class__")=some true) (ub:W.mroIn K C_Shade (.type "object")=some true)
    (uc:W.kitOne K (.type "NoneType") (.ref C_Shade)=some false)
    (ud:W.kitOne K (.type "bool") (.ref C_Shade)=some false)
    (ue:W.kitOne K (.type "int") (.ref C_Shade)=some false)
    (uf:W.kitOne K (.type "str") (.ref C_Shade)=some false)
    (u10:W.kitOne K (.type "list") (.ref C_Shade)=some false)
    (u11:W.kitOne K (.type "tuple") (.ref C_Shade)=some false)
    (u12:W.kitOne K (.type "dict") (.ref C_Shade)=some false)
    (u13:W.kitOne K (.ref C_Shade) (.type "int")=some false)
    (u14:W.kitOne K (.ref C_Shade) (.type "bool")=some false)
    (u15:W.kitOne K (.ref C_Shade) (.type "tuple")=some false)
    (u16:W.kitOne K (.ref C_Shade) (.type "str")=some false)
    (u17:W.kitOne K (.ref C_Shade) (.type "list")=some false)
    (u18:W.kitOne K (.ref C_Shade) (.type "dict")=some false)
    (u19:W.findIn K (.ref C_Shade) "ember"=some none)
    (u1a:W.findIn K (.ref C_Shade) "leaf"=some none)
    (u1b:W.findIn K (.ref C_Shade) "sky"=some none)
    {ac_HALF:Addr} {t1_HALF t2_HALF:Tok} {odc_HALF:Option Addr} {nc_HALF:Nat} {slc_HALF:Array (Option Value)} (u1c:zA K "HALF" ac_HALF) (u1d:K.lookup ac_HALF=some ⟨.type "tuple",none,.seq #[.int 1 t1_HALF,.int 2 t2_HALF] nc_HALF,slc_HALF⟩)
    {tk_MOST_DEEDS:Tok} (u1e:W.nsIn K mainGlobals "MOST_DEEDS"=some (some (.int 20 tk_MOST_DEEDS)))
    {tk_MOST_SHADES:Tok} (u1f:W.nsIn K mainGlobals "MOST_SHADES"=some (some (.int 60 tk_MOST_SHADES)))
    {tk_MOST_WEIGHT:Tok} (u20:W.nsIn K mainGlobals "MOST_WEIGHT"=some (some (.int 1000000 tk_MOST_WEIGHT)))
    {ac_ONE:Addr} {t1_ONE t2_ONE:Tok} {odc_ONE:Option Addr} {nc_ONE:Nat} {slc_ONE:Array (Option Value)} (u21:zA K "ONE" ac_ONE) (u22:K.lookup ac_ONE=some ⟨.type "tuple",none,.seq #[.int 1 t1_ONE,.int 1 t2_ONE] nc_ONE,slc_ONE⟩)
    {ac_STRETCHES:Addr} {odc_STRETCHES:Option Addr} {nc_STRETCHES:Nat} {slc_STRETCHES:Array (Option Value)} {ac0_STRETCHES ac1_STRETCHES ac2_STRETCHES ac3_STRETCHES ac4_STRETCHES ac5_STRETCHES:Addr} (u23:zA K "STRETCHES" ac_STRETCHES) (u24:K.lookup ac_STRETCHES=some ⟨.type "tuple",none,.seq #[.ref ac0_STRETCHES,.ref ac1_STRETCHES,.ref ac2_STRETCHES,.ref ac3_STRETCHES,.ref ac4_STRETCHES,.ref ac5_STRETCHES] nc_STRETCHES,slc_STRETCHES⟩)
    {t0_0_STRETCHES t0_1_STRETCHES t0_2_STRETCHES t0_3_STRETCHES t0_4_STRETCHES:Tok} {od0_STRETCHES:Option Addr} {n0_STRETCHES:Nat} {sl0_STRETCHES:Array (Option Value)} (u25:K.lookup ac0_STRETCHES=some ⟨.type "tuple",none,.seq #[.int (0) t0_0_STRETCHES,.int (2) t0_1_STRETCHES,.int (1) t0_2_STRETCHES,.int (0) t0_3_STRETCHES,.int (1) t0_4_STRETCHES] n0_STRETCHES,sl0_STRETCHES⟩)
    {t1_0_STRETCHES t1_1_STRETCHES t1_2_STRETCHES t1_3_STRETCHES t1_4_STRETCHES:Tok} {od1_STRETCHES:Option Addr} {n1_STRETCHES:Nat} {sl1_STRETCHES:Array (Option Value)} (u26:K.lookup ac1_STRETCHES=some ⟨.type "tuple",none,.seq #[.int (1) t1_0_STRETCHES,.int (2) t1_1_STRETCHES,.int (0) t1_2_STRETCHES,.int (2) t1_3_STRETCHES,.int (-1) t1_4_STRETCHES] n1_STRETCHES,sl1_STRETCHES⟩)
    {t2_0_STRETCHES t2_1_STRETCHES t2_2_STRETCHES t2_3_STRETCHES t2_4_STRETCHES:Tok} {od2_STRETCHES:Option Addr} {n2_STRETCHES:Nat} {sl2_STRETCHES:Array (Option Value)} (u27:K.lookup ac2_STRETCHES=some ⟨.type "tuple",none,.seq #[.int (1) t2_0_STRETCHES,.int (0) t2_1_STRETCHES,.int (2) t2_2_STRETCHES,.int (2) t2_3_STRETCHES,.int (1) t2_4_STRETCHES] n2_STRETCHES,sl2_STRETCHES⟩)
    {t3_0_STRETCHES t3_1_STRETCHES t3_2_STRETCHES t3_3_STRETCHES t3_4_STRETCHES:Tok} {od3_STRETCHES:Option Addr} {n3_STRETCHES:Nat} {sl3_STRETCHES:Array (Option Value)} (u28:K.lookup ac3_STRETCHES=some ⟨.type "tuple",none,.seq #[.int (2) t3_0_STRETCHES,.int (0) t3_1_STRETCHES,.int (1) t3_2_STRETCHES,.int (4) t3_3_STRETCHES,.int (-1) t3_4_STRETCHES] n3_STRETCHES,sl3_STRETCHES⟩)
    {t4_0_STRETCHES t4_1_STRETCHES t4_2_STRETCHES t4_3_STRETCHES t4_4_STRETCHES:Tok} {od4_STRETCHES:Option Addr} {n4_STRETCHES:Nat} {sl4_STRETCHES:Array (Option Value)} (u29:K.lookup ac4_STRETCHES=some ⟨.type "tuple",none,.seq #[.int (2) t4_0_STRETCHES,.int (1) t4_1_STRETCHES,.int (0) t4_2_STRETCHES,.int (4) t4_3_STRETCHES,.int (1) t4_4_STRETCHES] n4_STRETCHES,sl4_STRETCHES⟩)
    {t5_0_STRETCHES t5_1_STRETCHES t5_2_STRETCHES t5_3_STRETCHES t5_4_STRETCHES:Tok} {od5_STRETCHES:Option Addr} {n5_STRETCHES:Nat} {sl5_STRETCHES:Array (Option Value)} (u2a:K.lookup ac5_STRETCHES=some ⟨.type "tuple",none,.seq #[.int (0) t5_0_STRETCHES,.int (1) t5_1_STRETCHES,.int (2) t5_2_STRETCHES,.int (6) t5_3_STRETCHES,.int (-1) t5_4_STRETCHES] n5_STRETCHES,sl5_STRETCHES⟩)
    {ac_ZERO:Addr} {t1_ZERO t2_ZERO:Tok} {odc_ZERO:Option Addr} {nc_ZERO:Nat} {slc_ZERO:Array (Option Value)} (u2b:zA K "ZERO" ac_ZERO) (u2c:K.lookup ac_ZERO=some ⟨.type "tuple",none,.seq #[.int 0 t1_ZERO,.int 1 t2_ZERO] nc_ZERO,slc_ZERO⟩)
    {ad_BY_WORD:Addr} {nd_BY_WORD:Nat} {td0_BY_WORD td1_BY_WORD td2_BY_WORD td3_BY_WORD:Tok} (u2d:zA K "BY_WORD" ad_BY_WORD) (u2e:K.lookup ad_BY_WORD=some ⟨.type "dict",none,.dict #[⟨PyData.keyHash w.params ("lighter":Str),.str "lighter" td0_BY_WORD,.ref f25⟩,⟨PyData.keyHash w.params ("darker":Str),.str "darker" td1_BY_WORD,.ref f22⟩,⟨PyData.keyHash w.params ("duller":Str),.str "duller" td2_BY_WORD,.ref f24⟩,⟨PyData.keyHash w.params ("turned":Str),.str "turned" td3_BY_WORD,.ref f26⟩] nd_BY_WORD, #[]⟩) (u2f:(ad_BY_WORD == sysModules)=false)
    (a0:zA K "_law_cell" f0)
    (l0:zL K f0 "_law_cell" "_law_cell" eO .none pm0 cd0) (c0:zC K cd0 "_law_cell") (k0:zK K f0)
    (a1:zA K "common" f1)
    (l1:zL K f1 "common" "common" eH .none pm1 cd1) (c1:zC K cd1 "common") (k1:zK K f1)
    (a2:zA K "is_whole" f2)
    (l2:zL K f2 "is_whole" "is_whole" cC .none pm2 cd2) (c2:zC K cd2 "is_whole") (k2:zK K f2)
    (a3:zA K "is_fraction" f3)
    (l3:zL K f3 "is_fraction" "is_fraction" bB .none pm3 cd3) (c3:zC K cd3 "is_fraction") (k3:zK K f3)
    (a4:zA K "is_share" f4)
    (l4:zL K f4 "is_share" "is_share" bX .none pm4 cd4) (c4:zC K cd4 "is_share") (k4:zK K f4)
    (a5:W.findIn K (.ref C_Shade) "__init__"=some (some (.ref f5))) (i5:W.isFn K (.ref f5)=true)
    (l5:zL K f5 "__init__" "Shade.__init__" aO .none pm5 cd5) (c5:zC K cd5 "Shade.__init__") (k5:zK K f5)
    (a6:zA K "_law_pick" f6)
    (l6:zL K f6 "_law_pick" "_law_pick" eQ .none pm6 cd6) (c6:zC K cd6 "_law_pick") (k6:zK K f6)
    (a7:zA K "_law_made" f7)
    (l7:zL K f7 "_law_made" "_law_made" eK .none pm7 cd7) (c7:zC K cd7 "_law_made") (k7:zK K f7)
    (a8:zA K "is_shade" f8)
    (l8:zL K f8 "is_shade" "is_shade" cF .none pm8 cd8) (c8:zC K cd8 "is_shade") (k8:zK K f8)
    (a9:zA K "need_shade" f9)
    (l9:zL K f9 "need_shade" "need_shade" bI .none pm9 cd9) (c9:zC K cd9 "need_shade") (k9:zK K f9)
    (a10:zA K "shares_of" f10)
    (l10:zL K f10 "shares_of" "shares_of" bP .none pm10 cd10) (c10:zC K cd10 "shares_of") (k10:zK K f10)
    (a11:W.findIn K (.ref C_Shade) "__eq__"=some (some (.ref f11))) (i11:W.isFn K (.ref f11)=true)
    (l11:zL K f11 "__eq__" "Shade.__eq__" aZ .none pm11 cd11) (c11:zC K cd11 "Shade.__eq__") (k11:zK K f11)
    (a12:zA K "_law_alike" f12)
    (l12:zL K f12 "_law_alike" "_law_alike" dD .none pm12 cd12) (c12:zC K cd12 "_law_alike") (k12:zK K f12)
    (a13:zA K "lowest" f13)
    (l13:zL K f13 "lowest" "lowest" eN .none pm13 cd13) (c13:zC K cd13 "lowest") (k13:zK K f13)
    (a14:zA K "need_fractions" f14)
    (l14:zL K f14 "need_fractions" "need_fractions" aP .none pm14 cd14) (c14:zC K cd14 "need_fractions") (k14:zK K f14)
    (a15:zA K "minus" f15)
    (l15:zL K f15 "minus" "minus" gN .none pm15 cd15) (c15:zC K cd15 "minus") (k15:zK K f15)
    (a16:zA K "shade_of" f16)
    (l16:zL K f16 "shade_of" "shade_of" bZ .none pm16 cd16) (c16:zC K cd16 "shade_of") (k16:zK K f16)
    (a17:zA K "opposite" f17)
    (l17:zL K f17 "opposite" "opposite" bW .none pm17 cd17) (c17:zC K cd17 "opposite") (k17:zK K f17)
    (a18:zA K "part_of" f18)
    (l18:zL K f18 "part_of" "part_of" dF .none pm18 cd18) (c18:zC K cd18 "part_of") (k18:zK K f18)
    (a19:zA K "plus" f19)
    (l19:zL K f19 "plus" "plus" kT .none pm19 cd19) (c19:zC K cd19 "plus") (k19:zK K f19)
    (a20:zA K "times" f20)
    (l20:zL K f20 "times" "times" gJ .none pm20 cd20) (c20:zC K cd20 "times") (k20:zK K f20)
    (a21:zA K "toward" f21)
    (l21:zL K f21 "toward" "toward" eF .none pm21 cd21) (c21:zC K cd21 "toward") (k21:zK K f21)
    {bd22:Addr} {ocd22:Value} {odd22:Option Addr} {nd22:Nat} {sld22:Array (Option Value)}
    (a22:zA K "darker" f22)
    (l22:zL K f22 "darker" "darker" eT (.ref bd22) pm22 cd22) (c22:zC K cd22 "darker") (k22:zK K f22)
    (u30:K.lookup bd22=some ⟨ocd22,odd22,.seq #[.none] nd22,sld22⟩)
    (a23:zA K "over" f23)
    (l23:zL K f23 "over" "over" kN .none pm23 cd23) (c23:zC K cd23 "over") (k23:zK K f23)
    {bd24:Addr} {ocd24:Value} {odd24:Option Addr} {nd24:Nat} {sld24:Array (Option Value)}
    (a24:zA K "duller" f24)
    (l24:zL K f24 "duller" "duller" eU (.ref bd24) pm24 cd24) (c24:zC K cd24 "duller") (k24:zK K f24)
    (u31:K.lookup bd24=some ⟨ocd24,odd24,.seq #[.none] nd24,sld24⟩)
    {bd25:Addr} {ocd25:Value} {odd25:Option Addr} {nd25:Nat} {sld25:Array (Option Value)}
    (a25:zA K "lighter" f25)
    (l25:zL K f25 "lighter" "lighter" dG (.ref bd25) pm25 cd25) (c25:zC K cd25 "lighter") (k25:zK K f25)
    (u32:K.lookup bd25=some ⟨ocd25,odd25,.seq #[.none] nd25,sld25⟩)
    {bd26:Addr} {ocd26:Value} {odd26:Option Addr} {nd26:Nat} {sld26:Array (Option Value)}
    (a26:zA K "turned" f26)
    (l26:zL K f26 "turned" "turned" eJ (.ref bd26) pm26 cd26) (c26:zC K cd26 "turned") (k26:zK K f26)
    (u33:K.lookup bd26=some ⟨ocd26,odd26,.seq #[.none] nd26,sld26⟩)
    (a27:zA K "do_one" f27)
    (l27:zL K f27 "do_one" "do_one" eP .none pm27 cd27) (c27:zC K cd27 "do_one") (k27:zK K f27)
    (a28:zA K "is_by" f28)
    (l28:zL K f28 "is_by" "is_by" gM .none pm28 cd28) (c28:zC K cd28 "is_by") (k28:zK K f28)
    (a29:zA K "is_deed" f29)
    (l29:zL K f29 "is_deed" "is_deed" dH .none pm29 cd29) (c29:zC K cd29 "is_deed") (k29:zK K f29)
    (a30:zA K "need_deeds" f30)
    (l30:zL K f30 "need_deeds" "need_deeds" bH .none pm30 cd30) (c30:zC K cd30 "need_deeds") (k30:zK K f30)
    (a31:zA K "done" f31)
    (l31:zL K f31 "done" "done" jY .none pm31 cd31) (c31:zC K cd31 "done") (k31:zK K f31)
    (a32:zA K "are_shades" f32)
    (l32:zL K f32 "are_shades" "are_shades" bF .none pm32 cd32) (c32:zC K cd32 "are_shades") (k32:zK K f32)
    (a33:zA K "is_weight" f33)
    (l33:zL K f33 "is_weight" "is_weight" bQ .none pm33 cd33) (c33:zC K cd33 "is_weight") (k33:zK K f33)
    (a34:zA K "are_weights" f34)
    (l34:zL K f34 "are_weights" "are_weights" bC .none pm34 cd34) (c34:zC K cd34 "are_weights") (k34:zK K f34)
    {bd35:Addr} {ocd35:Value} {odd35:Option Addr} {nd35:Nat} {sld35:Array (Option Value)} {td35_0:Tok}
    (a35:zA K "fraction" f35)
    (l35:zL K f35 "fraction" "fraction" cA (.ref bd35) pm35 cd35) (c35:zC K cd35 "fraction") (k35:zK K f35)
    (u34:K.lookup bd35=some ⟨ocd35,odd35,.seq #[.int 1 td35_0] nd35,sld35⟩)
    (a36:zA K "mean_share" f36)
    (l36:zL K f36 "mean_share" "mean_share" bG .none pm36 cd36) (c36:zC K cd36 "mean_share") (k36:zK K f36)
    {bd37:Addr} {ocd37:Value} {odd37:Option Addr} {nd37:Nat} {sld37:Array (Option Value)}
    (a37:zA K "mix" f37)
    (l37:zL K f37 "mix" "mix" lB (.ref bd37) pm37 cd37) (c37:zC K cd37 "mix") (k37:zK K f37)
    (u35:K.lookup bd37=some ⟨ocd37,odd37,.seq #[.none] nd37,sld37⟩)
    (a38:zA K "_law_mixed_right" f38)
    (l38:zL K f38 "_law_mixed_right" "_law_mixed_right" aU .none pm38 cd38) (c38:zC K cd38 "_law_mixed_right") (k38:zK K f38)
    (a39:zA K "_law_purse" f39)
    (l39:zL K f39 "_law_purse" "_law_purse" dE .none pm39 cd39) (c39:zC K cd39 "_law_purse") (k39:zK K f39)
    (a40:zA K "_law_low" f40)
    (l40:zL K f40 "_law_low" "_law_low" gI .none pm40 cd40) (c40:zC K cd40 "_law_low") (k40:zK K f40)
    (a41:zA K "_law_share" f41)
    (l41:zL K f41 "_law_share" "_law_share" cZ .none pm41 cd41) (c41:zC K cd41 "_law_share") (k41:zK K f41)
    (a42:zA K "_law_shares" f42)
    (l42:zL K f42 "_law_shares" "_law_shares" cH .none pm42 cd42) (c42:zC K cd42 "_law_shares") (k42:zK K f42)
    (a43:zA K "_law_turned_right" f43)
    (l43:zL K f43 "_law_turned_right" "_law_turned_right" aQ .none pm43 cd43) (c43:zC K cd43 "_law_turned_right") (k43:zK K f43)
    (a44:zA K "_law_minus" f44)
    (l44:zL K f44 "_law_minus" "_law_minus" dI .none pm44 cd44) (c44:zC K cd44 "_law_minus") (k44:zK K f44)
    (a45:zA K "_law_plus" f45)
    (l45:zL K f45 "_law_plus" "_law_plus" eR .none pm45 cd45) (c45:zC K cd45 "_law_plus") (k45:zK K f45)
    (a46:zA K "_law_times" f46)
    (l46:zL K f46 "_law_times" "_law_times" dA .none pm46 cd46) (c46:zC K cd46 "_law_times") (k46:zK K f46)
    (a47:zA K "_law_twice_right" f47)
    (l47:zL K f47 "_law_twice_right" "_law_twice_right" aT .none pm47 cd47) (c47:zC K cd47 "_law_twice_right") (k47:zK K f47)
    (a48:zA K "_law_weights" f48)
    (l48:zL K f48 "_law_weights" "_law_weights" bM .none pm48 cd48) (c48:zC K cd48 "_law_weights") (k48:zK K f48)
    (a49:zA K "less" f49)
    (l49:zL K f49 "less" "less" kJ .none pm49 cd49) (c49:zC K cd49 "less") (k49:zK K f49)
    (a50:zA K "below" f50)
    (l50:zL K f50 "below" "below" gK .none pm50 cd50) (c50:zC K cd50 "below") (k50:zK K f50)
    (a51:zA K "falls" f51)
    (l51:zL K f51 "falls" "falls" gO .none pm51 cd51) (c51:zC K cd51 "falls") (k51:zK K f51)
    (a52:zA K "stretch_of" f52)
    (l52:zL K f52 "stretch_of" "stretch_of" bJ .none pm52 cd52) (c52:zC K cd52 "stretch_of") (k52:zK K f52)
    (a53:zA K "wheel_of" f53)
    (l53:zL K f53 "wheel_of" "wheel_of" bY .none pm53 cd53) (c53:zC K cd53 "wheel_of") (k53:zK K f53)
    (a54:zA K "_law_wheel_right" f54)
    (l54:zL K f54 "_law_wheel_right" "_law_wheel_right" aS .none pm54 cd54) (c54:zC K cd54 "_law_wheel_right") (k54:zK K f54)
    (a55:zA K "law" f55)
    (l55:zL K f55 "law" "law" lO .none pm55 cd55) (c55:zC K cd55 "law") (k55:zK K f55)
    (u36:W.nsIn K mainGlobals "abs"=some none)
    (u37:W.nsIn K mainGlobals "all"=some none)
    (u38:W.nsIn K mainGlobals "bool"=some none)
    (u39:W.nsIn K mainGlobals "enumerate"=some none)
    (u3a:W.nsIn K mainGlobals "int"=some none)
    (u3b:W.nsIn K mainGlobals "isinstance"=some none)
    (u3c:W.nsIn K mainGlobals "len"=some none)
    (u3d:W.nsIn K mainGlobals "max"=some none)
    (u3e:W.nsIn K mainGlobals "min"=some none)
    (u3f:W.nsIn K mainGlobals "range"=some none)
    (u40:W.nsIn K mainGlobals "str"=some none)
    (u41:W.nsIn K mainGlobals "sum"=some none)
    (u42:W.nsIn K mainGlobals "tuple"=some none)
    (u43:W.nsIn K mainGlobals "zip"=some none)
    :∃ fd:FuncData,(∀ (s:Shared) (v:Value),BindsTo s fd ⟨[v],[]⟩ [("_law_script",v)])∧∀ base:Heap,K.In base→base.Ns mainGlobals mg→cJ l.prog w K mg base CX0 22 fa fd ["_law_script"] (NN K):=by
  have e:=hfa.symm.trans (W.mg_of X G a55)
  have e2:f55=fa:=by injection e with e; injection e with e; exact e.symm
  subst e2
  have T:Tx w K mg (fun i=>([f0,f1,f2,f3,f4,f5,f6,f7,f8,f9,f10,f11,f12,f13,f14,f15,f16,f17,f18,f19,f20,f21,f22,f23,f24,f25,f26,f27,f28,f29,f30,f31,f32,f33,f34,f35,f36,f37,f38,f39,f40,f41,f42,f43,f44,f45,f46,f47,f48,f49,f50,f51,f52,f53,f54,f55,C_Shade]:List Addr).getD i 0) (fun i=>([fX "_law_cell" "_law_cell" eO .none pm0 cd0,fX "common" "common" eH .none pm1 cd1,fX "is_whole" "is_whole" cC .none pm2 cd2,fX "is_fraction" "is_fraction" bB .none pm3 cd3,fX "is_share" "is_share" bX .none pm4 cd4,fX "__init__" "Shade.__init__" aO .none pm5 cd5,fX "_law_pick" "_law_pick" eQ .none pm6 cd6,fX "_law_made" "_law_made" eK .none pm7 cd7,fX "is_shade" "is_shade" cF .none pm8 cd8,fX "need_shade" "need_shade" bI .none pm9 cd9,fX "shares_of" "shares_of" bP .none pm10 cd10,fX "__eq__" "Shade.__eq__" aZ .none pm11 cd11,fX "_law_alike" "_law_alike" dD .none pm12 cd12,fX "lowest" "lowest" eN .none pm13 cd13,fX "need_fractions" "need_fractions" aP .none pm14 cd14,fX "minus" "minus" gN .none pm15 cd15,fX "shade_of" "shade_of" bZ .none pm16 cd16,fX "opposite" "opposite" bW .none pm17 cd17,fX "part_of" "part_of" dF .none pm18 cd18,fX "plus" "plus" kT .none pm19 cd19,fX "times" "times" gJ .none pm20 cd20,fX "toward" "toward" eF .none pm21 cd21,fX "darker" "darker" eT (.ref bd22) pm22 cd22,fX "over" "over" kN .none pm23 cd23,fX "duller" "duller" eU (.ref bd24) pm24 cd24,fX "lighter" "lighter" dG (.ref bd25) pm25 cd25,fX "turned" "turned" eJ (.ref bd26) pm26 cd26,fX "do_one" "do_one" eP .none pm27 cd27,fX "is_by" "is_by" gM .none pm28 cd28,fX "is_deed" "is_deed" dH .none pm29 cd29,fX "need_deeds" "need_deeds" bH .none pm30 cd30,fX "done" "done" jY .none pm31 cd31,fX "are_shades" "are_shades" bF .none pm32 cd32,fX "is_weight" "is_weight" bQ .none pm33 cd33,fX "are_weights" "are_weights" bC .none pm34 cd34,fX "fraction" "fraction" cA (.ref bd35) pm35 cd35,fX "mean_share" "mean_share" bG .none pm36 cd36,fX "mix" "mix" lB (.ref bd37) pm37 cd37,fX "_law_mixed_right" "_law_mixed_right" aU .none pm38 cd38,fX "_law_purse" "_law_purse" dE .none pm39 cd39,fX "_law_low" "_law_low" gI .none pm40 cd40,fX "_law_share" "_law_share" cZ .none pm41 cd41,fX "_law_shares" "_law_shares" cH .none pm42 cd42,fX "_law_turned_right" "_law_turned_right" aQ .none pm43 cd43,fX "_law_minus" "_law_minus" dI .none pm44 cd44,fX "_law_plus" "_law_plus" eR .none pm45 cd45,fX "_law_times" "_law_times" dA .none pm46 cd46,fX "_law_twice_right" "_law_twice_right" aT .none pm47 cd47,fX "_law_weights" "_law_weights" bM .none pm48 cd48,fX "less" "less" kJ .none pm49 cd49,fX "below" "below" gK .none pm50 cd50,fX "falls" "falls" gO .none pm51 cd51,fX "stretch_of" "stretch_of" bJ .none pm52 cd52,fX "wheel_of" "wheel_of" bY .none pm53 cd53,fX "_law_wheel_right" "_law_wheel_right" aS .none pm54 cd54,fX "law" "law" lO .none pm55 cd55]:List FuncData).getD i (fX "law" "law" lO .none pm55 cd55)) (fun i=>([.none,.none,.none,.none,.none,.none,.none,.none,.none,.none,.none,.none,.none,.none,.none,.none,.none,.none,.none,.none,.none,.none,.ref bd22,.none,.ref bd24,.ref bd25,.ref bd26,.none,.none,.none,.none,.none,.none,.none,.none,.ref bd35,.none,.ref bd37,.none,.none,.none,.none,.none,.none,.none,.none,.none,.none,.none,.none,.none,.none,.none,.none,.none,.none]:List Value).getD i .none) :=
    ⟨aD (st:=eO) l0 c0 k0,
     W.mg_of X G a0,
     aD (st:=eH) l1 c1 k1,
     W.mg_of X G a1,
     aD (st:=cC) l2 c2 k2,
     W.mg_of X G a2,
     aD (st:=bB) l3 c3 k3,
     W.mg_of X G a3,
     aD (st:=bX) l4 c4 k4,
     W.mg_of X G a4,
     aD (st:=aO) l5 c5 k5,
     aD (st:=eQ) l6 c6 k6,
     W.mg_of X G a6,
     aD (st:=eK) l7 c7 k7,
     W.mg_of X G a7,
     aD (st:=cF) l8 c8 k8,
     W.mg_of X G a8,
     aD (st:=bI) l9 c9 k9,
     W.mg_of X G a9,
     aD (st:=bP) l10 c10 k10,
     W.mg_of X G a10,
     aD (st:=aZ) l11 c11 k11,
     ⟨a11,i11,k11⟩,
     aD (st:=dD) l12 c12 k12,
     W.mg_of X G a12,
     aD (st:=eN) l13 c13 k13,
     W.mg_of X G a13,
     aD (st:=aP) l14 c14 k14,
     W.mg_of X G a14,
     aD (st:=gN) l15 c15 k15,
     W.mg_of X G a15,
     aD (st:=bZ) l16 c16 k16,
     W.mg_of X G a16,
     aD (st:=bW) l17 c17 k17,
     W.mg_of X G a17,
     aD (st:=dF) l18 c18 k18,
     W.mg_of X G a18,
     aD (st:=kT) l19 c19 k19,
     W.mg_of X G a19,
     aD (st:=gJ) l20 c20 k20,
     W.mg_of X G a20,
     aD (st:=eF) l21 c21 k21,
     W.mg_of X G a21,
     aD (st:=eT) l22 c22 k22,
     ⟨_,_,_,_,_,rfl,u30⟩,
     W.mg_of X G a22,
     aD (st:=kN) l23 c23 k23,
     W.mg_of X G a23,
     aD (st:=eU) l24 c24 k24,
     ⟨_,_,_,_,_,rfl,u31⟩,
     W.mg_of X G a24,
     aD (st:=dG) l25 c25 k25,
     ⟨_,_,_,_,_,rfl,u32⟩,
     W.mg_of X G a25,
     aD (st:=eJ) l26 c26 k26,
     ⟨_,_,_,_,_,rfl,u33⟩,
     W.mg_of X G a26,
     aD (st:=eP) l27 c27 k27,
     W.mg_of X G a27,
     aD (st:=gM) l28 c28 k28,
     W.mg_of X G a28,
     aD (st:=dH) l29 c29 k29,
     W.mg_of X G a29,
     aD (st:=bH) l30 c30 k30,
     W.mg_of X G a30,
     aD (st:=jY) l31 c31 k31,
     W.mg_of X G a31,
     aD (st:=bF) l32 c32 k32,
     W.mg_of X G a32,
     aD (st:=bQ) l33 c33 k33,
     W.mg_of X G a33,
     aD (st:=bC) l34 c34 k34,
     W.mg_of X G a34,
     aD (st:=cA) l35 c35 k35,
     ⟨_,_,_,_,_,_,rfl,u34⟩,
     W.mg_of X G a35,
     aD (st:=bG) l36 c36 k36,
     W.mg_of X G a36,
     aD (st:=lB) l37 c37 k37,
     ⟨_,_,_,_,_,rfl,u35⟩,
     W.mg_of X G a37,
     aD (st:=aU) l38 c38 k38,
     W.mg_of X G a38,
     aD (st:=dE) l39 c39 k39,
     W.mg_of X G a39,
     aD (st:=gI) l40 c40 k40,
     W.mg_of X G a40,
     aD (st:=cZ) l41 c41 k41,
     W.mg_of X G a41,
     aD (st:=cH) l42 c42 k42,
     W.mg_of X G a42,
     aD (st:=aQ) l43 c43 k43,
     W.mg_of X G a43,
     aD (st:=dI) l44 c44 k44,
     W.mg_of X G a44,
     aD (st:=eR) l45 c45 k45,
     W.mg_of X G a45,
     aD (st:=dA) l46 c46 k46,
     W.mg_of X G a46,
     aD (st:=aT) l47 c47 k47,
     W.mg_of X G a47,
     aD (st:=bM) l48 c48 k48,
     W.mg_of X G a48,
     aD (st:=kJ) l49 c49 k49,
     W.mg_of X G a49,
     aD (st:=gK) l50 c50 k50,
     W.mg_of X G a50,
     aD (st:=gO) l51 c51 k51,
     W.mg_of X G a51,
     aD (st:=bJ) l52 c52 k52,
     W.mg_of X G a52,
     aD (st:=bY) l53 c53 k53,
     W.mg_of X G a53,
     aD (st:=aS) l54 c54 k54,
     W.mg_of X G a54,
     aD (st:=lO) l55 c55 k55,
     W.mg_of X G a55,
     ⟨⟨u2,u3,u4,u5⟩,u8,u9,ua,ub⟩,
     W.mg_of X G u1,
     ⟨u6,a5,i5,u7⟩,
     ac (uc) (ac (ud) (ac (ue) (ac (uf) (ac (u10) (ac (u11) (ac (u12) (an))))))),
     ac (u13) (ac (u14) (ac (u15) (ac (u16) (ac (u17) (ac (u18) (an)))))),
     u19,
     u1a,
     u1b,
     ⟨_,_,_,_,_,W.mg_of X G u1c,u1d⟩,
     ⟨tk_MOST_DEEDS,W.mg_of X G u1e⟩,
     ⟨tk_MOST_SHADES,W.mg_of X G u1f⟩,
     ⟨tk_MOST_WEIGHT,W.mg_of X G u20⟩,
     ⟨_,_,_,_,_,W.mg_of X G u21,u22⟩,
     ⟨_,_,_,_,_,_,_,_,_,W.mg_of X G u23,u24,⟨_,_,_,u25,(.cons ⟨_,rfl⟩ (.cons ⟨_,rfl⟩ (.cons ⟨_,rfl⟩ (.cons ⟨_,rfl⟩ (.cons ⟨_,rfl⟩ .nil)))))⟩,⟨_,_,_,u26,(.cons ⟨_,rfl⟩ (.cons ⟨_,rfl⟩ (.cons ⟨_,rfl⟩ (.cons ⟨_,rfl⟩ (.cons ⟨_,rfl⟩ .nil)))))⟩,⟨_,_,_,u27,(.cons ⟨_,rfl⟩ (.cons ⟨_,rfl⟩ (.cons ⟨_,rfl⟩ (.cons ⟨_,rfl⟩ (.cons ⟨_,rfl⟩ .nil)))))⟩,⟨_,_,_,u28,(.cons ⟨_,rfl⟩ (.cons ⟨_,rfl⟩ (.cons ⟨_,rfl⟩ (.cons ⟨_,rfl⟩ (.cons ⟨_,rfl⟩ .nil)))))⟩,⟨_,_,_,u29,(.cons ⟨_,rfl⟩ (.cons ⟨_,rfl⟩ (.cons ⟨_,rfl⟩ (.cons ⟨_,rfl⟩ (.cons ⟨_,rfl⟩ .nil)))))⟩,⟨_,_,_,u2a,(.cons ⟨_,rfl⟩ (.cons ⟨_,rfl⟩ (.cons ⟨_,rfl⟩ (.cons ⟨_,rfl⟩ (.cons ⟨_,rfl⟩ .nil)))))⟩⟩,
     ⟨_,_,_,_,_,W.mg_of X G u2b,u2c⟩,
     ⟨_,_,_,_,_,_,W.mg_of X G u2d,u2e,u2f⟩,
     W.mg_none_of X G u36,
     W.mg_none_of X G u37,
     W.mg_none_of X G u38,
     W.mg_none_of X G u39,
     W.mg_none_of X G u3a,
     W.mg_none_of X G u3b,
     W.mg_none_of X G u3c,
     W.mg_none_of X G u3d,
     W.mg_none_of X G u3e,
     W.mg_none_of X G u3f,
     W.mg_none_of X G u40,
     W.mg_none_of X G u41,
     W.mg_none_of X G u42,
     W.mg_none_of X G u43⟩
  refine ⟨fX "law" "law" lO .none pm55 cd55,fun s v=>.of_eq rfl,fun base _ _=>?_⟩
  have ok:=aF6 (P:=l.prog) (w:=w) (base:=base) T
  unfold FO at ok
  rw [aEZ] at ok
  exact ok.imp fun vs H Q E h=>aGK h
theorem wsd:W.OpenLaw.wellSaid PySem.Challenge.rw_lightshares_k10_whole_deeds_go_along=true:=by kernel_rfl
noncomputable abbrev hk0:W.Hook:=W.kHook K0 aK fun _=>rfl
noncomputable def mo0 (P:Params):Obj:=⟨.none,none,.dict #[kE P "type.__subclasses__.ArithmeticError.0" 223 (.int 37 0),kE P "type.__subclasses__.ArithmeticError.n" 224 (.int 1 0)] 2, #[]⟩
noncomputable def mo1 (P:Params):Obj:=⟨(.type "dict"),none,.dict #[kE P "__name__" 165 zS1,kE P "__doc__" 166 .none,kE P "__package__" 167 .none,kE P "__loader__" 168 (.builtin "__main__.__loader__#opaque"),kE P "__spec__" 169 .none,kE P "__annotations__" 170 (.ref 6),kE P "__builtins__" 171 (.ref 4),kE P "__file__" 173 (.str "/claim/cut.py" 172),kE P "__cached__" 174 .none,kE P "ShadeError" 206 (.ref 24),kE P "MixError" 226 (.ref 37),kE P "NoNumber" 251 (.ref 57),kE P "NoShade" 276 (.ref 76),kE P "NoPart" 301 (.ref 95),kE P "NoDeed" 326 (.ref 114)] 15, #[]⟩
noncomputable def M2:Obj:=oT []
noncomputable def M3:Obj:=oL [iV 2,iV 0,.ref 20,iV 4,iV 0,.ref 33,iV 6,iV 0,.ref 46,iV 11,iV 0,.ref 65,iV 16,iV 0,.ref 84,iV 21,iV 0,.ref 103]
noncomputable def M4:Obj:=oC [.str "<module>" 182,.str "<module>" 183,fC 184,iV 1,iV 0,iV 0,iV 0,iV 0,.ref 11,.bool false,iV 181,.ref 12,.none,.none,.none,.none,iV 185,iV 1,fC 186]
noncomputable def M5:Obj:=oR 13 3 (.str "__main__" 164)
noncomputable def M6:Obj:=oT [.type "ValueError"]
noncomputable def M7:Obj:=oB "type.__prepare__" (.type "type")
noncomputable def mo8 (P:Params):Obj:=⟨(.type "dict"),none,.dict #[kE P "__module__" 196 zS1,kE P "__qualname__" 198 (.str "ShadeError" 197),kE P "__firstlineno__" 200 (.int 2 199),kE P "__static_attributes__" 201 (.ref 22)] 4, #[]⟩
noncomputable def M9:Obj:=oL []
noncomputable def M10:Obj:=oC [.str "ShadeError" 191,.str "ShadeError" 192,fC 193,iV 2,iV 0,iV 0,iV 0,iV 0,.ref 18,.bool false,iV 181,.ref 19,.none,.none,.none,.none,iV 194,iV 2,fC 195]
noncomputable def M11:Obj:=oR 20 17 zS1
noncomputable def M12:Obj:=⟨(.type "getset_descriptor"),none,.fields #[(.str "__weakref__" 202),(.ref 24),(.builtin "ExceptionGroup.__weakref__"),.none], #[]⟩
noncomputable def M13:Obj:=oS 24
noncomputable def M14:Obj:=oB "object.__init_subclass__" (.ref 24)
noncomputable def M15:Obj:=oT [.type "ArithmeticError"]
noncomputable def aGA (P:Params):Obj:=⟨(.type "dict"),none,.dict #[kE P "__module__" 214 zS1,kE P "__qualname__" 216 (.str "MixError" 215),kE P "__firstlineno__" 218 (.int 4 217),kE P "__static_attributes__" 219 (.ref 35)] 4, #[]⟩
noncomputable def M17:Obj:=oC [.str "MixError" 209,.str "MixError" 210,fC 211,iV 4,iV 0,iV 0,iV 0,iV 0,.ref 31,.bool false,iV 181,.ref 32,.none,.none,.none,.none,iV 212,iV 4,fC 213]
noncomputable def M18:Obj:=oR 33 30 zS1
noncomputable def M19:Obj:=⟨(.type "type"),none,.cls ⟨"MixError",[(.type "ArithmeticError")],[(.ref 37),(.type "ArithmeticError"),(.type "Exception"),(.type "BaseException"),(.type "object")],36,"MixError",true,[],[],false,none,false⟩, #[(some (.ref 28)),none,(some (.str "MixError" 207)),(some (.str "MixError" 215)),(some (.builtin "ArithmeticError.__new__")),(some (.bool true))]⟩
noncomputable def M20:Obj:=⟨(.type "getset_descriptor"),none,.fields #[(.str "__weakref__" 220),(.ref 37),(.builtin "ExceptionGroup.__weakref__"),.none], #[]⟩
noncomputable def M21:Obj:=oS 37
noncomputable def M22:Obj:=oB "object.__init_subclass__" (.ref 37)
noncomputable def M23:Obj:=oT [.ref 24]
noncomputable def aF1 (P:Params):Obj:=⟨(.type "dict"),none,.dict #[kE P "__module__" 234 zS1,kE P "__qualname__" 236 (.str "NoNumber" 235),kE P "__firstlineno__" 238 (.int 6 237),kE P "__init__" 246 (.ref 54),kE P "__static_attributes__" 248 (.ref 55)] 5, #[]⟩
noncomputable def M25:Obj:=oL [iV 8,iV 4,.ref 53]
noncomputable def M26:Obj:=oC [.str "NoNumber" 229,.str "NoNumber" 230,fC 231,iV 6,iV 0,iV 0,iV 0,iV 0,.ref 44,.bool false,iV 181,.ref 45,.none,.none,.none,.none,iV 232,iV 6,fC 233]
noncomputable def M27:Obj:=oR 46 43 zS1
noncomputable def M28:Obj:=oT [.str "self" 242,.str "place" 243]
noncomputable def M29:Obj:=oN "__init__" "NoNumber.__init__" (bK (top 3) 0)
noncomputable def M30:Obj:=oC [.str "__init__" 239,.str "NoNumber.__init__" 240,fC 241,iV 8,iV 2,iV 0,iV 0,iV 3,.ref 48,.bool true,iV 181,.ref 49,.none,.ref 50,.ref 51,.ref 52,iV 244,iV 8,fC 245]
noncomputable def M31:Obj:=oF "__init__" "NoNumber.__init__" (bK (top 3) 0) .none zS1 53
noncomputable def M32:Obj:=oT [.str "place" 247]
noncomputable def M33:Obj:=oS 57
noncomputable def M34:Obj:=oB "object.__init_subclass__" (.ref 57)
noncomputable def aGe (P:Params):Obj:=⟨(.type "dict"),none,.dict #[kE P "__module__" 259 zS1,kE P "__qualname__" 261 (.str "NoShade" 260),kE P "__firstlineno__" 263 (.int 11 262),kE P "__init__" 271 (.ref 73),kE P "__static_attributes__" 273 (.ref 74)] 5, #[]⟩
noncomputable def M36:Obj:=oL [iV 13,iV 4,.ref 72]
noncomputable def M37:Obj:=oC [.str "NoShade" 254,.str "NoShade" 255,fC 256,iV 11,iV 0,iV 0,iV 0,iV 0,.ref 63,.bool false,iV 181,.ref 64,.none,.none,.none,.none,iV 257,iV 11,fC 258]
noncomputable def M38:Obj:=oR 65 62 zS1
noncomputable def M39:Obj:=oT [.str "self" 267,.str "light" 268]
noncomputable def M40:Obj:=oN "__init__" "NoShade.__init__" (bK (top 4) 0)
noncomputable def M41:Obj:=oC [.str "__init__" 264,.str "NoShade.__init__" 265,fC 266,iV 13,iV 2,iV 0,iV 0,iV 3,.ref 67,.bool true,iV 181,.ref 68,.none,.ref 69,.ref 70,.ref 71,iV 269,iV 13,fC 270]
noncomputable def M42:Obj:=oF "__init__" "NoShade.__init__" (bK (top 4) 0) .none zS1 72
noncomputable def M43:Obj:=oT [.str "light" 272]
noncomputable def M44:Obj:=oS 76
noncomputable def M45:Obj:=oB "object.__init_subclass__" (.ref 76)
noncomputable def aIc (P:Params):Obj:=⟨(.type "dict"),none,.dict #[kE P "__module__" 284 zS1,kE P "__qualname__" 286 (.str "NoPart" 285),kE P "__firstlineno__" 288 (.int 16 287),kE P "__init__" 296 (.ref 92),kE P "__static_attributes__" 298 (.ref 93)] 5, #[]⟩
noncomputable def M47:Obj:=oL [iV 18,iV 4,.ref 91]
noncomputable def M48:Obj:=oC [.str "NoPart" 279,.str "NoPart" 280,fC 281,iV 16,iV 0,iV 0,iV 0,iV 0,.ref 82,.bool false,iV 181,.ref 83,.none,.none,.none,.none,iV 282,iV 16,fC 283]
noncomputable def M49:Obj:=oR 84 81 zS1
noncomputable def M50:Obj:=oT [.str "self" 292,.str "part" 293]
noncomputable def M51:Obj:=oN "__init__" "NoPart.__init__" (bK (top 5) 0)
noncomputable def M52:Obj:=oC [.str "__init__" 289,.str "NoPart.__init__" 290,fC 291,iV 18,iV 2,iV 0,iV 0,iV 3,.ref 86,.bool true,iV 181,.ref 87,.none,.ref 88,.ref 89,.ref 90,iV 294,iV 18,fC 295]
noncomputable def M53:Obj:=oF "__init__" "NoPart.__init__" (bK (top 5) 0) .none zS1 91
noncomputable def M54:Obj:=oT [.str "part" 297]
noncomputable def M55:Obj:=oS 95
noncomputable def M56:Obj:=oB "object.__init_subclass__" (.ref 95)
noncomputable def aGv (P:Params):Obj:=⟨(.type "dict"),none,.dict #[kE P "__module__" 309 zS1,kE P "__qualname__" 311 (.str "NoDeed" 310),kE P "__firstlineno__" 313 (.int 21 312),kE P "__init__" 321 (.ref 111),kE P "__static_attributes__" 323 (.ref 112)] 5, #[]⟩
noncomputable def M58:Obj:=oL [iV 23,iV 4,.ref 110]
noncomputable def M59:Obj:=oC [.str "NoDeed" 304,.str "NoDeed" 305,fC 306,iV 21,iV 0,iV 0,iV 0,iV 0,.ref 101,.bool false,iV 181,.ref 102,.none,.none,.none,.none,iV 307,iV 21,fC 308]
noncomputable def M60:Obj:=oR 103 100 zS1
noncomputable def M61:Obj:=oT [.str "self" 317,.str "place" 318]
noncomputable def M62:Obj:=oN "__init__" "NoDeed.__init__" (bK (top 6) 0)
noncomputable def M63:Obj:=oC [.str "__init__" 314,.str "NoDeed.__init__" 315,fC 316,iV 23,iV 2,iV 0,iV 0,iV 3,.ref 105,.bool true,iV 181,.ref 106,.none,.ref 107,.ref 108,.ref 109,iV 319,iV 23,fC 320]
noncomputable def M64:Obj:=oF "__init__" "NoDeed.__init__" (bK (top 6) 0) .none zS1 110
noncomputable def M65:Obj:=oT [.str "place" 322]
noncomputable def M66:Obj:=oS 114
noncomputable def M67:Obj:=oB "object.__init_subclass__" (.ref 114)
noncomputable def aMQ (P:Params):Obj:=⟨(.type "dict"),none,.dict #[kE P "__name__" 165 zS4,kE P "__doc__" 166 .none,kE P "__package__" 167 .none,kE P "__loader__" 168 (.builtin "__main__.__loader__#opaque"),kE P "__spec__" 169 .none,kE P "__annotations__" 170 (.ref 6),kE P "__builtins__" 171 (.ref 4),kE P "__file__" 173 (.str "/claim/cut.py" 172),kE P "__cached__" 174 .none,kE P "ShadeError" 206 (.ref 24),kE P "MixError" 226 (.ref 37),kE P "NoNumber" 251 (.ref 57),kE P "NoShade" 276 (.ref 76),kE P "NoPart" 301 (.ref 95),kE P "NoDeed" 326 (.ref 114),kE P "NoWeights" 351 (.ref 133),kE P "ZERO" 356 (.ref 136),kE P "ONE" 359 (.ref 137),kE P "PIECE_FIGURES" 361 (.int 64 360),kE P "PIECE" 365 (.int 10000000000000000000000000000000000000000000000000000000000000000 364),kE P "is_whole" 372 (.ref 144),kE P "common" 380 (.ref 151),kE P "is_fraction" 389 (.ref 158),kE P "lowest" 398 (.ref 165),kE P "need_fractions" 407 (.ref 172),kE P "fraction" 416 (.ref 180),kE P "plus" 424 (.ref 187),kE P "minus" 432 (.ref 194),kE P "times" 440 (.ref 201),kE P "over" 448 (.ref 208),kE P "less" 456 (.ref 215),kE P "below" 464 (.ref 222),kE P "figures" 473 (.ref 229),kE P "written" 480 (.ref 236),kE P "MOST_SHADES" 484 (.int 60 483),kE P "is_share" 491 (.ref 243),kE P "Shade" 554 (.ref 284),kE P "is_shade" 561 (.ref 295),kE P "need_shade" 568 (.ref 302),kE P "shares_of" 575 (.ref 309),kE P "shade_of" 585 (.ref 316),kE P "are_shades" 591 (.ref 321)] 42, #[]⟩
noncomputable def M69:Obj:=oL [iV 2,iV 0,.ref 20,iV 4,iV 0,.ref 33,iV 6,iV 0,.ref 46,iV 11,iV 0,.ref 65,iV 16,iV 0,.ref 84,iV 21,iV 0,.ref 103,iV 26,iV 0,.ref 122,iV 36,iV 0,.ref 143,iV 38,iV 0,.ref 150,iV 42,iV 0,.ref 157,iV 47,iV 0,.ref 164,iV 52,iV 0,.ref 171,iV 56,iV 0,.ref 179,iV 62,iV 0,.ref 186,iV 65,iV 0,.ref 193,iV 68,iV 0,.ref 200,iV 71,iV 0,.ref 207,iV 76,iV 0,.ref 214,iV 78,iV 0,.ref 221,iV 81,iV 0,.ref 228,iV 88,iV 0,.ref 235,iV 94,iV 0,.ref 242,iV 96,iV 0,.ref 249,iV 117,iV 0,.ref 294,iV 119,iV 0,.ref 301,iV 122,iV 0,.ref 308,iV 125,iV 0,.ref 315,iV 128,iV 0,.ref 320]
noncomputable def M70:Obj:=oT [.ref 37]
noncomputable def aLO (P:Params):Obj:=⟨(.type "dict"),none,.dict #[kE P "__module__" 334 zS1,kE P "__qualname__" 336 (.str "NoWeights" 335),kE P "__firstlineno__" 338 (.int 26 337),kE P "__init__" 346 (.ref 130),kE P "__static_attributes__" 348 (.ref 131)] 5, #[]⟩
noncomputable def M72:Obj:=oL [iV 28,iV 4,.ref 129]
noncomputable def M73:Obj:=oC [.str "NoWeights" 329,.str "NoWeights" 330,fC 331,iV 26,iV 0,iV 0,iV 0,iV 0,.ref 120,.bool false,iV 181,.ref 121,.none,.none,.none,.none,iV 332,iV 26,fC 333]
noncomputable def M74:Obj:=oR 122 119 zS1
noncomputable def M75:Obj:=oT [.str "self" 342,.str "many" 343]
noncomputable def M76:Obj:=oN "__init__" "NoWeights.__init__" (bK (top 7) 0)
noncomputable def M77:Obj:=oC [.str "__init__" 339,.str "NoWeights.__init__" 340,fC 341,iV 28,iV 2,iV 0,iV 0,iV 3,.ref 124,.bool true,iV 181,.ref 125,.none,.ref 126,.ref 127,.ref 128,iV 344,iV 28,fC 345]
noncomputable def M78:Obj:=oF "__init__" "NoWeights.__init__" (bK (top 7) 0) .none zS1 129
noncomputable def M79:Obj:=oT [.str "many" 347]
noncomputable def M80:Obj:=oS 133
noncomputable def M81:Obj:=oB "object.__init_subclass__" (.ref 133)
noncomputable def M82:Obj:=oT [.str "thing" 369]
noncomputable def M83:Obj:=oN "is_whole" "is_whole" cC
noncomputable def M84:Obj:=oT [.str "one" 376,.str "other" 377]
noncomputable def M85:Obj:=oN "common" "common" eH
noncomputable def M86:Obj:=oT [.str "thing" 384,.str "top" 385,.str "bottom" 386]
noncomputable def M87:Obj:=oN "is_fraction" "is_fraction" bB
noncomputable def M88:Obj:=oT [.str "top" 393,.str "bottom" 394,.str "shared" 395]
noncomputable def M89:Obj:=oN "lowest" "lowest" eN
noncomputable def M90:Obj:=oT [.str "things" 402,.str "place" 403,.str "thing" 404]
noncomputable def M91:Obj:=oN "need_fractions" "need_fractions" aP
noncomputable def M92:Obj:=oT [.str "top" 412,.str "bottom" 413]
noncomputable def M93:Obj:=oN "fraction" "fraction" cA
noncomputable def M94:Obj:=oT [.str "one" 420,.str "other" 421]
noncomputable def M95:Obj:=oN "plus" "plus" kT
noncomputable def M96:Obj:=oT [.str "one" 428,.str "other" 429]
noncomputable def M97:Obj:=oN "minus" "minus" gN
noncomputable def M98:Obj:=oT [.str "one" 436,.str "other" 437]
noncomputable def M99:Obj:=oN "times" "times" gJ
noncomputable def aI2:Obj:=oT [.str "one" 444,.str "other" 445]
noncomputable def aLm:Obj:=oN "over" "over" kN
noncomputable def aLh:Obj:=oT [.str "one" 452,.str "other" 453]
noncomputable def aKS:Obj:=oN "less" "less" kJ
noncomputable def aKz:Obj:=oT [.str "one" 460,.str "other" 461]
noncomputable def aLd:Obj:=oN "below" "below" gK
noncomputable def aJi:Obj:=oT [.str "number" 468,.str "pieces" 469,.str "piece" 470]
noncomputable def aI1:Obj:=oN "figures" "figures" (top 25)
noncomputable def aK8:Obj:=oC [.str "figures" 465,.str "figures" 466,fC 467,iV 81,iV 1,iV 0,iV 0,iV 3,.ref 223,.bool true,iV 181,.ref 224,.none,.ref 225,.ref 226,.ref 227,iV 471,iV 81,fC 472]
noncomputable def aLL:Obj:=oF "figures" "figures" (top 25) .none zS2 228
noncomputable def aKQ:Obj:=oT [.str "one" 477]
noncomputable def aJY:Obj:=oN "written" "written" (top 26)
noncomputable def aJj:Obj:=oC [.str "written" 474,.str "written" 475,fC 476,iV 88,iV 1,iV 0,iV 0,iV 3,.ref 230,.bool true,iV 181,.ref 231,.none,.ref 232,.ref 233,.ref 234,iV 478,iV 88,fC 479]
noncomputable def aLG:Obj:=oF "written" "written" (top 26) .none zS2 235
noncomputable def aJg:Obj:=oT [.str "thing" 488]
noncomputable def aJx:Obj:=oN "is_share" "is_share" bX
noncomputable def aEd (P:Params):Obj:=⟨(.type "dict"),none,.dict #[kE P "__module__" 499 zS4,kE P "__qualname__" 501 (.str "Shade" 500),kE P "__firstlineno__" 503 (.int 96 502),kE P "__init__" 515 (.ref 257),kE P "__eq__" 523 (.ref 264),kE P "__len__" 529 (.ref 269),kE P "__str__" 535 (.ref 274),kE P "__repr__" 542 (.ref 281),kE P "__static_attributes__" 546 (.ref 282)] 9, #[]⟩
noncomputable def aJL:Obj:=oL [iV 98,iV 4,.ref 256,iV 106,iV 4,.ref 263,iV 109,iV 4,.ref 268,iV 112,iV 4,.ref 273,iV 115,iV 4,.ref 280]
noncomputable def aJU:Obj:=oC [.str "Shade" 494,.str "Shade" 495,fC 496,iV 96,iV 0,iV 0,iV 0,iV 0,.ref 247,.bool false,iV 181,.ref 248,.none,.none,.none,.none,iV 497,iV 96,fC 498]
noncomputable def aLe:Obj:=oR 249 246 zS4
noncomputable def aIK:Obj:=oT [.str "self" 507,.str "ember" 508,.str "leaf" 509,.str "sky" 510,.str "light" 511,.str "share" 512]
noncomputable def aJd:Obj:=oN "__init__" "Shade.__init__" aO
noncomputable def aKn:Obj:=oT [.str "self" 519,.str "other" 520]
noncomputable def aLE:Obj:=oN "__eq__" "Shade.__eq__" aZ
noncomputable def aJA:Obj:=oN "__len__" "Shade.__len__" (bK (top 30) 2)
noncomputable def aJw:Obj:=oC [.str "__len__" 524,.str "Shade.__len__" 525,fC 526,iV 109,iV 1,iV 0,iV 0,iV 3,.ref 265,.bool true,iV 181,.ref 266,.none,.none,.none,.ref 267,iV 527,iV 109,fC 528]
noncomputable def aLK:Obj:=oF "__len__" "Shade.__len__" (bK (top 30) 2) .none zS4 268
noncomputable def aIU:Obj:=oN "__str__" "Shade.__str__" (bK (top 30) 3)
noncomputable def aJ2:Obj:=oC [.str "__str__" 530,.str "Shade.__str__" 531,fC 532,iV 112,iV 1,iV 0,iV 0,iV 3,.ref 270,.bool true,iV 181,.ref 271,.none,.none,.none,.ref 272,iV 533,iV 112,fC 534]
noncomputable def aKl:Obj:=oF "__str__" "Shade.__str__" (bK (top 30) 3) .none zS4 273
noncomputable def aKw:Obj:=oT [.str "self" 539]
noncomputable def aLC:Obj:=oN "__repr__" "Shade.__repr__" (bK (top 30) 4)
noncomputable def aKI:Obj:=oC [.str "__repr__" 536,.str "Shade.__repr__" 537,fC 538,iV 115,iV 1,iV 0,iV 0,iV 3,.ref 275,.bool true,iV 181,.ref 276,.none,.ref 277,.ref 278,.ref 279,iV 540,iV 115,fC 541]
noncomputable def aJr:Obj:=oF "__repr__" "Shade.__repr__" (bK (top 30) 4) .none zS4 280
noncomputable def aI0:Obj:=oT [.str "ember" 543,.str "leaf" 544,.str "sky" 545]
noncomputable def aK4:Obj:=⟨(.type "getset_descriptor"),none,.fields #[(.str "__dict__" 547),(.ref 284),(.builtin "function.__dict__"),(.builtin "function.__dict__#set")], #[]⟩
noncomputable def aJb:Obj:=⟨(.type "getset_descriptor"),none,.fields #[(.str "__weakref__" 549),(.ref 284),(.builtin "ExceptionGroup.__weakref__"),.none], #[]⟩
noncomputable def aJV:Obj:=oS 284
noncomputable def aJZ:Obj:=oB "object.__init_subclass__" (.ref 284)
noncomputable def aKP:Obj:=oT [.str "thing" 558]
noncomputable def aLS:Obj:=oN "is_shade" "is_shade" cF
noncomputable def aKO:Obj:=oT [.str "thing" 565]
noncomputable def aJF:Obj:=oN "need_shade" "need_shade" bI
noncomputable def aJ3:Obj:=oT [.str "shade" 572]
noncomputable def aIL:Obj:=oN "shares_of" "shares_of" bP
noncomputable def aLz:Obj:=oT [.str "shares" 579,.str "ember" 580,.str "leaf" 581,.str "sky" 582]
noncomputable def aKs:Obj:=oN "shade_of" "shade_of" bZ
noncomputable def aKq:Obj:=oN "are_shades" "are_shades" bF
noncomputable def aNj:Obj:=oL [iV 2,iV 0,.ref 20,iV 4,iV 0,.ref 33,iV 6,iV 0,.ref 46,iV 11,iV 0,.ref 65,iV 16,iV 0,.ref 84,iV 21,iV 0,.ref 103,iV 26,iV 0,.ref 122,iV 36,iV 0,.ref 143,iV 38,iV 0,.ref 150,iV 42,iV 0,.ref 157,iV 47,iV 0,.ref 164,iV 52,iV 0,.ref 171,iV 56,iV 0,.ref 179,iV 62,iV 0,.ref 186,iV 65,iV 0,.ref 193,iV 68,iV 0,.ref 200,iV 71,iV 0,.ref 207,iV 76,iV 0,.ref 214,iV 78,iV 0,.ref 221,iV 81,iV 0,.ref 228,iV 88,iV 0,.ref 235,iV 94,iV 0,.ref 242,iV 96,iV 0,.ref 249,iV 117,iV 0,.ref 294,iV 119,iV 0,.ref 301,iV 122,iV 0,.ref 308,iV 125,iV 0,.ref 315,iV 128,iV 0,.ref 320,iV 135,iV 0,.ref 328,iV 141,iV 0,.ref 333,iV 143,iV 0,.ref 341,iV 146,iV 0,.ref 349,iV 149,iV 0,.ref 357,iV 154,iV 0,.ref 363,iV 162,iV 0,.ref 368,iV 165,iV 0,.ref 376,iV 171,iV 0,.ref 383,iV 180,iV 0,.ref 390,iV 186,iV 0,.ref 397,iV 193,iV 0,.ref 404,iV 201,iV 0,.ref 411,iV 203,iV 0,.ref 416,iV 207,iV 0,.ref 423,iV 214,iV 0,.ref 429,iV 226,iV 0,.ref 443,iV 229,iV 0,.ref 448,iV 232,iV 0,.ref 455,iV 242,iV 0,.ref 462,iV 249,iV 0,.ref 469,iV 251,iV 0,.ref 476,iV 260,iV 0,.ref 483,iV 267,iV 0,.ref 490,iV 269,iV 0,.ref 497,iV 271,iV 0,.ref 504,iV 273,iV 0,.ref 511,iV 277,iV 0,.ref 516,iV 285,iV 0,.ref 523,iV 289,iV 0,.ref 528,iV 296,iV 0,.ref 535,iV 298,iV 0,.ref 540,iV 305,iV 0,.ref 547,iV 318,iV 0,.ref 554,iV 326,iV 0,.ref 561,iV 332,iV 0,.ref 566]
noncomputable def aL3:Obj:=oT [.str "by" 602]
noncomputable def aNx:Obj:=oN "part_of" "part_of" dF
noncomputable def aMq:Obj:=oN "toward" "toward" eF
noncomputable def aNt:Obj:=oT [.str "shade" 615,.str "by" 616]
noncomputable def aNH:Obj:=oN "lighter" "lighter" dG
noncomputable def aNa:Obj:=oT [.str "shade" 623,.str "by" 624]
noncomputable def aLZ:Obj:=oN "darker" "darker" eT
noncomputable def aNi:Obj:=oT [.str "shade" 631,.str "by" 632,.str "part" 633,.str "together" 634]
noncomputable def aNM:Obj:=oN "duller" "duller" eU
noncomputable def aMH:Obj:=oN "turned" "turned" eJ
noncomputable def aMX:Obj:=oN "opposite" "opposite" bW
noncomputable def aMG:Obj:=oT [.str "word" 662,.str "thing" 663]
noncomputable def aMz:Obj:=oN "is_by" "is_by" gM
noncomputable def aNQ:Obj:=oT [.str "thing" 670,.str "word" 671]
noncomputable def aNI:Obj:=oN "is_deed" "is_deed" dH
noncomputable def aMo:Obj:=oT [.str "deeds" 678,.str "place" 679,.str "thing" 680]
noncomputable def aMu:Obj:=oN "need_deeds" "need_deeds" bH
noncomputable def aM1:Obj:=oT [.str "shade" 687,.str "deed" 688,.str "change" 689]
noncomputable def aMa:Obj:=oN "do_one" "do_one" eP
noncomputable def aMM:Obj:=oT [.str "shade" 696,.str "deeds" 697,.str "deed" 698]
noncomputable def aNh:Obj:=oN "done" "done" jY
noncomputable def aNd:Obj:=oT [.str "thing" 709,.str "least" 710]
noncomputable def aMN:Obj:=oN "is_weight" "is_weight" bQ
noncomputable def aMC:Obj:=oN "are_weights" "are_weights" bC
noncomputable def aM8:Obj:=oT [.str "shares" 723,.str "weights" 724,.str "top" 725,.str "bottom" 726,.str "share" 727,.str "weight" 728]
noncomputable def aL9:Obj:=oN "mean_share" "mean_share" bG
noncomputable def aMp:Obj:=oN "mix" "mix" lB
noncomputable def aMS:Obj:=oT [.str "shares" 777,.str "stretch" 778,.str "greatest" 779,.str "least" 780,.str "middle" 781]
noncomputable def aMn:Obj:=oN "falls" "falls" gO
noncomputable def aMV:Obj:=oN "stretch_of" "stretch_of" bJ
noncomputable def aNf:Obj:=oT [.str "shade" 794,.str "shares" 795,.str "greatest" 796,.str "least" 797,.str "middle" 798,.str "start" 799,.str "way" 800,.str "white" 801,.str "black" 802,.str "part" 803]
noncomputable def aM0:Obj:=oN "wheel_of" "wheel_of" bY
noncomputable def aMD:Obj:=oT [.str "_law_script" 812,.str "_law_k" 813,.str "_law_state" 814,.str "_law_cell_here" 815]
noncomputable def aMB:Obj:=oN "_law_cell" "_law_cell" eO
noncomputable def aMl:Obj:=oT [.str "_law_cell_here" 822]
noncomputable def aLX:Obj:=oN "_law_purse" "_law_purse" dE
noncomputable def aMv:Obj:=oT [.str "_law_purse_here" 829,.str "_law_many" 830,.str "_law_state" 831,.str "_law_taken" 832]
noncomputable def aNN:Obj:=oN "_law_pick" "_law_pick" eQ
noncomputable def aNA:Obj:=oT [.str "_law_top" 839,.str "_law_bottom" 840,.str "_law_one" 841,.str "_law_other" 842]
noncomputable def aMt:Obj:=oN "_law_low" "_law_low" gI
noncomputable def aNb:Obj:=oT [.str "_law_a" 849,.str "_law_b" 850]
noncomputable def aMI:Obj:=oN "_law_plus" "_law_plus" eR
noncomputable def aNL:Obj:=oT [.str "_law_a" 857,.str "_law_b" 858]
noncomputable def aMO:Obj:=oN "_law_minus" "_law_minus" dI
noncomputable def aMr:Obj:=oT [.str "_law_a" 865,.str "_law_b" 866]
noncomputable def aMd:Obj:=oN "_law_times" "_law_times" dA
noncomputable def aM5:Obj:=oT [.str "_law_purse_here" 873,.str "_law_way" 874,.str "_law_bottom" 875]
noncomputable def aNO:Obj:=oN "_law_share" "_law_share" cZ
noncomputable def aNs:Obj:=oN "_law_shares" "_law_shares" cH
noncomputable def aNg:Obj:=oT [.str "_law_purse_here" 888,.str "_law_row" 889]
noncomputable def aMw:Obj:=oN "_law_made" "_law_made" eK
noncomputable def aL7:Obj:=oN "_law_weights" "_law_weights" bM
noncomputable def aNR:Obj:=oT [.str "_law_one" 902,.str "_law_other" 903]
noncomputable def aNB:Obj:=oN "_law_alike" "_law_alike" dD
noncomputable def aML:Obj:=oN "_law_mixed_right" "_law_mixed_right" aU
noncomputable def aMj:Obj:=oT [.str "_law_one" 916,.str "_law_by" 917,.str "_law_more" 918,.str "_law_both" 919]
noncomputable def aMA:Obj:=oN "_law_twice_right" "_law_twice_right" aT
noncomputable def aNF:Obj:=oT [.str "_law_one" 926,.str "_law_by" 927,.str "_law_turns" 928,.str "_law_more" 929]
noncomputable def aNw:Obj:=oN "_law_turned_right" "_law_turned_right" aQ
noncomputable def aMh:Obj:=oT [.str "_law_one" 936,.str "_law_by" 937,.str "_law_turn" 938,.str "_law_white" 939,.str "_law_black" 940,.str "_law_due" 941]
noncomputable def aNe:Obj:=oN "_law_wheel_right" "_law_wheel_right" aS
noncomputable def aMW:Obj:=oN "law" "law" lO
noncomputable abbrev pW:Program:=PySem.Challenge.pw_lightshares_k10_whole_deeds_go_along
noncomputable abbrev bdy:List Stmt:=W.behindTheImports pW
noncomputable abbrev env0:Env:={ scope:=pW.main.scope,locals:=mainNs,globals:=mainNs,cells:=[],code:=(.ref 13),frame:=some 14 }
noncomputable abbrev cE0:Code:=.body bdy env0
noncomputable abbrev B0:List Frame:=[W.topFrame ⟨0,0,0,0⟩]
noncomputable abbrev S0 (w:World) (os:OsState):Shared:=⟨W.boot_heap w.params,Array.mk [],W.boot_drawn,W.boot_toks,os⟩
theorem aMY:∀ w:World,(W.fencedOpening treeTable pW w 7980).map (fun s=>(s.heap,s.gens,s.drawn,s.toks))=some (W.boot_heap w.params,Array.mk [],W.boot_drawn,W.boot_toks):=W.boot_open (by rfl) (by decide) (fun _=>by rfl)
theorem aM7:∀ w:World,((W.boot_heap w.params).isNs mainGlobals && (Array.mk []:Array GenState).size == 0,(W.boot_heap w.params).objs.size,(W.boot_heap w.params).nsMap mainGlobals "__annotations__")=(true,11,(some (.ref 6))):=by
  intro w
  kernel_rfl
noncomputable def Sa (w:World) (os:OsState):Shared:=aJl (W.topGo treeTable pW w 11 (some (.ref 6)) 12 (S0 w os) (W.topStub pW)) (S0 w os)
theorem aIQ:∀ (w:World) (os:OsState),W.topGo treeTable pW w 11 (some (.ref 6)) 12 (S0 w os) (W.topStub pW)=some (Sa w os,⟨denote treeTable cE0,cE0,⟨0,0,0,0⟩,B0⟩):=by
  intro w os
  kernel_rfl
noncomputable def Sb (w:World) (os:OsState):Shared:=aK0 (W.segRun treeTable pW w 11 (some (.ref 6)) 1 1 (Sa w os) (W.blockOf bdy env0 cE0 ⟨0,0,0,0⟩ B0)) (S0 w os)
theorem aKy:∀ (w:World) (os:OsState),W.segRun treeTable pW w 11 (some (.ref 6)) 1 1 (Sa w os) (W.blockOf bdy env0 cE0 ⟨0,0,0,0⟩ B0)=some (.next,Sb w os,cE0,⟨0,0,0,0⟩):=by
  intro w os
  kernel_rfl
noncomputable def hm0 (P:Params):Heap:=⟨#[W.boot_o_0 P,W.boot_o_1 P,mo0 P,mo1 P,W.boot_o_4 P,W.boot_o_5 P,W.boot_o_6 P,W.boot_o_7 P,W.boot_o_8 P,W.boot_o_9 P,W.boot_o_10 P,M2,M3,M4,M5,M6,M7,mo8 P,M2,M9,M10,M11,M2,aCF P,aDj P,M12,M13,M14,M15,M7,aGA P,M2,M9,M17,M18,M2,aCS P,M19,M20,M21,M22,M23,M7,aF1 P,M2,M25,M26,M27,M2,M9,M28,M2,M29,M30,M31,M32,aC5 P,aCj P,M33,M34,M23,M7,aGe P,M2,M36,M37,M38,M2,M9,M39,M2,M40,M41,M42,M43,aBW P,aDO P,M44,M45,M23,M7,aIc P,M2,M47,M48,M49,M2,M9,M50,M2,M51,M52,M53,M54,aCN P,aCR P,M55,M56,M23,M7,aGv P,M2,M58,M59,M60,M2,M9,M61,M2,M62,M63,M64,M65,OM P,OJ P,M66,M67],(W.boot_heap P).life⟩
noncomputable abbrev Sm0 (w:World) (os:OsState):Shared:=⟨hm0 w.params,Array.mk [],W.boot_drawn,327,os⟩
noncomputable abbrev l0:List Stmt:=bdy.take 7
noncomputable abbrev r0:List Stmt:=bdy.drop 7
theorem aMJ:∀ (w:World),∀ os:OsState,W.segRun treeTable pW w 11 (some (.ref 6)) 1 1372 (Sb w os) (W.piecesOf l0 env0 cE0 ⟨0,0,0,0⟩ B0)=some (.next,Sm0 w os,cE0,⟨21,0,25,26⟩):=by
  intro w os
  kernel_rfl
noncomputable def hm1 (P:Params):Heap:=⟨#[W.boot_o_0 P,W.boot_o_1 P,mo0 P,aMQ P,W.boot_o_4 P,W.boot_o_5 P,W.boot_o_6 P,W.boot_o_7 P,W.boot_o_8 P,W.boot_o_9 P,W.boot_o_10 P,M2,M69,M4,M5,M6,M7,mo8 P,M2,M9,M10,M11,M2,aCF P,aDj P,M12,M13,M14,M15,M7,aGA P,M2,M9,M17,M18,M2,aCS P,aHF P,M20,M21,M22,M23,M7,aF1 P,M2,M25,M26,M27,M2,M9,M28,M2,M29,M30,M31,M32,aC5 P,aCj P,M33,M34,M23,M7,aGe P,M2,M36,M37,M38,M2,M9,M39,M2,M40,M41,M42,M43,aBW P,aDO P,M44,M45,M23,M7,aIc P,M2,M47,M48,M49,M2,M9,M50,M2,M51,M52,M53,M54,aCN P,aCR P,M55,M56,M23,M7,aGv P,M2,M58,M59,M60,M2,M9,M61,M2,M62,M63,M64,M65,OM P,OJ P,M66,M67,M70,M7,aLO P,M2,M72,M73,M74,M2,M9,M75,M2,M76,M77,M78,M79,aAm P,aA9 P,M80,M81,aBy P,VA P,M2,M9,M82,M2,M83,UT P,ZD P,M2,M9,M84,M2,M85,ZU P,YJ P,M2,M9,M86,M2,M87,aAE P,aAv P,M2,M9,M88,M2,M89,aAV P,aAN P,M2,M9,M90,M2,M91,ZF P,aAL P,XU P,M2,M9,M92,M2,M93,aBd P,XO P,M2,M9,M94,M2,M95,WC P,YK P,M2,M9,M96,M2,M97,aBf P,aA7 P,M2,M9,M98,M2,M99,aAa P,aBw P,M2,M9,aI2,M2,aLm,US P,ZE P,M2,M9,aLh,M2,aKS,UL P,aAn P,M2,M9,aKz,M2,aLd,aBi P,aAk P,M2,M9,aJi,M2,aI1,aK8,aLL,M2,M9,aKQ,M2,aJY,aJj,aLG,M2,M9,aJg,M2,aJx,UC P,ZN P,M2,M7,aEd P,M2,aJL,aJU,aLe,M2,M9,aIK,M2,aJd,aAc P,aAA P,M2,M9,aKn,M2,aLE,aAt P,YN P,M2,M9,aJA,aJw,aLK,M2,M9,aIU,aJ2,aKl,M2,M9,aKw,M2,aLC,aKI,aJr,aI0,aAd P,aAl P,aK4,aJb,aJV,aJZ,M2,M9,aKP,M2,aLS,UB P,UD P,M2,M9,aKO,M2,aJF,aA2 P,aBk P,M2,M9,aJ3,M2,aIL,VS P,WE P,M2,M9,aLz,M2,aKs,YC P,aBt P,M2,M9,aKq,aBq P,WK P],(W.boot_heap P).life⟩
noncomputable abbrev Sm1 (w:World) (os:OsState):Shared:=⟨hm1 w.params,Array.mk [],W.boot_drawn,592,os⟩
noncomputable abbrev l1:List Stmt:=r0.take 29
noncomputable abbrev r1:List Stmt:=r0.drop 29
theorem aL8:∀ (w:World),∀ os:OsState,W.segRun treeTable pW w 11 (some (.ref 6)) 1 1272 (Sm0 w os) (W.piecesOf l1 env0 cE0 ⟨21,0,25,26⟩ B0)=some (.next,Sm1 w os,cE0,⟨128,0,131,48⟩):=by
  intro w os
  kernel_rfl
noncomputable def hm2 (P:Params):Heap:=⟨#[W.boot_o_0 P,W.boot_o_1 P,mo0 P,ko3 P,W.boot_o_4 P,W.boot_o_5 P,W.boot_o_6 P,W.boot_o_7 P,W.boot_o_8 P,W.boot_o_9 P,W.boot_o_10 P,M2,aNj,M4,M5,M6,M7,mo8 P,M2,M9,M10,M11,M2,aCF P,aDj P,M12,M13,M14,M15,M7,aGA P,M2,M9,M17,M18,M2,aCS P,aHF P,M20,M21,M22,M23,M7,aF1 P,M2,M25,M26,M27,M2,M9,M28,M2,M29,M30,M31,M32,aC5 P,aCj P,M33,M34,M23,M7,aGe P,M2,M36,M37,M38,M2,M9,M39,M2,M40,M41,M42,M43,aBW P,aDO P,M44,M45,M23,M7,aIc P,M2,M47,M48,M49,M2,M9,M50,M2,M51,M52,M53,M54,aCN P,aCR P,M55,M56,M23,M7,aGv P,M2,M58,M59,M60,M2,M9,M61,M2,M62,M63,M64,M65,OM P,OJ P,M66,M67,M70,M7,aLO P,M2,M72,M73,M74,M2,M9,M75,M2,M76,M77,M78,M79,aAm P,aA9 P,M80,M81,aBy P,VA P,M2,M9,M82,M2,M83,UT P,ZD P,M2,M9,M84,M2,M85,ZU P,YJ P,M2,M9,M86,M2,M87,aAE P,aAv P,M2,M9,M88,M2,M89,aAV P,aAN P,M2,M9,M90,M2,M91,ZF P,aAL P,XU P,M2,M9,M92,M2,M93,aBd P,XO P,M2,M9,M94,M2,M95,WC P,YK P,M2,M9,M96,M2,M97,aBf P,aA7 P,M2,M9,M98,M2,M99,aAa P,aBw P,M2,M9,aI2,M2,aLm,US P,ZE P,M2,M9,aLh,M2,aKS,UL P,aAn P,M2,M9,aKz,M2,aLd,aBi P,aAk P,M2,M9,aJi,M2,aI1,aK8,aLL,M2,M9,aKQ,M2,aJY,aJj,aLG,M2,M9,aJg,M2,aJx,UC P,ZN P,M2,M7,aEd P,M2,aJL,aJU,aLe,M2,M9,aIK,M2,aJd,aAc P,aAA P,M2,M9,aKn,M2,aLE,aAt P,YN P,M2,M9,aJA,aJw,aLK,M2,M9,aIU,aJ2,aKl,M2,M9,aKw,M2,aLC,aKI,aJr,aI0,aAd P,aAl P,aK4,aJb,aJV,aJZ,M2,M9,aKP,M2,aLS,UB P,UD P,M2,M9,aKO,M2,aJF,aA2 P,aBk P,M2,M9,aJ3,M2,aIL,VS P,WE P,M2,M9,aLz,M2,aKs,YC P,aBt P,M2,M9,aKq,aBq P,WK P,aEl P,M2,M9,aL3,M2,aNx,aDX P,aE9 P,M2,M9,aMq,aEo P,aEi P,AF P,M2,M9,aNt,M2,aNH,aD1 P,aFB P,AF P,M2,M9,aNa,M2,aLZ,aE2 P,aFk P,AF P,M2,M9,aNi,M2,aNM,aEh P,aFI P,AF P,M2,M9,aMH,aFl P,aDT P,M2,M9,aMX,aE8 P,aDR P,aFj P,M2,M9,aMG,M2,aMz,aFw P,aFK P,M2,M9,aNQ,M2,aNI,aEr P,aFg P,M2,M9,aMo,M2,aMu,aEk P,aD2 P,M2,M9,aM1,M2,aMa,aE1 P,aD0 P,M2,M9,aMM,M2,aNh,aE7 P,aFo P,M2,M9,aNd,M2,aMN,aFH P,aFC P,M2,M9,aMC,aEC P,aEe P,M2,M9,aM8,M2,aL9,aEn P,aEG P,AF P,M2,M9,aMp,aD9 P,aD6 P,aD8 P,aEX P,aFi P,aEj P,aEY P,aEN P,aFp P,M2,M9,aMS,M2,aMn,aFq P,aEs P,M2,M9,aMV,aEb P,aFL P,M2,M9,aNf,M2,aM0,aFu P,aEa P,M2,M9,aMD,M2,aMB,aEA P,aEp P,M2,M9,aMl,M2,aLX,aFz P,aEM P,M2,M9,aMv,M2,aNN,aFM P,aEP P,M2,M9,aNA,M2,aMt,aFv P,aDZ P,M2,M9,aNb,M2,aMI,aEc P,aFe P,M2,M9,aNL,M2,aMO,aDQ P,aE6 P,M2,M9,aMr,M2,aMd,aEy P,aEU P,M2,M9,aM5,M2,aNO,aD4 P,aEu P,M2,M9,aNs,aDU P,aEQ P,M2,M9,aNg,M2,aMw,aEt P,aDV P,M2,M9,aL7,aDS P,aFm P,M2,M9,aNR,M2,aNB,aET P,aFa P,M2,M9,aML,aEB P,aFb P,M2,M9,aMj,M2,aMA,aEv P,aFy P,M2,M9,aNF,M2,aNw,aEO P,aE0 P,M2,M9,aMh,M2,aNe,aD3 P,aFr P,M2,M9,aMW,aEW P,aD5 P],(W.boot_heap P).life⟩
noncomputable abbrev Sm2 (w:World) (os:OsState):Shared:=⟨hm2 w.params,Array.mk [],W.boot_drawn,951,os⟩
noncomputable abbrev l2:List Stmt:=r1.take 45
noncomputable abbrev r2:List Stmt:=r1.drop 45
theorem aME:∀ (w:World),∀ os:OsState,W.segRun treeTable pW w 11 (some (.ref 6)) 1 1286 (Sm1 w os) (W.piecesOf l2 env0 cE0 ⟨128,0,131,48⟩ B0)=some (.next,Sm2 w os,cE0,⟨332,0,346,15⟩):=W.byRow2 "special-get-raises" (P:=fun w=>∀ os:OsState,W.segRun treeTable pW w 11 (some (.ref 6)) 1 1286 (Sm1 w os) (W.piecesOf l2 env0 cE0 ⟨128,0,131,48⟩ B0)=some (.next,Sm2 w os,cE0,⟨332,0,346,15⟩)) (fun w os=>by kernel_rfl) (fun w os=>by kernel_rfl)
theorem aLg:∀ (w:World) (os:OsState),(W.topRun treeTable pW w 11 (some (.ref 6)) 21 (Sm2 w os) (W.restOf r2 env0 cE0 ⟨332,0,346,15⟩ B0)).map (fun s₁=>(W.staticsOk (importedModules pW.main.body) (W.boot_heap w.params) s₁.heap && W.namesBound pW s₁.heap && W.gensDone s₁ && W.laidKept (W.boot_heap w.params) s₁.heap,W.openSeen qv lo (importedModules pW.main.body) (fun s=>W.recOk [] s) true s₁,hk0.obs s₁))=some (true,W.openGood qv lo,hk0.val w):=by
  intro w os
  kernel_rfl
theorem hlt:W.LeftO PySem.Challenge.pw_lightshares_k10_whole_deeds_go_along qv lo (fun s=>W.recOk [] s) hk0.obs hk0.val 7980:=by
  refine L3.aJt (M:=12 + (1 + (1372 + (1272 + (1286 + 21))))) aMY aM7 (by decide) fun w os=>?_
  obtain ⟨s₁,e,h⟩:=Option.map_eq_some_iff.mp (aLg w os)
  refine ⟨s₁,W.go_top (aIQ w os) (W.piece_block (aKy w os) ?_),h⟩
  rw [show bdy=l0 ++ r0 from (List.take_append_drop _ _).symm]
  refine W.piece_app (aMJ w os) ?_
  rw [show r0=l1 ++ r1 from (List.take_append_drop _ _).symm]
  refine W.piece_app (aL8 w os) ?_
  rw [show r1=l2 ++ r2 from (List.take_append_drop _ _).symm]
  refine W.piece_app (aME w os) ?_
  exact e
end My
open PySem PySem.W PyProof.Rows
set_option maxRecDepth 100000 in
set_option maxHeartbeats 0 in
theorem PySem.Challenge.cw_lightshares_k10_whole_deeds_go_along_holds : PySem.Challenge.rw_lightshares_k10_whole_deeds_go_along.Holds := by
  w_on
  refine W.holds_law My.wsd fun said=>?_
  refine W.holds_open (q:=My.qv) (loose:=My.lo) (N:=7980) (XP:=fun _ _=>True)
    (Xt:=fun s=>W.recOk [] s)
    (Yf:=My.hk0.obs) (Ya:=My.hk0.val) (YP:=My.hk0.says)
    My.hlt My.hk0.of My.hk0.keeps
    (fun _ _=>trivial) (fun _ _ _ _ _=>trivial) (by rfl) (by rfl) (by rfl)
    (fun s e=>W.recFacts_of e) (by rfl) (by assumption) (by decide +kernel)
    ⟨rfl,rfl,rfl,rfl,rfl,by decide +kernel⟩ ?hw ?hc
  case hw=>w_witness2
  refine L2.ZG (K:=My.K0) (l:=PySem.Challenge.rw_lightshares_k10_whole_deeds_go_along) (n:=63) (k:=22) (x:="_law_script") (CX:=L2.CX0) (sp:=L3.NN)
    rfl (by decide) rfl ⟨rfl,by decide,by decide,fun _=>rfl⟩ (fun w h Y=>W.kIn_of Y) ?F (fun K H a ns hl hO hS=>L3.QC hl hO hS) (fun _ _ _ _ z=>z)
  case F =>
    intro w mg fa h KX G hmg
    refine' My.aHB (C_Shade:=284)
      (f0:=463) (pm0:=My.zS0) (cd0:=(.ref 462))
      (f1:=151) (pm1:=My.zS2) (cd1:=(.ref 150))
      (f2:=144) (pm2:=My.zS2) (cd2:=(.ref 143))
      (f3:=158) (pm3:=My.zS2) (cd3:=(.ref 157))
      (f4:=243) (pm4:=My.zS4) (cd4:=(.ref 242))
      (f5:=257) (pm5:=My.zS4) (cd5:=(.ref 256))
      (f6:=477) (pm6:=My.zS0) (cd6:=(.ref 476))
      (f7:=524) (pm7:=My.zS0) (cd7:=(.ref 523))
      (f8:=295) (pm8:=My.zS4) (cd8:=(.ref 294))
      (f9:=302) (pm9:=My.zS4) (cd9:=(.ref 301))
      (f10:=309) (pm10:=My.zS4) (cd10:=(.ref 308))
      (f11:=264) (pm11:=My.zS4) (cd11:=(.ref 263))
      (f12:=536) (pm12:=My.zS0) (cd12:=(.ref 535))
      (f13:=165) (pm13:=My.zS2) (cd13:=(.ref 164))
      (f14:=172) (pm14:=My.zS2) (cd14:=(.ref 171))
      (f15:=194) (pm15:=My.zS2) (cd15:=(.ref 193))
      (f16:=316) (pm16:=My.zS4) (cd16:=(.ref 315))
      (f17:=369) (pm17:=My.zS3) (cd17:=(.ref 368))
      (f18:=329) (pm18:=My.zS3) (cd18:=(.ref 328))
      (f19:=187) (pm19:=My.zS2) (cd19:=(.ref 186))
      (f20:=201) (pm20:=My.zS2) (cd20:=(.ref 200))
      (f21:=334) (pm21:=My.zS3) (cd21:=(.ref 333))
      (f22:=350) (pm22:=My.zS3) (cd22:=(.ref 349))
      (bd22:=343) (ocd22:=(.type "tuple")) (odd22:=none) (nd22:=0) (sld22:= #[])
      (f23:=208) (pm23:=My.zS2) (cd23:=(.ref 207))
      (f24:=358) (pm24:=My.zS3) (cd24:=(.ref 357))
      (bd24:=351) (ocd24:=(.type "tuple")) (odd24:=none) (nd24:=0) (sld24:= #[])
      (f25:=342) (pm25:=My.zS3) (cd25:=(.ref 341))
      (bd25:=335) (ocd25:=(.type "tuple")) (odd25:=none) (nd25:=0) (sld25:= #[])
      (f26:=364) (pm26:=My.zS3) (cd26:=(.ref 363))
      (bd26:=359) (ocd26:=(.type "tuple")) (odd26:=none) (nd26:=0) (sld26:= #[])
      (f27:=398) (pm27:=My.zS3) (cd27:=(.ref 397))
      (f28:=377) (pm28:=My.zS3) (cd28:=(.ref 376))
      (f29:=384) (pm29:=My.zS3) (cd29:=(.ref 383))
      (f30:=391) (pm30:=My.zS3) (cd30:=(.ref 390))
      (f31:=405) (pm31:=My.zS3) (cd31:=(.ref 404))
      (f32:=321) (pm32:=My.zS4) (cd32:=(.ref 320))
      (f33:=412) (pm33:=My.zS5) (cd33:=(.ref 411))
      (f34:=417) (pm34:=My.zS5) (cd34:=(.ref 416))
      (f35:=180) (pm35:=My.zS2) (cd35:=(.ref 179))
      (bd35:=173) (ocd35:=(.type "tuple")) (odd35:=none) (nd35:=0) (sld35:= #[])
      (td35_0:=408)
      (f36:=424) (pm36:=My.zS5) (cd36:=(.ref 423))
      (f37:=430) (pm37:=My.zS5) (cd37:=(.ref 429))
      (bd37:=425) (ocd37:=(.type "tuple")) (odd37:=none) (nd37:=0) (sld37:= #[])
      (f38:=541) (pm38:=My.zS0) (cd38:=(.ref 540))
      (f39:=470) (pm39:=My.zS0) (cd39:=(.ref 469))
      (f40:=484) (pm40:=My.zS0) (cd40:=(.ref 483))
      (f41:=512) (pm41:=My.zS0) (cd41:=(.ref 511))
      (f42:=517) (pm42:=My.zS0) (cd42:=(.ref 516))
      (f43:=555) (pm43:=My.zS0) (cd43:=(.ref 554))
      (f44:=498) (pm44:=My.zS0) (cd44:=(.ref 497))
      (f45:=491) (pm45:=My.zS0) (cd45:=(.ref 490))
      (f46:=505) (pm46:=My.zS0) (cd46:=(.ref 504))
      (f47:=548) (pm47:=My.zS0) (cd47:=(.ref 547))
      (f48:=529) (pm48:=My.zS0) (cd48:=(.ref 528))
      (f49:=215) (pm49:=My.zS2) (cd49:=(.ref 214))
      (f50:=222) (pm50:=My.zS2) (cd50:=(.ref 221))
      (f51:=444) (pm51:=My.zS6) (cd51:=(.ref 443))
      (f52:=449) (pm52:=My.zS6) (cd52:=(.ref 448))
      (f53:=456) (pm53:=My.zS6) (cd53:=(.ref 455))
      (f54:=562) (pm54:=My.zS0) (cd54:=(.ref 561))
      (f55:=567) (pm55:=My.zS0) (cd55:=(.ref 566))
      (ac_HALF:=322) (t1_HALF:=596) (t2_HALF:=597) (odc_HALF:=none) (nc_HALF:=0) (slc_HALF:= #[])
      (tk_MOST_DEEDS:=594)
      (tk_MOST_SHADES:=483)
      (tk_MOST_WEIGHT:=704)
      (ac_ONE:=137) (t1_ONE:=357) (t2_ONE:=358) (odc_ONE:=none) (nc_ONE:=0) (slc_ONE:= #[])
      (ac_STRETCHES:=437) (odc_STRETCHES:=none) (nc_STRETCHES:=0) (slc_STRETCHES:= #[]) (ac0_STRETCHES:=431) (ac1_STRETCHES:=432) (ac2_STRETCHES:=433) (ac3_STRETCHES:=434) (ac4_STRETCHES:=435) (ac5_STRETCHES:=436)
      (t0_0_STRETCHES:=740) (t0_1_STRETCHES:=741) (t0_2_STRETCHES:=742) (t0_3_STRETCHES:=743) (t0_4_STRETCHES:=744) (od0_STRETCHES:=none) (n0_STRETCHES:=0) (sl0_STRETCHES:= #[])
      (t1_0_STRETCHES:=745) (t1_1_STRETCHES:=746) (t1_2_STRETCHES:=747) (t1_3_STRETCHES:=748) (t1_4_STRETCHES:=750) (od1_STRETCHES:=none) (n1_STRETCHES:=0) (sl1_STRETCHES:= #[])
      (t2_0_STRETCHES:=751) (t2_1_STRETCHES:=752) (t2_2_STRETCHES:=753) (t2_3_STRETCHES:=754) (t2_4_STRETCHES:=755) (od2_STRETCHES:=none) (n2_STRETCHES:=0) (sl2_STRETCHES:= #[])
      (t3_0_STRETCHES:=756) (t3_1_STRETCHES:=757) (t3_2_STRETCHES:=758) (t3_3_STRETCHES:=759) (t3_4_STRETCHES:=761) (od3_STRETCHES:=none) (n3_STRETCHES:=0) (sl3_STRETCHES:= #[])
      (t4_0_STRETCHES:=762) (t4_1_STRETCHES:=763) (t4_2_STRETCHES:=764) (t4_3_STRETCHES:=765) (t4_4_STRETCHES:=766) (od4_STRETCHES:=none) (n4_STRETCHES:=0) (sl4_STRETCHES:= #[])
      (t5_0_STRETCHES:=767) (t5_1_STRETCHES:=768) (t5_2_STRETCHES:=769) (t5_3_STRETCHES:=770) (t5_4_STRETCHES:=772) (od5_STRETCHES:=none) (n5_STRETCHES:=0) (sl5_STRETCHES:= #[])
      (ac_ZERO:=136) (t1_ZERO:=354) (t2_ZERO:=355) (odc_ZERO:=none) (nc_ZERO:=0) (slc_ZERO:= #[])
      (ad_BY_WORD:=370) (nd_BY_WORD:=4) (td0_BY_WORD:=650) (td1_BY_WORD:=651) (td2_BY_WORD:=652) (td3_BY_WORD:=653) KX G hmg ?aC_Shade ?pg_Shade ?hd_Shade ?po_Shade ?sa_Shade ?nZ ?kc_Shade ?ha_Shade ?hn_Shade ?ht_Shade ?hm_Shade ?kp_Shade_NoneType ?kp_Shade_bool ?kp_Shade_int ?kp_Shade_str ?kp_Shade_list ?kp_Shade_tuple ?kp_Shade_dict ?ko_Shade_int ?ko_Shade_bool ?ko_Shade_tuple ?ko_Shade_str ?ko_Shade_list ?ko_Shade_dict ?na_Shade_ember ?na_Shade_leaf ?na_Shade_sky ?cc_HALF ?cl_HALF ?cc_MOST_DEEDS ?cc_MOST_SHADES ?cc_MOST_WEIGHT ?cc_ONE ?cl_ONE ?cc_STRETCHES ?cl_STRETCHES ?cl0_STRETCHES ?cl1_STRETCHES ?cl2_STRETCHES ?cl3_STRETCHES ?cl4_STRETCHES ?cl5_STRETCHES ?cc_ZERO ?cl_ZERO ?cc_BY_WORD ?cl_BY_WORD ?cs_BY_WORD ?a0 ?l0 ?c0 ?k0 ?a1 ?l1 ?c1 ?k1 ?a2 ?l2 ?c2 ?k2 ?a3 ?l3 ?c3 ?k3 ?a4 ?l4 ?c4 ?k4 ?a5 ?i5 ?l5 ?c5 ?k5 ?a6 ?l6 ?c6 ?k6 ?a7 ?l7 ?c7 ?k7 ?a8 ?l8 ?c8 ?k8 ?a9 ?l9 ?c9 ?k9 ?a10 ?l10 ?c10 ?k10 ?a11 ?i11 ?l11 ?c11 ?k11 ?a12 ?l12 ?c12 ?k12 ?a13 ?l13 ?c13 ?k13 ?a14 ?l14 ?c14 ?k14 ?a15 ?l15 ?c15 ?k15 ?a16 ?l16 ?c16 ?k16 ?a17 ?l17 ?c17 ?k17 ?a18 ?l18 ?c18 ?k18 ?a19 ?l19 ?c19 ?k19 ?a20 ?l20 ?c20 ?k20 ?a21 ?l21 ?c21 ?k21 ?a22 ?l22 ?c22 ?k22 ?ld22 ?a23 ?l23 ?c23 ?k23 ?a24 ?l24 ?c24 ?k24 ?ld24 ?a25 ?l25 ?c25 ?k25 ?ld25 ?a26 ?l26 ?c26 ?k26 ?ld26 ?a27 ?l27 ?c27 ?k27 ?a28 ?l28 ?c28 ?k28 ?a29 ?l29 ?c29 ?k29 ?a30 ?l30 ?c30 ?k30 ?a31 ?l31 ?c31 ?k31 ?a32 ?l32 ?c32 ?k32 ?a33 ?l33 ?c33 ?k33 ?a34 ?l34 ?c34 ?k34 ?a35 ?l35 ?c35 ?k35 ?ld35 ?a36 ?l36 ?c36 ?k36 ?a37 ?l37 ?c37 ?k37 ?ld37 ?a38 ?l38 ?c38 ?k38 ?a39 ?l39 ?c39 ?k39 ?a40 ?l40 ?c40 ?k40 ?a41 ?l41 ?c41 ?k41 ?a42 ?l42 ?c42 ?k42 ?a43 ?l43 ?c43 ?k43 ?a44 ?l44 ?c44 ?k44 ?a45 ?l45 ?c45 ?k45 ?a46 ?l46 ?c46 ?k46 ?a47 ?l47 ?c47 ?k47 ?a48 ?l48 ?c48 ?k48 ?a49 ?l49 ?c49 ?k49 ?a50 ?l50 ?c50 ?k50 ?a51 ?l51 ?c51 ?k51 ?a52 ?l52 ?c52 ?k52 ?a53 ?l53 ?c53 ?k53 ?a54 ?l54 ?c54 ?k54 ?a55 ?l55 ?c55 ?k55 ?z_abs ?z_all ?z_bool ?z_enumerate ?z_int ?z_isinstance ?z_len ?z_max ?z_min ?z_range ?z_str ?z_sum ?z_tuple ?z_zip
    all_goals kernel_rfl
