import PyProof.Rows.All
import Wide.All
import OpenK.AllK
import Wide.FinOn
import Lean
import PyProof.EqAt
import PyProof.EqKinds
import PyProof.TupleCall
import PySem.Challenge.RW_lightshares_k28_rows_even_and_least
set_option Elab.async false
set_option linter.all false
set_option maxRecDepth 100000
noncomputable section
def wAq:=@PySem.wpAny_bind
def wBq:=@PySem.wpAny_pure
def wCq:=@List.mem_cons_of_mem
def wDq:=@List.mem_cons_self
def wEq:=@PySem.Heap.get?_push_of_some
def wFq:=@Nat.lt_of_lt_of_le
def wGq:=@PySem.Heap.get?_push_size
def wHq:=@List.getElem?_eq_getElem
def wIq:=@List.size_toArray
theorem ddq{p:Prop}(h:p:=by decide):p:=h
theorem ooq{p:Prop}(h:p:=by omega):p:=h
abbrev J7:=PySem.Shared
abbrev J8:=String
abbrev J9:=PySem.Program
abbrev Ja:=PySem.FuncData
theorem jb{c:Prop}{h:Decidable c}(n:¬c){α:Sort _}{a b:α}:(if c then a else b)=b:=_root_.if_neg n
theorem jd{c:Prop}{h:Decidable c}(n:c){α:Sort _}{a b:α}:(if c then a else b)=a:=_root_.if_pos n
namespace L2
open PySem PySem.Spec PyProof.Rows
noncomputable abbrev Key:=Sum Int Str
noncomputable def vG:Key->Value->Bool
 | .inl k,v=>Value.isInt k v
 | .inr x,v=>Value.isStrOf x v
noncomputable def aLd(w:World):Key->Int
 | .inl k=>hashInt k
 | .inr x=>hashStr w x
theorem bT:∀{k:Key} {v:Value},vG k v=true->(∃i t,k=Sum.inl i/\v=Value.int i t)∨(∃x t,k=Sum.inr x/\v=Value.str x t)
 | .inl i,v,h=>by
   obtain⟨t,e⟩:=Value.isInt_shape (k:=i) (v:=v) h;exact .inl ⟨i,t,rfl,e⟩
 | .inr x,v,h=>by
   obtain⟨t,e⟩:=Value.isStrOf_shape (x:=x) (v:=v) h;exact .inr ⟨x,t,rfl,e⟩
theorem OJ(i:Int)(t:Tok):vG (.inl i) (.int i t)=true:=by simp[vG,Value.isInt]
theorem NY(x:Str)(t:Tok):vG (.inr x) (.str x t)=true:=by simp[vG,Value.isStrOf]
theorem aFS(a b:Int):decide ((Sum.inl a:Key)=Sum.inl b)=(a==b):=by
 by_cases e:a=b
 . subst e;simp
 . have h:¬(Sum.inl a:Key)=Sum.inl b:=λq=>e (Sum.inl.inj q);rw[decide_eq_false h];exact(beq_eq_false_iff_ne.mpr e).symm
theorem aEy(a b:Str):decide ((Sum.inr a:Key)=Sum.inr b)=decide (a=b):=by
 by_cases e:a=b
 . subst e;simp
 . have h:¬(Sum.inr a:Key)=Sum.inr b:=λq=>e (Sum.inr.inj q);rw[decide_eq_false h,decide_eq_false e]
theorem aGQ(a:Int)(b:Str):decide ((Sum.inl a:Key)=Sum.inr b)=false:=decide_eq_false (λq=>nomatch q)
theorem aG3(a:Str)(b:Int):decide ((Sum.inr a:Key)=Sum.inl b)=false:=decide_eq_false (λq=>nomatch q)
noncomputable def dX(prog:J9)(w:World):PySem.KeyKind prog w Key where
 is:=vG
 hash:=aLd w
 inj :=λv a b ha hb=>by
   rcases bT ha with ⟨i,t,rfl,rfl⟩|⟨x,t,rfl,rfl⟩
   . rcases bT hb with ⟨j,u,rfl,e⟩|⟨y,u,rfl,e⟩
     . injection e with e1 _;rw[e1]
     . exact nomatch e
   . rcases bT hb with ⟨j,u,rfl,e⟩|⟨y,u,rfl,e⟩
     . exact nomatch e
     . injection e with e1 _;rw[e1]
 byValue:=λk v h=>by
   rcases bT h with ⟨i,t,rfl,rfl⟩|⟨x,t,rfl,rfl⟩<;>rfl
 pyHash:=λhv h=>by
   rcases bT hv with ⟨i,t,rfl,rfl⟩|⟨x,t,rfl,rfl⟩
   . exact wpAny_pyHash_int h
   . exact wpAny_pyHash_str h
 eqBool:=λhu hv h=>by
   rcases bT hu with ⟨i,t,rfl,rfl⟩|⟨x,t,rfl,rfl⟩
   . rcases bT hv with ⟨j,u,rfl,rfl⟩|⟨y,u,rfl,rfl⟩
     . rw[aFS] at h;exact wpAny_eqBool_int h
     . rw[aGQ] at h;exact SeqAt.EqAt.int_str i t y u _ _ _ _ h
   . rcases bT hv with ⟨j,u,rfl,rfl⟩|⟨y,u,rfl,rfl⟩
     . rw[aG3] at h;exact SeqAt.EqAt.str_int x t j u _ _ _ _ h
     . rw[aEy] at h;exact wpAny_eqBool_str h
 «strs» :=λk x t v h=>by
   rcases bT h with ⟨i,u,rfl,e⟩|⟨y,u,rfl,e⟩
   . exact nomatch e
   . injection e with e1 _;subst e1;cases v<;>rfl
theorem aFR(prog:J9)(w:World)(k:Key)(v:Value):(dX prog w).is k v=vG k v:=rfl
theorem DM(prog:J9)(w:World)(i:Int)(t:Tok):(dX prog w).is (.inl i) (.int i t)=true:=OJ i t
theorem FA(prog:J9)(w:World)(x:Str)(t:Tok):(dX prog w).is (.inr x) (.str x t)=true:=NY x t
inductive V where
 | non|bl (b:Bool)|int (i:Int)|str (x:Str)|byt (b:Array UInt8)|flt (b:UInt64)|ref (a:Addr)|ty (n:J8)
 deriving DecidableEq
noncomputable def aN:V->Value->Prop
 | .non,u=>u=Value.none
 | .bl b,u=>u=Value.bool b
 | .int i,u=>∃t,u=Value.int i t
 | .str x,u=>∃t,u=Value.str x t
 | .byt b,u=>∃t,u=Value.bytes b t
 | .flt b,u=>∃t,u=Value.float b t
 | .ref a,u=>u=Value.ref a
 | .ty n,u=>u=Value.type n
noncomputable abbrev aI:List V->List Value->Prop:=Paired aN
theorem aI.length(r:aI xs us):xs.length=us.length:=Paired.length r
theorem aI.get:∀{xs:List V} {us:List Value} {i:Nat} {x:V},aI xs us->xs[i]? =some x->∃u,us[i]? =some u/\aN x u
 | _,_,_,_,.nil,e=>by simp at e
 | _,_,0,_,.cons r _,e=>by simp at e;subst e;exact⟨_,rfl,r⟩
 | _,_,i+1,x,.cons _ t,e=>by
   obtain⟨u,h1,h2⟩:=aI.get (i:=i) (x:=x) t (by simpa using e);exact⟨u,by simpa using h1,h2⟩
theorem aI.set{x:V}(r:aN x u):∀{xs:List V} {us:List Value} (i:Nat),aI xs us->aI (xs.set i x) (us.set i u)
 | _,_,_,.nil=>.nil
 | _,_,0,.cons _ t=>.cons r t
 | _,_,i+1,.cons q t=>.cons q (aI.set r i t)
theorem aI.append:∀{xs ys:List V} {us ws:List Value},aI xs us->aI ys ws->aI (xs++ys) (us++ws)
 | _,_,_,_,.nil,s=>s
 | _,_,_,_,.cons r t,s=>.cons r (aI.append t s)
theorem aI.take:∀{xs:List V} {us:List Value} (n:Nat),aI xs us->aI (xs.take n) (us.take n)
 | _,_,0,_=>.nil
 | _,_,_+1,.nil=>.nil
 | _,_,n+1,.cons r t=>.cons r (aI.take n t)
theorem aI.drop:∀{xs:List V} {us:List Value} (n:Nat),aI xs us->aI (xs.drop n) (us.drop n)
 | _,_,0,r=>r
 | _,_,_+1,.nil=>.nil
 | _,_,n+1,.cons _ t=>aI.drop n t
noncomputable def oO:Option V->Option Value->Prop
 | some v,some u=>aN v u
 | none,none=>True
 | _,_=>False
noncomputable def KV{κ:Type}:List (κ×V)->List (κ×Value)->Prop:=Paired λ(p:κ×V) (q:κ×Value)=>p.1=q.1/\aN p.2 q.2
noncomputable def kV:Key->V
 | .inl i=>.int i
 | .inr x=>.str x
inductive HO where
 | lst (xs:List V)
 | tup (xs:List V)
 | dK (kvs:List (Key×V))|dT (kvs:List (List Key×V))
 | set (S:Int->Bool) (n:Nat)
 | ins (C dx:Addr) (fs:List (Str×V))
 | own (x:Addr)
 | xd (fs:List (Str×V))
 | met (f x:Addr)
 | rng (lo hi:Int)
 | frz (o:Obj) (u:HO)
 | tbl (ps:Array Value)
 | ext (φ:Heap->Prop)
noncomputable abbrev Hp:=Addr->Option HO
noncomputable def upd(H:Hp)(a:Addr)(o:HO):Hp:=λb=>if b=a then some o else H b
theorem aS:upd H a o a=some o:=by unfold upd;rw[jd rfl]
theorem aG(h:b≠a):upd H a o b=H b:=by unfold upd;rw[jb h]
theorem aM{H:Hp}{a b:Addr}{o:HO}(h:H a=some o)(h':H b=none):a≠b:=by
 intro e;subst e;rw[h] at h';cases h'
def fP(h:Heap)(a:Addr)(items:Array Value):Prop:=IsTup h a items/\∀o,h.get? a=some o->o.dict=none
theorem fP.new(h:Heap)(items:Array Value):fP (h.push {cls:=.type "tuple",data:=.seq items}) h.objs.size items:=⟨IsTup.new h items,λo e=>by rw[wGq _ rfl] at e;cases e;rfl⟩
section
variable(P:J9)(w:World)
noncomputable def cC(H:Hp)(h:Heap)(a:Addr):HO->Prop
 | .lst xs=>xs.length<=sizeLine/\∃(its:List Value) (n:Nat),aI xs its/\h.get? a=some {cls:=.type "list",data:=.seq its.toArray n}
 | .tup xs=>xs.length<=sizeLine/\∃its:List Value,aI xs its/\fP h a its.toArray
 | .dK kvs=>kvs.length<=sizeLine/\(a==sysModules)=false/\∃vs,KV kvs vs/\h.DictOf (dX P w) a vs
 | .dT kvs=>kvs.length<=sizeLine/\(a==sysModules)=false/\∃xs:List (List Key×Addr×Value),
     Paired (λ(p:List Key×V) (q:List Key×Addr×Value)=>p.1=q.1/\H q.2.1=some (.tup (p.1.map kV))/\aN p.2 q.2.2) kvs xs/\
     ∃o es ep,h.get? a=some o/\o.ExactDict/\o.data= .dict es ep/\es.toList=xs.map (entryOfKey (tupleKind (dX P w)))/\(xs.map (·.1)).Nodup
 | .set S n=>h.SetOf (intKind P w) a S n
 | .ins C dx fs=>H dx=some (.own a)/\fs.length<=1000/\dx≠a/\h.get? a=some (W.instObj C dx)/\
     ∃mA,h.Ns1 dx mA/\(∀f,oO (fs.lookup f) (mA f))/\PySem.Within mA (fs.map (·.1))
 | .own _=>∃o,h.get? a=some o
 | .xd fs=>∃mA,h.Ns1 a mA/\∀f,oO (fs.lookup f) (mA f)
 | .rng lo hi=>∃t u v,h.get? a=some {cls:=.type "range",data:=.fields #[.int lo t,.int hi u,.int 1 v]}
 | .frz o u=>h.get? a=some o/\cC H h a u
 | .tbl ps=>h.get? a=some {cls:=.none,data:=.fields ps}
 | .met f x=>h.get? a=some (W.methodObj (.ref f) (.ref x))
 | .ext φ=>φ h/\(∃o,h.get? a=some o)/\∀h1 h2:Heap,φ h1->(∀o,h1.get? a=some o->h2.get? a=some o)->φ h2
def HOk(H:Hp)(h:Heap):Prop:= ∀a o,H a=some o->cC P w H h a o
end
section
variable{P:J9}{w:World}{H H':Hp}{h h':Heap}{a:Addr}{o:HO}
theorem cC.lt(x:cC P w H h a o):a<h.objs.size:=by
 cases o with
 | lst xs=>obtain⟨_,_,_,_,e⟩:=x;exact Heap.lt_size e
 | tup xs=>obtain⟨_,_,_,p⟩:=x;exact p.1.lt
 | dK kvs=>obtain⟨_,_,_,_,o,_,_,e,_⟩:=x;exact Heap.lt_size e
 | dT kvs=>obtain⟨_,_,_,_,o,_,_,e,_⟩:=x;exact Heap.lt_size e
 | set S n=>obtain⟨o,_,_,_,e,_⟩:=x;exact Heap.lt_size e
 | ins C dx fs=>obtain⟨_,_,_,e,_⟩:=x;exact Heap.lt_size e
 | own y=>obtain⟨_,e⟩:=x;exact Heap.lt_size e
 | xd fs=>obtain⟨_,⟨_,_,_,e,_⟩,_⟩:=x;exact Heap.lt_size e
 | rng lo hi=>obtain⟨_,_,_,e⟩:=x;exact Heap.lt_size e
 | frz ob u=>obtain⟨e,_⟩:=x;exact Heap.lt_size e
 | tbl ps=>exact Heap.lt_size (show h.get? a=some _ from x)
 | met f y=>exact Heap.lt_size (show h.get? a=some _ from x)
 | ext φ=>obtain⟨_,⟨_,e⟩,_⟩:=x;exact Heap.lt_size e
theorem Paired.mapP{α β:Type}{F G:α->β->Prop}:∀{l₁:List α} {l₂:List β},Paired F l₁ l₂->(∀a b,F a b->G a b)->Paired G l₁ l₂
 | _,_,.nil,_=>.nil
 | _,_,.cons r t,f=>.cons (f _ _ r) (Paired.mapP t f)
theorem cC.stay(x:cC P w H h a o)(k:∀b u,(b=a∨H b=some (.own a))->h.get? b=some u->h'.get? b=some u)
   (ho:∀b,H b=some (.own a)->H' b=some (.own a)) (ht:∀b xs,H b=some (.tup xs)->H' b=some (.tup xs)):cC P w H' h' a o:=by
 induction o with
 | lst xs=>obtain⟨z,its,n,r,e⟩:=x;exact⟨z,its,n,r,k _ _ (.inl rfl) e⟩
 | tup xs=>obtain⟨z,its,r,⟨ob,e,c⟩,dn⟩:=x;exact⟨z,its,r,⟨ob,k _ _ (.inl rfl) e,c⟩,λo q=>by rw[k _ _ (.inl rfl) e] at q;cases q;exact dn _ e⟩
 | dK kvs=>obtain⟨z,y,vs,r,ob,es,ep,e,c⟩:=x;exact⟨z,y,vs,r,ob,es,ep,k _ _ (.inl rfl) e,c⟩
 | dT kvs =>
   obtain⟨z,y,xs,r,ob,es,ep,e,c⟩:=x;exact⟨z,y,xs,Paired.mapP r λp q z=>⟨z.1,ht _ _ z.2.1,z.2.2⟩,ob,es,ep,k _ _ (.inl rfl) e,c⟩
 | set S n=>obtain⟨ob,es,ep,t,e,c⟩:=x;exact⟨ob,es,ep,t,k _ _ (.inl rfl) e,c⟩
 | ins C dx fs =>
   obtain⟨d,z,ne,e,mA,⟨od,es,ep,e2,c⟩,r⟩:=x;exact⟨ho _ d,z,ne,k _ _ (.inl rfl) e,mA,⟨od,es,ep,k _ _ (.inr d) e2,c⟩,r⟩
 | own y=>obtain⟨ob,e⟩:=x;exact⟨ob,k _ _ (.inl rfl) e⟩
 | xd fs=>obtain⟨mA,⟨od,es,ep,e,c⟩,r⟩:=x;exact⟨mA,⟨od,es,ep,k _ _ (.inl rfl) e,c⟩,r⟩
 | rng lo hi=>obtain⟨t,u,v,e⟩:=x;exact⟨t,u,v,k _ _ (.inl rfl) e⟩
 | frz ob u ih=>obtain⟨e,q⟩:=x;exact⟨k _ _ (.inl rfl) e,ih q⟩
 | tbl ps =>
   have e:h.get? a=some {cls:=.none,data:=.fields ps}:=x;show h'.get? a=some {cls:=.none,data:=.fields ps};exact k a _ (.inl rfl) e
 | met f y =>
   have e:h.get? a=some (W.methodObj (.ref f) (.ref y)):=x;show h'.get? a=some (W.methodObj (.ref f) (.ref y));exact k a _ (.inl rfl) e
 | ext φ=>obtain⟨p,⟨o,e⟩,st⟩:=x;exact⟨st _ _ p λo q=>k _ _ (.inl rfl) q,⟨o,k _ _ (.inl rfl) e⟩,st⟩
theorem HOk.lt(x:HOk P w H h)(e:H a=some o):a<h.objs.size:=(x a o e).lt
theorem HOk.fresh(x:HOk P w H h)(e:h.objs.size<=a):H a=none:=by
 cases q:H a with
 | none=>rfl
 | some u=>exact absurd (wFq (x.lt q) e) (Nat.lt_irrefl _)
theorem HOk.kept(x:HOk P w H h)(k:∀b u,h.get? b=some u->h'.get? b=some u):HOk P w H h':=λa o e =>
 (x a o e).stay (λb u _ q=>k b u q) (λ_ q=>q) λ_ _ q=>q
theorem HOk.laid(x:HOk P w H h)(k:∀b u,h.get? b=some u->h'.get? b=some u)(hp:h.objs.size<=a)(new:cC P w (upd H a o) h' a o):HOk P w (upd H a o) h':=λb u e=>by
 have hn:=x.fresh hp;by_cases hb:b=a
 . subst hb;rw[aS] at e;cases e;exact new
 . rw[aG hb] at e;exact(x b u e).stay (λc v _ q=>k c v q) (λc q=>by rw[aG (aM q hn)];exact q) λc xs q=>by rw[aG (aM q hn)];exact q
end
def Rd(H:Hp)(a:Addr)(u:HO):Prop:=H a=some u∨∃o,H a=some (.frz o u)
theorem Rd.ok(r:Rd H a u)(x:HOk P w H h):cC P w H h a u:=by
 rcases r with r|⟨o,r⟩
 . exact x a u r
 . obtain⟨_,q⟩:=x a _ r;exact q
noncomputable def Mut:Option HO->Prop
 | some (.lst _)=>True
 | some (.dK _)=>True
 | some (.dT _)=>True
 | some (.set _ _)=>True
 | some (.ins _ _ _)=>True
 | some (.ext _)=>True
 | _=>False
section
variable{P:J9}{w:World}{H:Hp}{h h':Heap}{x e:Addr}{o':HO}
theorem HOk.write(ok:HOk P w H h)(mu:Mut (H x))(he:e=x∨H e=some (.own x))(k:∀b u,b≠e->h.get? b=some u->h'.get? b=some u)(heo:∃u,h'.get? e=some u)
   (new:cC P w (upd H x o') h' x o'):HOk P w (upd H x o') h':=λb u q=>by
 have nown:∀c y,H c=some (.own y)->c≠x:=λc y r z=>by subst z;rw[r] at mu;exact mu
 have ntup:∀c xs,H c=some (.tup xs)->c≠x:=λc xs r z=>by subst z;rw[r] at mu;exact mu
 by_cases hb:b=x
 . subst hb;rw[aS] at q;cases q;exact new
 . rw[aG hb] at q;by_cases hbe:b=e
   . have q':H b=some (.own x):=by
       rcases he with z|z
       . exact absurd (hbe.trans z) hb
       . rw[hbe];exact z
     rw[q] at q';cases q';obtain⟨v,hv⟩:=heo;exact⟨v,by rw[hbe];exact hv⟩
   . refine(ok b u q).stay (λc v hc r=>k c v ?_ r) (λc r=>by rw[aG (nown c b r)];exact r) λc xs r=>by rw[aG (ntup c xs r)];exact r
     rcases hc with rfl|hc
     . exact hbe
     . rintro rfl;rcases he with z|z
       . exact nown c b hc z
       . rw[hc] at z;cases z;exact hb rfl
end
structure Un(fs ex:List Addr)(H H':Hp)(h h':Heap):Prop where
 keep:∀b o,h.get? b=some o->H b=none->b∉fs->b∉ex->h'.get? b=some o
 slot:∀b o,h.get? b=some o->H b=none->b∈fs->b∉ex->∃sl,h'.get? b=some {o with slots:=sl}
 free:∀b o,h.get? b=some o->H b=none->b∉ex->H' b=none
 there:∀b o,h.get? b=some o->b∉ex->∃o',h'.get? b=some o'
 tups:∀b xs,H b=some (.tup xs)->H' b=some (.tup xs)
 frzs:∀b o u,H b=some (.frz o u)->H' b=some (.frz o u)
 tbls:∀b ps,H b=some (.tbl ps)->∃more,H' b=some (.tbl (ps++more))
section
variable{fs fs' ex ex':List Addr}{H H1 H2:Hp}{h h1 h2 h':Heap}{a x e:Addr}{o:HO}
theorem Un.any(u:Un fs ex H H1 h h1)(q:h.get? b=some ob)(n:H b=none)(hx:b∉ex):∃sl,h1.get? b=some {ob with slots:=sl}:=by
 by_cases hb:b∈fs
 . exact u.slot b ob q n hb hx
 . exact⟨ob.slots,u.keep b ob q n hb hx⟩
theorem Un.kept(k:∀b u,h.get? b=some u->h'.get? b=some u):Un fs ex H H h h' :=
 ⟨λb ob q _ _ _=>k b ob q,λb ob q _ _ _=>⟨ob.slots,k b ob q⟩,λ_ _ _ n _=>n,λb ob q _=>⟨ob,k b ob q⟩,λ_ _ q=>q,λ_ _ _ q=>q,λ_ ps q=>⟨#[],by rw[q];simp⟩⟩
theorem Un.refl:Un fs ex H H h h:=Un.kept λ_ _ q=>q
theorem Un.laid(k:∀b u,h.get? b=some u->h'.get? b=some u)(hp:h.objs.size<=a)(hn:H a=none):Un fs ex H (upd H a o) h h' where
 keep:=λb u q _ _ _=>k b u q
 slot:=λb u q _ _ _=>⟨u.slots,k b u q⟩
 free:=λb u q n _=>by rw[aG (Nat.ne_of_lt (wFq (Heap.lt_size q) hp))];exact n
 there:=λb u q _=>⟨u,k b u q⟩
 tups:=λb xs q=>by rw[aG (aM q hn)];exact q
 frzs:=λb u xs q=>by rw[aG (aM q hn)];exact q
 tbls:=λb ps q=>⟨#[],by rw[aG (aM q hn),q];simp⟩
theorem Un.write(mu:Mut (H x))(he:e=x∨H e=some (.own x))(k:∀b u,b≠e->h.get? b=some u->h'.get? b=some u)(heo:∃u,h'.get? e=some u):Un fs ex H (upd H x o) h h':=by
 have hx:∀b,H b=none->b≠x:=λb n z=>by subst z;rw[n] at mu;exact mu
 have hb:∀b,H b=none->b≠e:=λb n z=>by
   subst z;rcases he with r|r
   . exact hx b n r
   . rw[n] at r;cases r
 have hm:∀b u,H b=some u->¬Mut (some u)->b≠x:=λb u q nm z=>by subst z;rw[q] at mu;exact nm mu
 refine⟨λb u q n _ _=>k b u (hb b n) q,λb u q n _ _=>⟨u.slots,k b u (hb b n) q⟩,λb u q n _=>by rw[aG (hx b n)];exact n,λb u q _=>?_,
   λb xs q=>by rw[aG (hm b _ q λz=>z)];exact q,λb u xs q=>by rw[aG (hm b _ q λz=>z)];exact q,λb ps q=>⟨#[],by rw[aG (hm b _ q λz=>z),q];simp⟩⟩
 by_cases hbe:b=e
 . subst hbe;exact heo
 . exact⟨u,k b u hbe q⟩
end
noncomputable def trk(h:Heap)(H:Hp):List Addr:=(List.range h.objs.size).filter λa=>(H a).isSome
noncomputable def AC(h:Heap)(H:Hp):Heap:=W.hideAll h (trk h H)
theorem PR(h:Heap)(H:Hp):(AC h H).objs.size=h.objs.size:=W.hideAll_size _ _
theorem WI(e:h.get? b=some o)(n:H b=none):(AC h H).get? b=some o :=
 W.hideAll_get _ e λhm=>by
   have q:(H b).isSome=true:=(List.mem_filter.mp hm).2;rw[n] at q;simp at q
theorem aAV(e:(AC h H).get? b=some o):h.get? b=some o/\H b=none:=by
 have e':h.get? b=some o:=W.of_hideAll (trk h H) e;refine⟨e',?_⟩;cases q:H b with
 | none=>rfl
 | some x =>
   have hm:b∈trk h H:=List.mem_filter.mpr ⟨List.mem_range.mpr (Heap.lt_size e'),by simp[q]⟩;have z:(AC h H).get? b=none:=W.hideAll_none (trk h H) hm;rw[z] at e;cases e
noncomputable def aBE(g h:Heap)(L:Addr):List (Addr×Obj):=(List.range h.objs.size).filterMap λa=>if a=L∨(g.get? a).isSome=true then none else(h.get? a).map λo=>(a,o)
noncomputable def aY(g h:Heap)(L d:Addr):List (Addr×Obj):=(aBE g h L).filter λp=>decide (p.1≠d)
structure Mod(K:W.Frag)(mg:Str->Option Value)(base:Heap):Prop where
 kin:K.In base
 glob:base.Ns mainGlobals mg
 blt:∃mb,base.Ns builtinsNs mb/\∀x:Str,x≠"__name__"->mb x=bootBuiltins x
 nolimit:base.NoLimit
structure Cx where
 prog:J9
 w:World
 K:W.Frag
 mg:Str->Option Value
 base:Heap
 A:Around
 N:List Str
 s₀:J7
 H₀:Hp
 env:Env
 outer:List Env
 stack:List Env
 ex:List Addr
 fn:Str->Bool
 calm:Bool
 pn:List (Addr×Obj)
 xe:Value->J7->Prop
noncomputable def frs(l:List Env):List Addr:=l.filterMap (·.frame)
noncomputable abbrev Cx.fs(X:Cx):List Addr:=frs X.outer
def Vis(sc:Scope)(x:Str):Prop:=sc.names.lookup x=some .local∨sc.names.lookup x=some .cell∨sc.names.lookup x=some .free
def Loc(sc:Scope)(x:Str):Prop:=sc.names.lookup x=some .local∨sc.names.lookup x=some .cell
noncomputable def aLG(env:Env)(h:Heap)(m:Str->Option Value)(x:Str)(u:Value):Prop :=
 (env.kindOf x=some .local/\m x=some u)∨((env.kindOf x=some .cell∨env.kindOf x=some .free)/\∃c,env.cells.lookup x=some c/\h.IsCell c (some u))
structure Cx.Ok(X:Cx):Prop where
 mod:Mod X.K X.mg X.base
 kind:X.env.scope.kind= .function
 glob:X.env.globals=mainGlobals
 blt:X.env.builtins=builtinsNs
 above:X.s₀.heap.objs.size<=X.env.locals
 inj:∀x y c,X.env.cells.lookup x=some c->X.env.cells.lookup y=some c->x=y
 has:∀x,(X.env.kindOf x=some .cell∨X.env.kindOf x=some .free)->∃c,X.env.cells.lookup x=some c
 cab:∀x c,X.fn x=true->X.env.cells.lookup x=some c->X.s₀.heap.objs.size<=c
 hd:X.calm=true->X.A.handled=none
 frames:X.A.frames=some X.stack
 stk:X.stack=X.outer∨(X.stack=X.env::X.outer/\X.env.frame=some X.env.locals)
 exf:∀b∈X.ex,b≠X.env.locals/\∀x c,X.env.cells.lookup x=some c->c≠b
 bs:∀b o,X.base.get? b=some o->X.s₀.heap.get? b=some o/\X.H₀ b=none
 bsz:X.base.objs.size<=X.s₀.heap.objs.size
 noex:∀b o,X.base.get? b=some o->b∉X.ex
 exfs:∀b∈X.ex,b∉X.fs
 funs:X.s₀.heap.FunFrames X.base X.outer
 frf:∀b∈X.fs,X.H₀ b=none
structure Inv(X:Cx)(j4:List (Addr×Obj))(σ:List (Option V))(H:Hp)(s:J7):Prop where
 ok:X.Ok
 os:s.os=X.s₀.os
 bare:AllBare s.gens
 base:Un X.fs X.ex X.H₀ H X.s₀.heap s.heap
 loc:∃m,s.heap.Ns X.env.locals m/\∀(i:Nat) (x:Str) (v:V),X.N[i]? =some x->σ[i]? =some (some v)->Vis X.env.scope x->∃u,aN v u/\aLG X.env s.heap m x u
 cell:∀x c,X.env.cells.lookup x=some c->∃v,s.heap.IsCell c v
 free:H X.env.locals=none
 freeC:∀x c,X.env.cells.lookup x=some c->H c=none
 pin:∀p∈X.pn++j4,s.heap.get? p.1=some p.2/\H p.1=none/\p.1≠X.env.locals/\p.1∉X.fs/\∀v,p.2.data≠.cell v
 hok:HOk X.prog X.w H s.heap
 len:σ.length=X.N.length
section
variable{X:Cx}{j4:List (Addr×Obj)}{σ:List (Option V)}{H H':Hp}{s:J7}{h':Heap}
theorem Cx.Ok.nofr(ok:X.Ok)(e:X.base.get? b=some o):b∉X.fs:=λhb=>by
 have:=(ok.funs.mem hb).1;rw[e] at this;cases this
theorem Inv.bs(I:Inv X j4 σ H s):∀b o,X.base.get? b=some o->s.heap.get? b=some o/\H b=none:=λb o e =>
 ⟨I.base.keep b o (I.ok.bs b o e).1 (I.ok.bs b o e).2 (I.ok.nofr e) (I.ok.noex b o e),I.base.free b o (I.ok.bs b o e).1 (I.ok.bs b o e).2 (I.ok.noex b o e)⟩
theorem Inv.bk(I:Inv X j4 σ H s):∀b o,X.base.get? b=some o->s.heap.get? b=some o:=λb o e=>(I.bs b o e).1
theorem Inv.mod(I:Inv X j4 σ H s):Mod X.K X.mg X.base:=I.ok.mod
theorem Inv.kIn(I:Inv X j4 σ H s):X.K.In s.heap:=I.ok.mod.kin.keeps I.bk
theorem Inv.fr(I:Inv X j4 σ H s):∃m,Fr X.base X.env.locals s.heap m :=
 let ⟨m,hn,_⟩:=I.loc
 ⟨m,hn,I.bk,Nat.le_trans I.ok.bsz I.ok.above⟩
theorem Inv.lt(I:Inv X j4 σ H s):X.env.locals<s.heap.objs.size:=let ⟨_,hn,_⟩:=I.loc;hn.lt
theorem Inv.sz(I:Inv X j4 σ H s):X.s₀.heap.objs.size<=s.heap.objs.size:=Nat.le_trans I.ok.above (Nat.le_of_lt I.lt)
theorem Inv.nofs(I:Inv X j4 σ H s){a:Addr}(h:s.heap.objs.size<=a):a∉X.fs:=λhb=>by
 obtain⟨_,o,ho,_⟩:=I.ok.funs.mem hb;exact absurd (wFq (Heap.lt_size ho) (Nat.le_trans I.sz h)) (Nat.lt_irrefl _)
theorem Inv.cne(I:Inv X j4 σ H s):∀x c,X.env.cells.lookup x=some c->c≠X.env.locals:=λx c e z=>by
 obtain⟨v,o,ho,hd⟩:=I.cell x c e;obtain⟨m,⟨o',es,ep,ho',hd',_⟩,_⟩:=I.loc;rw[z,ho'] at ho;cases ho;rw[hd'] at hd;cases hd
theorem Inv.funs(I:Inv X j4 σ H s):s.heap.FunFrames X.base X.outer:=by
 have all:∀(l:List Env),(∀b∈frs l,b∈X.fs)->X.s₀.heap.FunFrames X.base l->s.heap.FunFrames X.base l:=by
   intro l;induction l with
   | nil=>intro _ _;trivial
   | cons env r ih =>
     intro hs hl;obtain⟨hk,⟨L,o,hf,hn,ho,hd⟩,hr⟩:=hl;have hL:L∈X.fs:=hs L (by unfold frs;rw[List.filterMap_cons,hf];exact wDq);obtain⟨sl,e⟩:=I.base.slot L o ho (I.ok.frf L hL) hL λz=>I.ok.exfs L z hL;exact⟨hk,⟨L,_,hf,hn,e,hd⟩,ih (λb hb=>hs b (by unfold frs;rw[List.filterMap_cons,hf];exact wCq _ hb)) hr⟩
 exact all X.outer (λ_ hb=>hb) I.ok.funs
theorem Inv.stack(I:Inv X j4 σ H s):s.heap.FunFrames X.base X.stack:=by
 rcases I.ok.stk with e|⟨e,hf⟩
 . rw[e];exact I.funs
 . rw[e];obtain⟨m,hn,_⟩:=I.loc;refine .cons (by rw[I.ok.kind];decide) hf hn ?_ I.funs;exact Heap.get?_none_of_le (Nat.le_trans I.ok.bsz I.ok.above)
theorem Inv.stkSub(I:Inv X j4 σ H s):∀b∈frs X.stack,b∈X.env.locals::X.fs:=λb hb=>by
 rcases I.ok.stk with e|⟨e,hf⟩
 . rw[e] at hb;exact wCq _ hb
 . rw[e] at hb;unfold frs at hb;rw[List.filterMap_cons,hf] at hb;exact hb
theorem Inv.stkFree(I:Inv X j4 σ H s):∀b∈frs X.stack,H b=none:=λb hb=>by
 rcases List.mem_cons.mp (I.stkSub b hb) with e|hb
 . rw[e];exact I.free
 . obtain⟨_,o,ho,_⟩:=I.ok.funs.mem hb;exact I.base.free b o ho (I.ok.frf b hb) λz=>I.ok.exfs b z hb
theorem Inv.step{g':Array GenState}{ch:List Addr}(I:Inv X j4 σ H s)
   (hch:∀b∈ch,(b∈X.ex∨X.s₀.heap.objs.size<=b)/\b≠X.env.locals/\(∀x c,X.env.cells.lookup x=some c->c≠b)/\∀p∈X.pn++j4,p.1≠b)
   (keep:∀b o,b≠X.env.locals->b∉X.fs->b∉ch->s.heap.get? b=some o->H b=none->h'.get? b=some o)
   (slot:∀b o,b≠X.env.locals->b∈X.fs->b∉ch->s.heap.get? b=some o->H b=none->∃sl,h'.get? b=some {o with slots:=sl}) (free:∀b o,b∉ch->s.heap.get? b=some o->H b=none->H' b=none)
   (there:∀b o,b∉ch->s.heap.get? b=some o->∃o',h'.get? b=some o')
   (tups:∀b xs,H b=some (.tup xs)->H' b=some (.tup xs)) (frzs:∀b o u,H b=some (.frz o u)->H' b=some (.frz o u)) (tbls:∀b ps,H b=some (.tbl ps)->∃more,H' b=some (.tbl (ps++more)))
   (ns:∀m,s.heap.Ns X.env.locals m->h'.Ns X.env.locals m) (hok:HOk X.prog X.w H' h') (hg:AllBare g') :
   Inv X j4 σ H' {s with heap:=h',gens:=g',drawn:=d',toks:=t'}:=by
 have neL:∀b o,X.s₀.heap.get? b=some o->b≠X.env.locals:=λb o e=>Nat.ne_of_lt (wFq (Heap.lt_size e) I.ok.above);have neC:∀b o,X.s₀.heap.get? b=some o->b∉X.ex->b∉ch:=λb o e hx hb=>by
   rcases(hch b hb).1 with z|z
   . exact hx z
   . exact absurd (wFq (Heap.lt_size e) z) (Nat.lt_irrefl _)
 have cellK:∀x c,X.env.cells.lookup x=some c->∀v,s.heap.IsCell c v->h'.IsCell c v:=by
   rintro x c e v ⟨o,ho,hd⟩;have nch:c∉ch:=λz=>(hch c z).2.2.1 x c e rfl;by_cases hc:c∈X.fs
   . obtain⟨sl,q⟩:=slot c o (I.cne x c e) hc nch ho (I.freeC x c e);exact⟨_,q,hd⟩
   . exact⟨o,keep c o (I.cne x c e) hc nch ho (I.freeC x c e),hd⟩
 refine⟨I.ok,I.os,hg,⟨λb o e n hb hx=>?_,λb o e n hb hx=>?_,λb o e n hx=>?_,λb o e hx=>?_,λb xs e=>tups b xs (I.base.tups b xs e),λb o xs e=>frzs b o xs (I.base.frzs b o xs e),λb ps e=>?_⟩,?_,λx c e=>?_,?_,λx c e=>?_,λp hp=>?_,hok,I.len⟩
 . exact keep b o (neL b o e) hb (neC b o e hx) (I.base.keep b o e n hb hx) (I.base.free b o e n hx)
 . obtain⟨sl,e1⟩:=I.base.slot b o e n hb hx;obtain⟨sl',e2⟩:=slot b _ (neL b o e) hb (neC b o e hx) e1 (I.base.free b o e n hx);exact⟨sl',e2⟩
 . obtain⟨o',e1⟩:=I.base.there b o e hx;exact free b o' (neC b o e hx) e1 (I.base.free b o e n hx)
 . obtain⟨o',e1⟩:=I.base.there b o e hx;exact there b o' (neC b o e hx) e1
 . obtain⟨m1,e1⟩:=I.base.tbls b ps e;obtain⟨m2,e2⟩:=tbls b _ e1;exact⟨m1++m2,by rw[e2,Array.append_assoc]⟩
 . obtain⟨m,hn,hl⟩:=I.loc;refine⟨m,ns m hn,λi x v e1 e2 e3=>?_⟩;obtain⟨u,r,l⟩:=hl i x v e1 e2 e3;refine⟨u,r,?_⟩;rcases l with l|⟨k,c,e,z⟩
   . exact .inl l
   . exact .inr ⟨k,c,e,cellK x c e _ z⟩
 . obtain⟨v,z⟩:=I.cell x c e;exact⟨v,cellK x c e v z⟩
 . obtain⟨m,⟨o,_,_,ho,_⟩,_⟩:=I.loc;exact free _ o (λz=>(hch _ z).2.1 rfl) ho I.free
 . obtain⟨v,o,ho,hd⟩:=I.cell x c e;exact free c o (λz=>(hch c z).2.2.1 x c e rfl) ho (I.freeC x c e)
 . obtain⟨e,n,ne,nf,d⟩:=I.pin p hp;have nch:p.1∉ch:=λz=>(hch p.1 z).2.2.2 p hp rfl;exact⟨keep p.1 p.2 ne nf nch e n,free p.1 p.2 nch e n,ne,nf,d⟩
theorem Inv.un(I:Inv X j4 σ H s)(u:Un X.fs [] H H' s.heap h')(hok:HOk X.prog X.w H' h'):Inv X j4 σ H' {s with heap:=h',toks:=t'}:=by
 obtain⟨m,⟨o,es,ep,ho,r⟩,_⟩:=id I.loc;obtain⟨sl,hL⟩:=u.any ho I.free (by simp);exact I.step (g':=s.gens) (d':=s.drawn) (ch:=[]) (λ_ z=>nomatch z) (λb o _ hb _ e n=>u.keep b o e n hb (by simp)) (λb o _ hb _ e n=>u.slot b o e n hb (by simp)) (λb o _ e n=>u.free b o e n (by simp)) (λb o _ e=>u.there b o e (by simp)) u.tups u.frzs u.tbls (λm' hm=>by
   obtain⟨o',es',ep',ho',r'⟩:=hm;rw[ho] at ho';cases ho';exact⟨_,es',ep',hL,r'⟩) hok I.bare
theorem Inv.call(I:Inv X j4 σ H s)(u:Un (frs X.stack) ch H H' s.heap h')(hok:HOk X.prog X.w H' h')(hg:AllBare g')
   (hch:∀b∈ch,(b∈X.ex∨X.s₀.heap.objs.size<=b)/\b≠X.env.locals/\(∀x c,X.env.cells.lookup x=some c->c≠b)/\∀p∈X.pn++j4,p.1≠b) :
   Inv X j4 σ H' {s with heap:=h',gens:=g',drawn:=d',toks:=t'}:=by
 obtain⟨m,⟨o,es,ep,ho,r⟩,_⟩:=id I.loc;obtain⟨sl,hL⟩:=u.any ho I.free λz=>(hch _ z).2.1 rfl;exact I.step (ch:=ch) hch (λb o hL hb hc e n=>u.keep b o e n (λz=>(List.mem_cons.mp (I.stkSub b z)).elim hL hb) hc) (λb o _ _ hc e n=>u.any e n hc) (λb o hc e n=>u.free b o e n hc) (λb o hc e=>u.there b o e hc) u.tups u.frzs u.tbls (λm' hm=>by
   obtain⟨o',es',ep',ho',r'⟩:=hm;rw[ho] at ho';cases ho';exact⟨_,es',ep',hL,r'⟩) hok hg
theorem Inv.turned(I:Inv X j4 σ H s)(k:∀b o,b≠it->s.heap.get? b=some o->h'.get? b=some o)(hn:H it=none)(hL:it≠X.env.locals)
   (h1:it∈X.ex∨X.s₀.heap.objs.size<=it) (h2:∀x c,X.env.cells.lookup x=some c->c≠it) (h3:∀p∈X.pn++j4,p.1≠it):Inv X j4 σ H {s with heap:=h',toks:=t'}:=by
 have nit:∀b u,H b=some u->b≠it:=λb u e z=>by rw[z,hn] at e;cases e
 refine I.step (g':=s.gens) (d':=s.drawn) (ch:=[it]) (λb hb=>?_) (λb o _ _ hc e _=>k b o (λz=>hc (by simp[z])) e) (λb o _ _ hc e _=>⟨o.slots,k b o (λz=>hc (by simp[z])) e⟩) (λ_ _ _ _ n=>n)
   (λb o hc e=>⟨o,k b o (λz=>hc (by simp[z])) e⟩) (λ_ _ e=>e) (λ_ _ _ e=>e) (λb ps e=>⟨#[],by rw[e];simp⟩) (λm hm=>?_) (λb u e=>?_) I.bare
 . have e:b=it:=by simpa using hb
   subst e;exact⟨h1,hL,h2,h3⟩
 . obtain⟨o,es,ep,ho,r⟩:=hm;exact⟨o,es,ep,k _ o (Ne.symm hL) ho,r⟩
 . refine(I.hok b u e).stay (λc v hc q=>k c v ?_ q) (λ_ q=>q) λ_ _ q=>q;rcases hc with z|z
   . rw[z];exact nit b u e
   . exact nit c _ z
theorem Inv.tok(I:Inv X j4 σ H s)(t:Nat):Inv X j4 σ H {s with toks:=t}:=I.un (h':=s.heap) (t':=t) Un.refl I.hok
theorem Inv.kept(I:Inv X j4 σ H s)(k:∀b u,s.heap.get? b=some u->h'.get? b=some u):Inv X j4 σ H {s with heap:=h',toks:=t'}:=I.un (Un.kept k) (I.hok.kept k)
theorem Inv.laid{a:Addr}{o:HO}{t':Nat}(I:Inv X j4 σ H s)(k:∀b u,s.heap.get? b=some u->h'.get? b=some u)(hp:s.heap.objs.size<=a)(new:cC X.prog X.w (upd H a o) h' a o) :
   Inv X j4 σ (upd H a o) {s with heap:=h',toks:=t'}:=I.un (Un.laid k hp (I.hok.fresh hp)) (I.hok.laid k hp new)
theorem Inv.write(I:Inv X j4 σ H s)(mu:Mut (H x))(he:e=x∨H e=some (.own x))(k:∀b u,b≠e->s.heap.get? b=some u->h'.get? b=some u)(heo:∃u,h'.get? e=some u)
   (new:cC X.prog X.w (upd H x o) h' x o):Inv X j4 σ (upd H x o) {s with heap:=h',toks:=t'}:=I.un (Un.write mu he k heo) (I.hok.write mu he k heo new)
theorem Inv.pins_of(I:Inv X j4 σ H s)(h:∀p∈pins',s.heap.get? p.1=some p.2/\H p.1=none/\p.1≠X.env.locals/\p.1∉X.fs/\∀v,p.2.data≠.cell v):Inv X pins' σ H s :=
 ⟨I.ok,I.os,I.bare,I.base,I.loc,I.cell,I.free,I.freeC,λp hp=>(List.mem_append.mp hp).elim (λz=>I.pin p (List.mem_append_left _ z)) (h p),I.hok,I.len⟩
theorem EE{N:List Str}(hN:N.Nodup){i j:Nat}{x:Str}(a:N[i]? =some x)(b:N[j]? =some x):i=j:=by
 obtain⟨h1,e1⟩:=List.getElem?_eq_some_iff.mp a;obtain⟨h2,e2⟩:=List.getElem?_eq_some_iff.mp b;exact(List.getElem_inj hN).mp (e1.trans e2.symm)
theorem OC(I:Inv X j4 σ H s)(hN:X.N.Nodup)(hi:X.N[i]? =some x)(hx:Loc X.env.scope x)(r:aN v u)
   (h:∀s',Inv X j4 (σ.set i (some v)) H s'->(∃a,Heap.SameBut a s.heap s'.heap/\(a=X.env.locals∨X.env.cells.lookup x=some a))->Q () s') (hf:X.fn x=true∨X.env.scope.names.lookup x=some .local:=by first|exact .inl rfl|exact .inr rfl|assumption):wpAny M A (storeName X.env x u) Q E s:=by
 obtain⟨m,hn,hl⟩:=id I.loc;have hcls:(X.env.scope.kind==.class||(X.env.scope.kind==.module&&X.env.locals !=X.env.globals))=false:=by rw[I.ok.kind];rfl
 have hiσ:i<σ.length:=by rw[I.len];exact(List.getElem?_eq_some_iff.mp hi).1
 have cne:=I.cne;have tracked:∀{a:Addr} {h':Heap},(∃o,s.heap.get? a=some o/\H a=none)->Heap.SameBut a s.heap h'->HOk X.prog X.w H h':=λ{a h'} ha hs b ob e=>by
   obtain⟨_,_,hfree⟩:=ha;refine(I.hok b ob e).stay (λc w' hc q=>(hs.2 c ?_).trans q) (λ_ q=>q) λ_ _ q=>q;rintro rfl;rcases hc with rfl|hc
   . rw[hfree] at e;cases e
   . rw[hfree] at hc;cases hc
 rcases hx with hk|hk
 . refine wpAny_storeName_local hk hn (λh' hn' hs=>?_) hcls;obtain⟨oL,_,_,hoL,_⟩:=id hn;refine h _ ⟨I.ok,I.os,I.bare,⟨λb o e n hb hx=>?_,λb o e n hb hx=>?_,I.base.free,λb o e hx=>?_,I.base.tups,I.base.frzs,I.base.tbls⟩,⟨_,hn',λj y v' e1 e2 e3=>?_⟩,λy c e=>?_,I.free,I.freeC,λp hp=>?_,tracked ⟨oL,hoL,I.free⟩ hs,by simpa using I.len⟩ ⟨_,hs,.inl rfl⟩
   . exact(hs.2 b (Nat.ne_of_lt (wFq (Heap.lt_size e) I.ok.above))).trans (I.base.keep b o e n hb hx)
   . obtain⟨sl,e1⟩:=I.base.slot b o e n hb hx;exact⟨sl,(hs.2 b (Nat.ne_of_lt (wFq (Heap.lt_size e) I.ok.above))).trans e1⟩
   . obtain⟨o',e1⟩:=I.base.there b o e hx;exact⟨o',(hs.2 b (Nat.ne_of_lt (wFq (Heap.lt_size e) I.ok.above))).trans e1⟩
   . by_cases hj:j=i
     . subst hj;rw[hi] at e1;cases e1;rw[List.getElem?_set_self hiσ] at e2;cases e2;exact⟨u,r,.inl ⟨hk,by simp⟩⟩
     . rw[List.getElem?_set_ne (Ne.symm hj)] at e2;obtain⟨u',r',q⟩:=hl j y v' e1 e2 e3;refine⟨u',r',?_⟩;rcases q with ⟨k,e⟩|⟨k,c,e,z⟩
       . refine .inl ⟨k,?_⟩;have:y≠x:=λe=>hj (EE hN e1 (e▸hi));simp[this,e]
       . exact .inr ⟨k,c,e,z.sameBut hs (cne y c e)⟩
   . obtain⟨w',z⟩:=I.cell y c e;exact⟨w',z.sameBut hs (cne y c e)⟩
   . obtain⟨e,n,ne,nf,d⟩:=I.pin p hp;exact⟨(hs.2 p.1 ne).trans e,n,ne,nf,d⟩
 . have hfn:X.fn x=true:=by
     rcases hf with z|z
     . exact z
     . rw[z] at hk;cases hk
   obtain⟨c,hc⟩:=I.ok.has x (.inl hk);obtain⟨w',z⟩:=I.cell x c hc;refine wpAny_storeName_cell I.ok.kind hk hc z (λh' hc' hs=>?_);obtain⟨oc,hoc,hocd⟩:=id z;refine h {s with heap:=h'} ⟨I.ok,I.os,I.bare,⟨λb o e n hb hx=>?_,λb o e n hb hx=>?_,I.base.free,λb o e hx=>?_,I.base.tups,I.base.frzs,I.base.tbls⟩,⟨m,hn.sameBut hs (Ne.symm (cne x c hc)),λj y v' e1 e2 e3=>?_⟩,λy c' e=>?_,I.free,I.freeC,λp hp=>?_,tracked ⟨oc,hoc,I.freeC x c hc⟩ hs,by simpa using I.len⟩ ⟨c,hs,.inr hc⟩
   . exact(hs.2 b (Nat.ne_of_lt (wFq (Heap.lt_size e) (I.ok.cab x c hfn hc)))).trans (I.base.keep b o e n hb hx)
   . obtain⟨sl,e1⟩:=I.base.slot b o e n hb hx;exact⟨sl,(hs.2 b (Nat.ne_of_lt (wFq (Heap.lt_size e) (I.ok.cab x c hfn hc)))).trans e1⟩
   . obtain⟨o',e1⟩:=I.base.there b o e hx;exact⟨o',(hs.2 b (Nat.ne_of_lt (wFq (Heap.lt_size e) (I.ok.cab x c hfn hc)))).trans e1⟩
   . by_cases hj:j=i
     . subst hj;rw[hi] at e1;cases e1;rw[List.getElem?_set_self hiσ] at e2;cases e2;exact⟨u,r,.inr ⟨.inl hk,c,hc,hc'⟩⟩
     . rw[List.getElem?_set_ne (Ne.symm hj)] at e2;obtain⟨u',r',q⟩:=hl j y v' e1 e2 e3;refine⟨u',r',?_⟩;rcases q with q|⟨k,c',e,z'⟩
       . exact .inl q
       . refine .inr ⟨k,c',e,z'.sameBut hs ?_⟩;rintro rfl;exact hj (EE hN e1 (I.ok.inj _ _ _ e hc▸hi))
   . by_cases hcc:c'=c
     . subst hcc;exact⟨_,hc'⟩
     . obtain⟨w2,z2⟩:=I.cell y c' e;exact⟨w2,z2.sameBut hs hcc⟩
   . obtain⟨e,n,ne,nf,d⟩:=I.pin p hp;refine⟨(hs.2 p.1 ?_).trans e,n,ne,nf,d⟩;intro q;rw[q,hoc] at e;have q':oc=p.2:=Option.some.inj e;exact d w' (by rw[<-q'];exact hocd)
theorem vB(I:Inv X j4 σ H s)(hN:X.N.Nodup)(hi:X.N[i]? =some x)(hx:Loc X.env.scope x)(r:aN v u)
   (h:∀s',Inv X j4 (σ.set i (some v)) H s'->Q () s') (hf:X.fn x=true∨X.env.scope.names.lookup x=some .local:=by first|exact .inl rfl|exact .inr rfl|assumption):wpAny M A (storeName X.env x u) Q E s :=
 OC I hN hi hx r (λs' I' _=>h s' I') hf
theorem Inv.call'(I:Inv X j4 σ H s)(ho:s'.os=s.os)(u:Un (frs X.stack) ch H H' s.heap s'.heap)(hok:HOk X.prog X.w H' s'.heap)(hg:AllBare s'.gens)
   (hch:∀b∈ch,(b∈X.ex∨X.s₀.heap.objs.size<=b)/\b≠X.env.locals/\(∀x c,X.env.cells.lookup x=some c->c≠b)/\∀p∈X.pn++j4,p.1≠b):Inv X j4 σ H' s':=by
 obtain⟨h',g',d',t',o'⟩:=s';have e:o'=s.os:=ho;subst e;exact I.call (g':=g') (t':=t') (d':=d') u hok hg hch
end
noncomputable abbrev XK:=Value->Option Addr->Hp->Prop
noncomputable abbrev St:=List (Option V)
noncomputable abbrev VK:=V->Hp->Prop
noncomputable abbrev TE:=St->Hp->VK->Prop
noncomputable abbrev TT:=St->Hp->(Bool->Hp->Prop)->Prop
noncomputable abbrev TA:=St->Hp->(List V->Hp->Prop)->Prop
structure EH where
 nx:St->Hp->Prop
 rt:VK
 bk:St->Hp->Prop:=λ_ _=>False
 ct:St->Hp->Prop:=λ_ _=>False
noncomputable abbrev TS:=EH->St->Hp->Prop
def EP(X:Cx)(j4:List (Addr×Obj))(σ:St)(Q:VK)(u:Value)(s':J7):Prop:= ∃v H',Inv X j4 σ H' s'/\aN v u/\Q v H'
def TP(X:Cx)(j4:List (Addr×Obj))(σ:St)(Q:Bool->Hp->Prop)(b:Bool)(s':J7):Prop:= ∃H',Inv X j4 σ H' s'/\Q b H'
def AP(X:Cx)(j4:List (Addr×Obj))(σ:St)(Q:List V->Hp->Prop)(us:List Value)(s':J7):Prop:= ∃vs H',Inv X j4 σ H' s'/\aI vs us/\Q vs H'
noncomputable def SP(X:Cx)(j4:List (Addr×Obj))(D:EH)(f:Flow)(s':J7):Prop :=
 match f with
 | .next=>∃σ' H',Inv X j4 σ' H' s'/\D.nx σ' H'
 | .brk=>∃σ' H',Inv X j4 σ' H' s'/\D.bk σ' H'
 | .cont=>∃σ' H',Inv X j4 σ' H' s'/\D.ct σ' H'
 | .ret u=>∃v σ' H',Inv X j4 σ' H' s'/\aN v u/\D.rt v H'
noncomputable def PE(X:Cx)(e:Expr)(t:TE):Prop :=
 ∀(j4:List (Addr×Obj)) (s:J7) (σ:St) (H:Hp) (Q:VK),Inv X j4 σ H s->t σ H Q->wpAny (model X.prog X.w) X.A (eval e X.env) (EP X j4 σ Q) X.xe s
noncomputable def PT(X:Cx)(e:Expr)(t:TT):Prop :=
 ∀(j4:List (Addr×Obj)) (s:J7) (σ:St) (H:Hp) (Q:Bool->Hp->Prop),Inv X j4 σ H s->t σ H Q->wpAny (model X.prog X.w) X.A (isTrue e X.env (eval e X.env)) (TP X j4 σ Q) X.xe s
noncomputable def PW(X:Cx)(e:Expr)(t:TT):Prop :=
 ∀(whole:Sem Value) (j4:List (Addr×Obj)) (s:J7) (σ:St) (H:Hp) (Q:Bool->Hp->Prop),Inv X j4 σ H s->t σ H Q->wpAny (model X.prog X.w) X.A (isTrue e X.env whole) (TP X j4 σ Q) X.xe s
theorem PW.pt(h:PW X e t):PT X e t:=h _
noncomputable def PA(X:Cx)(es:List Expr)(t:TA):Prop :=
 ∀(pos:Pos) (j4:List (Addr×Obj)) (s:J7) (σ:St) (H:Hp) (Q:List V->Hp->Prop),Inv X j4 σ H s->t σ H Q->wpAny (model X.prog X.w) X.A (spliced (backTo pos (starEach es X.env))) (AP X j4 σ Q) X.xe s
noncomputable def PS(X:Cx)(st:Stmt)(t:TS):Prop :=
 ∀(j4:List (Addr×Obj)) (s:J7) (σ:St) (H:Hp) (D:EH),Inv X j4 σ H s->t D σ H->wpAny (model X.prog X.w) X.A (exec st X.env) (SP X j4 D) X.xe s
noncomputable def PSs(X:Cx)(st:List Stmt)(t:TS):Prop :=
 ∀(j4:List (Addr×Obj)) (s:J7) (σ:St) (H:Hp) (D:EH),Inv X j4 σ H s->t D σ H->wpAny (model X.prog X.w) X.A (execs st X.env) (SP X j4 D) X.xe s
theorem thn{α:Type}{t:Sem α}{Q Q':α->J7->Prop}{M:Model}{A:Around}{E:Value->J7->Prop}{s:J7}(h:wpAny M A t Q E s)(hQ:∀a s,Q a s->Q' a s):wpAny M A t Q' E s:=wpAny_mono h hQ λ_ _ x=>x
section
variable{X:Cx}
theorem bin{a b:Expr}{ta tb:TE}(ha:PE X a ta)(hb:PE X b tb){j4:List (Addr×Obj)}{s:J7}{σ:St}{H:Hp}{R:V->V->Hp->Prop}(I:Inv X j4 σ H s)(h:ta σ H λx H1=>tb σ H1 λy H2=>R x y H2)
   {α:Type} {Q:α->J7->Prop} {f:Value->Value->Sem α}
   (hf:∀v u s2 x y H2,Inv X j4 σ H2 s2->aN x v->aN y u->R x y H2->wpAny (model X.prog X.w) X.A (f v u) Q X.xe s2) :
   wpAny (model X.prog X.w) X.A (eval a X.env) (λv s₁=>wpAny (model X.prog X.w) X.A (eval b X.env) (λu s₂=>wpAny (model X.prog X.w) X.A (f v u) Q X.xe s₂) X.xe s₁) X.xe s:=by
 refine thn (ha j4 s σ H _ I h) λv s1 zz=>?_;obtain⟨x,H1,I1,r1,q1⟩:=zz;refine thn (hb j4 s1 σ H1 _ I1 q1) λu s2 zz=>?_;obtain⟨y,H2,I2,r2,q2⟩:=zz;exact hf v u s2 x y H2 I2 r1 r2 q2
def aKt(i:Nat):TE:=λσ H Q=>∃v,σ[i]? =some (some v)/\Q v H
def tC(v:V):TE:=λ_ H Q=>Q v H
theorem YY(hN:X.N[i]? =some x)(hv:Vis X.env.scope x)(hd:(x==("__debug__":Str))=false:=by decide)(hcd:(x==("__classdict__":Str))=false:=by decide):PE X (.Name x pos) (aKt i):=by
 intro j4 s σ H Q I h;obtain⟨v,e,h⟩:=h;obtain⟨m,hn,hl⟩:=I.loc;obtain⟨u,r,l⟩:=hl i x v hN e hv;have fin:EP X j4 σ Q u s:=⟨v,H,I,r,h⟩;rcases l with ⟨hk,hm⟩|⟨hk,c,hc,hcell⟩
 . exact wpAny_Name (wpAny_loadName_local I.ok.kind hk hn hm fin) hd
 . rcases hk with hk|hk
   . exact wpAny_Name (wpAny_loadName_cell I.ok.kind hk hc hcell fin) hd
   . exact wpAny_Name (wpAny_loadName_free I.ok.kind hk hc hcell fin hcd) hd
theorem UJ:PE X (.Constant (.int i) j pos) (tC (.int i)):=λ_ _ _ H _ I h=>wpAny_Constant_int ⟨.int i,H,I.tok _,⟨_,rfl⟩,h⟩
theorem aIB:PE X (.Constant (.bool b) j pos) (tC (.bl b)):=λ_ _ _ H _ I h=>Constant_bool ⟨.bl b,H,I,rfl,h⟩
theorem aFW:PE X (.Constant .none j pos) (tC .non):=λ_ _ _ H _ I h=>Constant_none ⟨.non,H,I,rfl,h⟩
theorem aHu:PE X (.Constant (.str x) j pos) (tC (.str x)):=λ_ _ _ H _ I h=>Calls.Constant_str ⟨.str x,H,I.tok _,⟨_,rfl⟩,h⟩
def Gl(X:Cx)(x:Str):Prop:=X.env.kindOf x=some .globalImplicit
theorem jR{E:Value->J7->Prop}{s:J7}{σ:St}{x:Str}{Q:Value->J7->Prop}(I:Inv X j4 σ H s)(hg:Gl X x)(hm:X.mg x=some u)(h:Q u s)
   (hd:(x==("__debug__":Str))=false:=by decide):wpAny (model X.prog X.w) X.A (eval (.Name x pos) X.env) Q E s :=
 Calls.Name_function_global I.ok.kind hg (Calls.loadGlobal_global (by rw[I.ok.glob];exact I.mod.glob.keeps I.bk) hm h) hd
theorem nR{E:Value->J7->Prop}{j4:List (Addr×Obj)}{σ:St}{x:Str}{Q:Value->J7->Prop}(I:Inv X j4 σ H s)(hg:Gl X x)(hm:X.mg x=none)(hv:bootBuiltins x=some u)(h:Q u s)
   (hn:x≠"__name__":=by decide) (hd:(x==("__debug__":Str))=false:=by decide):wpAny (model X.prog X.w) X.A (eval (.Name x pos) X.env) Q E s:=by
 obtain⟨mb,h1,h2⟩:=I.mod.blt;exact Calls.Name_function_global I.ok.kind hg (Calls.loadGlobal_builtin (by rw[I.ok.glob];exact I.mod.glob.keeps I.bk) hm (by rw[I.ok.blt];exact h1.keeps I.bk) ((h2 x hn).trans hv) h) hd
theorem aA2(hg:Gl X x)(hm:X.mg x=some u)(r:aN v u)(hd:(x==("__debug__":Str))=false:=by decide):PE X (.Name x pos) (tC v) :=
 λ_ _ _ H _ I h=>jR I hg hm ⟨v,H,I,r,h⟩ hd
theorem aAQ(hg:Gl X x)(hm:X.mg x=none)(hv:bootBuiltins x=some u)(r:aN v u)(hn:x≠"__name__":=by decide)(hd:(x==("__debug__":Str))=false:=by decide):PE X (.Name x pos) (tC v) :=
 λ_ _ _ H _ I h=>nR I hg hm hv ⟨v,H,I,r,h⟩ hn hd
noncomputable def t2I(ta tb:TE)(k:Int->Int->Hp->Prop):St->Hp->Prop:=λσ H=>ta σ H λx H1=>tb σ H1 λy H2=>∃i j,x= .int i/\y= .int j/\k i j H2
def aH2(ta tb:TE):TE:=λσ H Q=>t2I ta tb (λi j H2=>Q (.int (i-j)) H2) σ H
variable{a b:Expr}{ta tb:TE}{pos:Pos}
def aIg(p:Int->Int->Bool)(ta tb:TE):TE:=λσ H Q=>t2I ta tb (λi j H2=>Q (.bl (p i j)) H2) σ H
def tB(t:TE):TT:=λσ H Q=>t σ H λx H1=>∃c,x= .bl c/\Q c H1
variable{tA tB':TT}{aY:List Expr}
def aHZ(t u:TT):TT:=λσ H Q=>t σ H λc H1=>if c=true then u σ H1 Q else Q false H1
def tOr(t u:TT):TT:=λσ H Q=>t σ H λc H1=>if c=true then Q true H1 else u σ H1 Q
def aLT(t:TT):TT:=λσ H Q=>t σ H λc H1=>Q (!c) H1
theorem aBP(ha:PT X a tA):PW X (.BoolOp .And [a] pos) tA:=by
 intro wh j4 s σ H Q I h;refine isTrue_and (thn (ha j4 s σ H Q I h) λc s1 e=>?_);cases c with
 | true=>exact isTrue_and_nil e
 | false=>exact e
theorem aEJ(ha:PT X a tA):PW X (.BoolOp .Or [a] pos) tA:=by
 intro wh j4 s σ H Q I h;refine isTrue_or (thn (ha j4 s σ H Q I h) λc s1 e=>?_);cases c with
 | false=>exact isTrue_or_nil e
 | true=>exact e
theorem aEi(ha:PT X a tA)(hb:PW X (.BoolOp .And (b::aY) pos) tB'):PW X (.BoolOp .And (a::b::aY) pos) (aHZ tA tB'):=by
 intro wh j4 s σ H Q I h;refine isTrue_and (thn (ha j4 s σ H _ I h) λc s1 zz=>?_);obtain⟨H1,I1,q1⟩:=zz;cases c with
 | true=>exact hb wh j4 s1 σ H1 Q I1 q1
 | false=>exact⟨H1,I1,q1⟩
theorem aIm(ha:PT X a tA)(hb:PW X (.BoolOp .Or (b::aY) pos) tB'):PW X (.BoolOp .Or (a::b::aY) pos) (tOr tA tB'):=by
 intro wh j4 s σ H Q I h;refine isTrue_or (thn (ha j4 s σ H _ I h) λc s1 zz=>?_);obtain⟨H1,I1,q1⟩:=zz;cases c with
 | true=>exact⟨H1,I1,q1⟩
 | false=>exact hb wh j4 s1 σ H1 Q I1 q1
theorem aFN(ha:PT X a tA):PT X (.UnaryOp .Not a pos) (aLT tA):=by
 intro j4 s σ H Q I h;exact isTrue_not (ha j4 s σ H (λc H1=>Q (!c) H1) I h)
theorem aEY(h:PE X a t):PE X (.BoolOp op [a] pos) t:=λj4 s σ H Q I hw=>BoolOp_one (h j4 s σ H Q I hw)
end
noncomputable def SqL(K:W.Frag)(H:Hp)(a:Addr)(xs:List V):Prop :=
 Rd H a (.lst xs)∨
   ∃(o:Obj) (its:Array Value) (n:Nat),K.lookup a=some o/\o.cls= .type "list"/\o.dict=none/\o.data= .seq its n/\its.size<=sizeLine/\aI xs its.toList
noncomputable def SqT(K:W.Frag)(H:Hp)(a:Addr)(xs:List V):Prop :=
 Rd H a (.tup xs)∨
   ∃(o:Obj) (its:Array Value) (n:Nat),K.lookup a=some o/\o.cls= .type "tuple"/\o.data= .seq its n/\its.size<=sizeLine/\aI xs its.toList/\o.dict=none
noncomputable def aMj:Value->Option V
 | .none=>some .non
 | .bool b=>some (.bl b)
 | .int i _=>some (.int i)
 | .str x _=>some (.str x)
 | .bytes b _=>some (.byt b)
 | .float b _=>some (.flt b)
 | .ref a=>some (.ref a)
 | .type n=>some (.ty n)
 | _=>none
theorem aN.abs(r:aN x u):aMj u=some x:=by
 cases x with
 | non=>cases r;rfl
 | bl _=>cases r;rfl
 | int _=>obtain⟨t,rfl⟩:=r;rfl
 | str _=>obtain⟨t,rfl⟩:=r;rfl
 | byt _=>obtain⟨t,rfl⟩:=r;rfl
 | flt _=>obtain⟨t,rfl⟩:=r;rfl
 | ref _=>cases r;rfl
 | ty _=>cases r;rfl
theorem aN.inj(r:aN x u)(q:aN y u):x=y:=Option.some.inj (r.abs.symm.trans q.abs)
theorem aI.inj:∀{xs ys:List V} {us:List Value},aI xs us->aI ys us->xs=ys
 | _,_,_,.nil,.nil=>rfl
 | _,_,_,.cons r t,.cons r' t'=>by rw[r.inj r',aI.inj t t']
section
variable{X:Cx}{j4:List (Addr×Obj)}{σ:St}{H:Hp}{s:J7}{a:Addr}{xs ys:List V}
theorem SqL.of{K:W.Frag}(h:H a=some (.lst xs)):SqL K H a xs:=.inl (.inl h)
theorem SqT.of{K:W.Frag}(h:H a=some (.tup xs)):SqT K H a xs:=.inl (.inl h)
theorem Inv.list(I:Inv X j4 σ H s)(h:SqL X.K H a xs):∃its:List Value,aI xs its/\PlainL s.heap a its.toArray/\xs.length<=sizeLine:=by
 rcases h with h|⟨o,its,n,hk,hc,hd,hs,hz,r⟩
 . obtain⟨z,its,n,r,e⟩:=h.ok I.hok;exact⟨its,r,⟨_,n,e,rfl,rfl,rfl⟩,z⟩
 . refine⟨its.toList,r,⟨o,n,I.kIn a o hk,hc,hd,by simpa using hs⟩,?_⟩;have e:=r.length;simp only[Array.length_toList] at e;omega
theorem Inv.tuple(I:Inv X j4 σ H s)(h:SqT X.K H a xs):∃its:List Value,aI xs its/\IsTup s.heap a its.toArray/\xs.length<=sizeLine:=by
 rcases h with h|⟨o,its,n,hk,hc,hs,hz,r,_⟩
 . obtain⟨z,its,r,p⟩:=h.ok I.hok;exact⟨its,r,p.1,z⟩
 . refine⟨its.toList,r,⟨o,I.kIn a o hk,hc,n,by simpa using hs⟩,?_⟩;have e:=r.length;simp only[Array.length_toList] at e;omega
theorem Inv.list_inj(I:Inv X j4 σ H s)(h:SqL X.K H a xs)(h':SqL X.K H a ys):xs=ys:=by
 obtain⟨its,r,⟨o,n,e,_,_,d⟩,_⟩:=I.list h;obtain⟨its',r',⟨o',n',e',_,_,d'⟩,_⟩:=I.list h';rw[e] at e';cases e';rw[d] at d';injection d' with d1 _;have:its=its':=by simpa using congrArg Array.toList d1
 subst this;exact r.inj r'
theorem Inv.tuple_inj(I:Inv X j4 σ H s)(h:SqT X.K H a xs)(h':SqT X.K H a ys):xs=ys:=by
 obtain⟨its,r,⟨o,e,_,n,d⟩,_⟩:=I.tuple h;obtain⟨its',r',⟨o',e',_,n',d'⟩,_⟩:=I.tuple h';rw[e] at e';cases e';rw[d] at d';injection d' with d1 _;have:its=its':=by simpa using congrArg Array.toList d1
 subst this;exact r.inj r'
end
noncomputable abbrev Cx.wish(X:Cx)(E:Value->J7->Prop):Cx:={X with xe:=E}
noncomputable abbrev Cx.nox(X:Cx):Cx:=X.wish λ_ _=>False
theorem Cx.Ok.wish{X:Cx}(ok:X.Ok)(E:Value->J7->Prop):(X.wish E).Ok :=
 ⟨ok.mod,ok.kind,ok.glob,ok.blt,ok.above,ok.inj,ok.has,ok.cab,ok.hd,ok.frames,ok.stk,ok.exf,ok.bs,ok.bsz,ok.noex,ok.exfs,ok.funs,ok.frf⟩
theorem Cx.Ok.unwish{X:Cx}(ok:(X.wish E).Ok):X.Ok :=
 ⟨ok.mod,ok.kind,ok.glob,ok.blt,ok.above,ok.inj,ok.has,ok.cab,ok.hd,ok.frames,ok.stk,ok.exf,ok.bs,ok.bsz,ok.noex,ok.exfs,ok.funs,ok.frf⟩
section
variable{X:Cx}{j4:List (Addr×Obj)}{σ:St}{H:Hp}{s:J7}{E:Value->J7->Prop}
theorem Inv.wish(I:Inv X j4 σ H s)(E:Value->J7->Prop):Inv (X.wish E) j4 σ H s:=⟨I.ok.wish E,I.os,I.bare,I.base,I.loc,I.cell,I.free,I.freeC,I.pin,I.hok,I.len⟩
theorem Inv.unwish(I:Inv (X.wish E) j4 σ H s):Inv X j4 σ H s:=⟨I.ok.unwish,I.os,I.bare,I.base,I.loc,I.cell,I.free,I.freeC,I.pin,I.hok,I.len⟩
theorem SP.unwish(h:SP (X.wish E) j4 D f s'):SP X j4 D f s':=by
 cases f with
 | next=>obtain⟨σ',H',I,q⟩:=h;exact⟨σ',H',I.unwish,q⟩
 | brk=>obtain⟨σ',H',I,q⟩:=h;exact⟨σ',H',I.unwish,q⟩
 | cont=>obtain⟨σ',H',I,q⟩:=h;exact⟨σ',H',I.unwish,q⟩
 | ret u=>obtain⟨v,σ',H',I,r,q⟩:=h;exact⟨v,σ',H',I.unwish,r,q⟩
theorem PSs.nox{st:List Stmt}{t:TS}(h:PSs X.nox st t):PSs X st t:=λj4 s σ H D I hw =>
 wpAny_mono (h j4 s σ H D (I.wish _) hw) (λ_ _ q=>q.unwish) λ_ _ z=>False.elim z
end
section
variable{X:Cx}{st:Stmt}{aY:List Stmt}{t u:TS}{e:Expr}{te:TE}{pos:Pos}
def ZS:TS:=λD σ H=>D.nx σ H
def aK1(t u:TS):TS:=λD σ H=>t {D with nx:=u D} σ H
theorem aB5:PSs X [] ZS:=λ_ _ σ H _ I h=>wpAny_execs_nil ⟨σ,H,I,h⟩
theorem UY(h1:PS X st t)(h2:PSs X aY u):PSs X (st::aY) (aK1 t u):=by
 intro j4 s σ H D I h;refine wpAny_execs_cons (thn (h1 j4 s σ H {D with nx:=u D} I h) λf s1 q=>?_);cases f with
 | next =>
   obtain⟨σ',H',I',q⟩:=q;exact h2 j4 s1 σ' H' D I' q
 | ret v=>exact q
 | brk=>exact q
 | cont=>exact q
theorem aAS(h1:PS X st t):PSs X [st] t:=by
 intro j4 s σ H D I h;refine wpAny_execs_cons (thn (h1 j4 s σ H D I h) λf s1 q=>?_);cases f with
 | next=>exact wpAny_execs_nil q
 | ret v=>exact q
 | brk=>exact q
 | cont=>exact q
theorem aBr:PS X (.Pass pos) ZS:=λ_ _ σ H _ I h=>wpAny_Pass ⟨σ,H,I,h⟩
theorem Inv.quiet{j4:List (Addr×Obj)}{σ:St}{H:Hp}{s:J7}(I:Inv X j4 σ H s):interactive X.env=false:=by simp[interactive,I.ok.kind]
theorem aET:PS X (.Expr (.Constant (.str x) j pos) pos') ZS:=λ_ s σ H _ I h=>wpAny_Expr (Calls.Constant_str (show SP X _ _ .next {s with toks:=s.toks+1} from⟨σ,H,I.tok _,h⟩)) I.quiet
def aH8(te:TE):TS:=λD σ H=>te σ H λ_ H1=>D.nx σ H1
theorem aBZ(he:PE X e te)(hs:swapsWith e none pos.line X.env=pure false:=by rfl):PS X (.Expr e pos) (aH8 te):=by
 intro j4 s σ H D I h;exact wpAny_Expr_any (thn (he j4 s σ H _ I h)<|by rintro v s1 ⟨x,H1,I1,r1,q1⟩;exact⟨σ,H1,I1,q1⟩) I.quiet hs
def aMx(te:TE):TS:=λD σ H=>te σ H D.rt
theorem aE5(he:PE X e te):PS X (.Return (some e) pos) (aMx te):=by
 intro j4 s σ H D I h;exact wpAny_Return_some (thn (he j4 s σ H _ I h)<|by rintro v s1 ⟨x,H1,I1,r1,q1⟩;exact⟨x,σ,H1,I1,r1,q1⟩)
def aIL:TS:=λD _ H=>D.rt .non H
theorem aBa:PS X (.Return none pos) aIL:=λ_ _ σ H _ I h=>wpAny_Return_none ⟨.non,σ,H,I,rfl,h⟩
def aLQ(c:TT)(t u:TS):TS:=λD σ H=>c σ H λb H1=>if b=true then t D σ H1 else u D σ H1
theorem aKr(hc:PT X c tc)(ha:PSs X a t)(hb:PSs X b u):PS X (.If c a b pos) (aLQ tc t u):=by
 intro j4 s σ H D I h;refine wpAny_If (thn (hc j4 s σ H _ I h) λd s1 zz=>?_);obtain⟨H1,I1,q1⟩:=zz;cases d with
 | true=>exact ha j4 s1 σ H1 D I1 q1
 | false=>exact hb j4 s1 σ H1 D I1 q1
def SZ:TS:=λ_ _ _=>False
theorem WJ:PS X st SZ:=λ_ _ _ _ _ _ h=>h.elim
theorem OP:PSs X sts SZ:=λ_ _ _ _ _ _ h=>h.elim
end
noncomputable abbrev TG:=V->St->Hp->(St->Hp->Prop)->Prop
noncomputable abbrev TGs:=List V->St->Hp->(St->Hp->Prop)->Prop
noncomputable def PG(X:Cx)(target:Expr)(t:TG):Prop :=
 ∀(j4:List (Addr×Obj)) (s:J7) (σ:St) (H:Hp) (v:V) (u:Value) (Q:St->Hp->Prop),Inv X j4 σ H s->aN v u->t v σ H Q->
   wpAny (model X.prog X.w) X.A (assign target X.env u) (λ_ s'=>∃σ' H',Inv X j4 σ' H' s'/\Q σ' H') X.xe s
noncomputable def PGs(X:Cx)(ts:List Expr)(t:TGs):Prop :=
 ∀(j4:List (Addr×Obj)) (s:J7) (σ:St) (H:Hp) (vs:List V) (us:List Value) (Q:St->Hp->Prop),Inv X j4 σ H s->aI vs us->t vs σ H Q->
   wpAny (model X.prog X.w) X.A (assignInOrder ((assignEach ts X.env).map (·.2)) us) (λ_ s'=>∃σ' H',Inv X j4 σ' H' s'/\Q σ' H') X.xe s
noncomputable abbrev aCk:=V->V->V->Hp->(Hp->Prop)->Prop
noncomputable def aGh(X:Cx)(t:aCk):Prop :=
 ∀(j4:List (Addr×Obj)) (s:J7) (σ:St) (H:Hp) (o i v:V) (ov iv u:Value) (Q:Hp->Prop),Inv X j4 σ H s->aN o ov->aN i iv->aN v u->t o i v H Q->
   wpAny (model X.prog X.w) X.A (setItem ov iv u) (λ_ s'=>∃H',Inv X j4 σ H' s'/\Q H') X.xe s
section
variable{X:Cx}{pos:Pos}
def RU(i:Nat):TG:=λv σ H Q=>Q (σ.set i (some v)) H
theorem KN(hN:X.N.Nodup)(hi:X.N[i]? =some x)(hx:Loc X.env.scope x)(hf:X.fn x=true∨X.env.scope.names.lookup x=some .local:=by first|exact .inl rfl|exact .inr rfl|assumption):PG X (.Name x pos) (RU i):=by
 intro j4 s σ H v u Q I r h;exact wpAny_assign_Name (vB I hN hi hx r (λs' I'=>⟨_,H,I',h⟩) hf)
noncomputable def aMw:TGs:=λvs σ H Q=>vs=[]/\Q σ H
noncomputable def aKc(t:TG)(u:TGs):TGs:=λvs σ H Q=>∃v r,vs=v::r/\t v σ H λσ' H'=>u r σ' H' Q
theorem aBc:PGs X [] aMw:=by
 intro j4 s σ H vs us Q I r h;obtain⟨e,h⟩:=h;subst e;cases r;exact assignInOrder_nil ⟨σ,H,I,h⟩
theorem VQ(h1:PG X e t)(h2:PGs X es u)
   (hs:(assignEach (e::es) X.env).map (·.2)=assign e X.env::(assignEach es X.env).map (·.2):=by rfl):PGs X (e::es) (aKc t u):=by
 intro j4 s σ H vs us Q I r h;obtain⟨v,vr,e1,h⟩:=h;subst e1;cases r with
 | cons r rr =>
   rw[hs];refine assignInOrder_cons (thn (h1 j4 s σ H _ _ _ I r h) λ_ s1 zz=>?_);obtain⟨σ1,H1,I1,q1⟩:=zz;exact h2 j4 s1 σ1 H1 _ _ Q I1 rr q1
def aLL(K:W.Frag)(n:Nat)(t:TGs):TG:=λv σ H Q=>∃a xs,v= .ref a/\SqT K H a xs/\xs.length=n/\t xs σ H Q
theorem aGJ(hc:X.calm=true)(h:PGs X es t)
   (hn:(assignEach es X.env).length=n:=by rfl) (hst:(assignEach es X.env).findIdx? (·.1)=none:=by rfl):PG X (.Tuple es k pos) (aLL X.K n t):=by
 intro j4 s σ H v u Q I r hw;obtain⟨a,xs,e1,hq,hl,hw⟩:=hw;subst e1;cases r;obtain⟨its,rv,ht,hz⟩:=I.tuple hq;refine assign_Tuple_tuple (I.ok.hd hc) ht (by simp[hn,<-hl,rv.length]) hst λh' hx=>?_;have I1:Inv X j4 σ H {s with heap:=h'}:=I.kept (t':=s.toks) λb o e=>hx b o (Nat.ne_of_lt (Heap.lt_size e)) e;exact h j4 _ σ H xs _ Q I1 (by simpa using rv) hw
def aLs(to ti:TE)(t:aCk):TG:=λv σ H Q=>to σ H λo H1=>ti σ H1 λi H2=>t o i v H2 λH3=>Q σ H3
theorem aHi(ho:PE X o to)(hi:PE X i ti)(hs:aGh X t)
   (ha:∀v,assign (.Subscript o i pos) X.env v=(do
     let ov <-holding [v] (eval o X.env)
     let iv <-holding [v,ov] (eval i X.env)
     standAt pos
     holding [v,ov,iv] (setItem ov iv v)
     release [v,ov,iv] []):=by intro _;rfl):PG X (.Subscript o i pos) (aLs to ti t):=by
 intro j4 s σ H v u Q I r h;rw[ha];refine wAq (wpAny_holding (thn (ho j4 s σ H _ I h) λov s1 zz=>?_));obtain⟨x,H1,I1,r1,q1⟩:=zz;refine wAq (wpAny_holding (thn (hi j4 s1 σ H1 _ I1 q1) λiv s2 zz=>?_));obtain⟨y,H2,I2,r2,q2⟩:=zz;refine wAq (wpAny_standAt (wAq (wpAny_holding (thn (hs j4 s2 σ H2 x y v ov iv u _ I2 r1 r2 r q2) λ_ s3 zz=>?_))));obtain⟨H3,I3,q3⟩:=zz;exact wpAny_release ⟨σ,H3,I3,q3⟩
def YW(te:TE)(g:TG):TS:=λD σ H=>te σ H λx H1=>g x σ H1 D.nx
theorem VT(he:PE X e te)(hg:PG X tg g)(hs:swapsWithSole [tg] e pos.line X.env=pure false:=by rfl)(hw:swappedStores [tg] e X.env=pure none:=by rfl)
   (h1:(assignEach [tg] X.env).map (·.2)=[assign tg X.env]:=by rfl):PS X (.Assign [tg] e pos) (YW te g):=by
 intro j4 s σ H D I h;refine wpAny_Assign_stores (thn (he j4 s σ H _ I h) λv s1 zz=>?_) hs hw;obtain⟨x,H1,I1,r1,q1⟩:=zz;rw[h1];exact thn (hg j4 s1 σ H1 x v _ I1 r1 q1) λ_ s2 q=>q
def aLe(i j:Nat)(ta:TA):TS:=λD σ H=>ta σ H λvs H1=>∃v w,vs=[v,w]/\D.nx ((σ.set i (some v)).set j (some w)) H1
theorem aF4(hc:X.calm=true)(hN:X.N.Nodup)(hi:X.N[i]? =some x)(hj:X.N[j]? =some y)(hij:i≠j)
   (hx:X.env.scope.names.lookup x=some .local) (hy:X.env.scope.names.lookup y=some .local) (ha:PA X [a,b] ta)
   (hw:swappedStores [.Tuple [.Name x px,.Name y py] kt pt] (.Tuple [a,b] k2 pt2) X.env=pure (some [x,y]))
   (hs:swapsWithSole [.Tuple [.Name x px,.Name y py] kt pt] (.Tuple [a,b] k2 pt2) pos.line X.env=pure false:=by rfl) :
   PS X (.Assign [.Tuple [.Name x px,.Name y py] kt pt] (.Tuple [a,b] k2 pt2) pos) (aLe i j ta):=by
 intro j4 s σ H D I h;rw[exec_Assign_arm];refine wAq (wpAny_standAt ?_);rw[hs];refine wAq (wBq ?_);rw[jb ddq];refine wAq (Tuple_ (thn (ha _ j4 s σ H _ I h) λus s1 zz=>?_));obtain⟨vs,H1,I1,r1,q1⟩:=zz;obtain⟨v,w,e1,q1⟩:=q1;subst e1;obtain⟨u1,u2,rfl,rv,rw'⟩:∃u1 u2,us=[u1,u2]/\aN v u1/\aN w u2:=by
   cases r1 with
   | cons p q =>
     cases q with
     | cons p' q' =>
       cases q';exact⟨_,_,rfl,p,p'⟩
 refine wpAny_newObj_type ?_ (by show 2<=sizeLine;decide);have I2:Inv X j4 σ H1 {s1 with heap:=s1.heap.push {cls:=.type "tuple",data:=.seq [u1,u2].toArray}}:=I1.kept (t':=s1.toks) λb o e=>wEq _ e;rw[hw];refine wAq (wBq ?_);show wpAny (model X.prog X.w) X.A (do rule "assign.swapped-stores";let items <-unpackItems (.ref s1.heap.objs.size) 2 none;assignInOrder [λv=>bindName X.env y v,λv=>bindName X.env x v] items.reverse;pure Flow.next) _ _ _;refine wAq (wpAny_rule (wAq (unpackItems_tuple (items:= #[u1,u2]) (I.ok.hd hc) (IsTup.new s1.heap _) λh' hx'=>?_)));have I3:=I2.kept (h':=h') (t':=s1.toks) λb o e=>hx' b o (Nat.ne_of_lt (Heap.lt_size e)) e;show wpAny _ _ (assignInOrder [λv=>bindName X.env y v,λv=>bindName X.env x v] [u2,u1]>>=λ_=>pure Flow.next) _ _ _;refine wAq (assignInOrder_cons (wpAny_bindName (vB I3 hN hj (.inl hy) rw' (λs2 I4=>?_) (.inr hy))));refine assignInOrder_cons (wpAny_bindName (vB I4 hN hi (.inl hx) rv (λs3 I5=>assignInOrder_nil (wBq ?_)) (.inr hx)));rw[List.set_comm _ _ (Ne.symm hij)] at I5;exact⟨_,H1,I5,q1⟩
end
section
variable{X:Cx}{pos:Pos}
def aG0(c:TT)(tb:TS):TS:=λD σ H=>∃W:Nat->St->Hp->Prop,(∃m,W m σ H)/\∀m σ H,W m σ H->
 c σ H λb H1=>if b=true then ∃N:St->Hp->Prop,(∀σ' H',N σ' H'->∃m',m'<m/\W m' σ' H')/\tb {D with nx:=N,ct:=N,bk:=D.nx} σ H1 else D.nx σ H1
theorem RZ(hp:PassesOwn (model X.prog X.w) X.A X.env X.xe)(hc:PT X c tc)(hb:PSs X body tb):PS X (.While c body [] pos) (aG0 tc tb):=by
 intro j4 s σ H D I h;obtain⟨W,⟨m0,w0⟩,turn⟩:=h;refine wpAny_While (codeAny_whileLoop (λn s'=>∃σ' H',Inv X j4 σ' H' s'/\W n σ' H') ?_ m0 ⟨σ,H,I,w0⟩);rintro n s1 ⟨σ1,H1,I1,w1⟩;refine wpAny_passesOwn hp (thn (hc j4 s1 σ1 H1 _ I1 (turn n σ1 H1 w1)) λb s2 zz=>?_);obtain⟨H2,I2,q2⟩:=zz;cases b with
 | true =>
   obtain⟨N,hN,q2⟩:=q2;rw[jd rfl];refine wpAny_passesOwn hp (thn (hb j4 s2 σ1 H2 _ I2 q2) λf s3 q3=>?_);cases f with
   | next =>
     obtain⟨σ3,H3,I3,n3⟩:=q3;obtain⟨m',hm,w3⟩:=hN σ3 H3 n3;exact⟨m',hm,σ3,H3,I3,w3⟩
   | cont =>
     obtain⟨σ3,H3,I3,n3⟩:=q3;obtain⟨m',hm,w3⟩:=hN σ3 H3 n3;exact⟨m',hm,σ3,H3,I3,w3⟩
   | brk=>exact q3
   | ret v=>exact q3
 | false =>
   rw[jb Bool.false_ne_true];exact wpAny_execs_nil ⟨σ1,H2,I2,q2⟩
end
structure It where
 go:Nat->Hp->Prop
 yld:Nat->Hp->V->Hp->Prop
 stop:Nat->Hp->Prop
noncomputable def xD(X:Cx)(j4:List (Addr×Obj))(H:Hp)(b:Addr):Prop :=
 H b=none/\b≠X.env.locals/\b∉X.fs/\(b∈X.ex∨X.s₀.heap.objs.size<=b)/\(∀x c,X.env.cells.lookup x=some c->c≠b)/\∀p∈X.pn++j4,p.1≠b
theorem Inv.fpOk{X:Cx}{j4:List (Addr×Obj)}{σ:St}{H H':Hp}{s:J7}{b:Addr}(I:Inv X j4 σ H s)(hb:s.heap.objs.size<=b)(hn:H' b=none):xD X j4 H' b:=by
 refine⟨hn,Nat.ne_of_gt (wFq I.lt hb),I.nofs hb,.inr (Nat.le_trans I.sz hb),λx c e z=>?_,λp hp z=>?_⟩
 . obtain⟨v,q⟩:=I.cell x c e;exact absurd (wFq q.lt (by rw[z];exact hb)) (Nat.lt_irrefl _)
 . exact absurd (wFq (Heap.lt_size (I.pin p hp).1) (by rw[z];exact hb)) (Nat.lt_irrefl _)
structure FT(P:J9)(w:World)(K:W.Frag)(tg:Expr)(J:It)(fp:List Addr)(it:Addr)(tn:Nat->Heap->Prop):Prop where
 mem:it∈fp
 obj:∀i h,tn i h->∀b∈fp,∃o,h.get? b=some o/\∀v,o.data≠.cell v
 keep:∀i h h',tn i h->(∀b∈fp,∀o,h.get? b=some o->h'.get? b=some o)->tn i h'
 item :∀(X:Cx),X.prog=P->X.w=w->X.K=K->X.calm=true->∀(i:Nat) (j4:List (Addr×Obj)) (s:J7) (σ:St) (H:Hp) (E:Value->J7->Prop),Inv X j4 σ H s->(∀b∈fp,xD X j4 H b)->tn i s.heap->J.go i H->
   wpAny (model P w) X.A (pyNext (.ref it)) (λr s1=>∃u,r=some u/\
     wpAny (model P w) X.A (letOwnedTupleGo tg (.ref it) u) (λ_ s2=>∃x H',Inv X j4 σ H' s2/\aN x u/\J.yld i H x H'/\tn (i+1) s2.heap/\∀b∈fp,H' b=none) E s1) E s
 done:∀(X:Cx),X.prog=P->X.w=w->X.K=K->X.calm=true->∀(i:Nat) (j4:List (Addr×Obj)) (s:J7) (σ:St) (H:Hp) (E:Value->J7->Prop),Inv X j4 σ H s->(∀b∈fp,xD X j4 H b)->tn i s.heap->J.stop i H->
   wpAny (model P w) X.A (pyNext (.ref it)) (λr s1=>r=none/\Inv X j4 σ H s1) E s
 self:∀(A:Around) (i:Nat) (s:J7) (Q:Value->J7->Prop) (E:Value->J7->Prop),tn i s.heap->Q (.ref it) s->wpAny (model P w) A (pyIter (.ref it)) Q E s
noncomputable abbrev TI:=St->Hp->(It->Hp->Prop)->Prop
noncomputable def PIE(X:Cx)(j4:List (Addr×Obj))(σ:St)(tg:Expr)(R:It->Hp->Prop)(itv:Value)(s2:J7):Prop :=
 ∃(it:Addr) (fp:List Addr) (tn:Nat->Heap->Prop) (J:It) (H':Hp),itv= .ref it/\Inv X j4 σ H' s2/\FT X.prog X.w X.K tg J fp it tn/\tn 0 s2.heap/\(∀b∈fp,xD X j4 H' b)/\R J H'
noncomputable def PI(X:Cx)(tg j5:Expr)(wi:TI):Prop :=
 ∀(j4:List (Addr×Obj)) (s:J7) (σ:St) (H:Hp) (R:It->Hp->Prop),Inv X j4 σ H s->wi σ H R->
   wpAny (model X.prog X.w) X.A (eval j5 X.env) (λv s1=>wpAny (model X.prog X.w) X.A (pyIter v) (PIE X j4 σ tg R) X.xe s1) X.xe s
theorem TF(ho:s.heap.get? it=some o)(hc:o.cls= .type n)(hd:o.data= .fields vs)
   (hn: ["enumerate","zip","dict_itemiterator","dict_reverseitemiterator","odict_iterator","itertools.zip_longest","itertools.pairwise"].contains n=false) (hQ:Q () s):wpAny M A (letOwnedTupleGo tg (.ref it) u) Q E s:=by
 unfold letOwnedTupleGo;cases tg<;>first
   | exact wBq hQ
   | (cases u<;>first
       | exact wBq hQ
       | (refine wAq (wpAny_load ho ?_)
          rw[hc,hd];show wpAny M A (if (["enumerate","zip","dict_itemiterator","dict_reverseitemiterator","odict_iterator","itertools.zip_longest","itertools.pairwise"].contains n&&vs[0]?==some (rawInt _))=true then _ else _) Q E s;rw[jb (by intro h;rw[hn,Bool.false_and] at h;cases h)];exact wBq hQ))
noncomputable def Itl(K:W.Frag)(a:Addr):It :=
 ⟨λi H=>∃xs x,SqL K H a xs/\xs[i]? =some x,λi H x H'=>H'=H/\∀xs,SqL K H a xs->xs[i]? =some x,λi H=>∃xs,SqL K H a xs/\xs.length<=i⟩
noncomputable def Itt(K:W.Frag)(a:Addr):It :=
 ⟨λi H=>∃xs x,SqT K H a xs/\xs[i]? =some x,λi H x H'=>H'=H/\∀xs,SqT K H a xs->xs[i]? =some x,λi H=>∃xs,SqT K H a xs/\xs.length<=i⟩
noncomputable def Itr(lo:Int)(n:Nat):It:=⟨λi _=>i<n,λi H x H'=>H'=H/\x= .int (lo+i),λi _=>n<=i⟩
theorem QE{P:J9}{K:W.Frag}(a it:Addr):FT P w K tg (Itl K a) [it] it (λi h=>h.IsListIter it a i) where
 mem:=by simp
 obj:=λi h st b hb=>by
   have e:b=it:=by simpa using hb
   subst e;obtain⟨o,e,c,d⟩:=st;exact⟨o,e,λv z=>by rw[d] at z;cases z⟩
 keep:=λi h h' st k=>st.at λo e=>k it (by simp) o e
 item:=by
   intro X hP hw hK hc i j4 s σ H E I hf st hg;subst hP hw hK;obtain⟨xs,x,hq,hx⟩:=hg;obtain⟨its,rv,p,hz⟩:=I.list hq;obtain⟨u,hu,ru⟩:=rv.get hx;obtain⟨f0,f1,f2,f3,f4,f5⟩:=hf it (by simp);refine wpAny_pyNext_list_item st p.isList (x:=u) (by simpa using hu) λh' st' sb=>?_;have I1:Inv X j4 σ H {s with heap:=h'}:=I.turned (t':=s.toks) (λb o hb e=>(sb.2 b hb).trans e) f0 f1 f3 f4 f5;obtain⟨o,e,c,d⟩:=id st';exact⟨u,rfl,TF (s:={s with heap:=h'}) e c d ddq ⟨x,H,I1,ru,⟨rfl,λys hy=>by rw[I.list_inj hy hq];exact hx⟩,st',λb hb=>(hf b hb).1⟩⟩
 done:=by
   intro X hP hw hK hc i j4 s σ H E I hf st hg;subst hP hw hK;obtain⟨xs,hq,hx⟩:=hg;obtain⟨its,rv,p,hz⟩:=I.list hq;obtain⟨f0,f1,f2,f3,f4,f5⟩:=hf it (by simp);have hl:=rv.length;exact wpAny_pyNext_list_end (I.ok.hd hc) st p.isList (by simp;omega) λh' eb=>⟨rfl,I.turned (t':=s.toks) (λb o hb e=>eb b o hb e) f0 f1 f3 f4 f5⟩
 self:=λ_ _ _ _ _ st h=>wpAny_pyIter_listiter st h
theorem HX{w:World}{K:W.Frag}(a it:Addr):FT P w K tg (Itt K a) [it] it (λi h=>h.IsTupleIter it a i) where
 mem:=by simp
 obj:=λi h st b hb=>by
   have e:b=it:=by simpa using hb
   subst e;obtain⟨o,e,c,d⟩:=st;exact⟨o,e,λv z=>by rw[d] at z;cases z⟩
 keep:=λi h h' st k=>st.at λo e=>k it (by simp) o e
 item:=by
   intro X hP hw hK hc i j4 s σ H E I hf st hg;subst hP hw hK;obtain⟨xs,x,hq,hx⟩:=hg;obtain⟨its,rv,p,hz⟩:=I.tuple hq;obtain⟨u,hu,ru⟩:=rv.get hx;obtain⟨f0,f1,f2,f3,f4,f5⟩:=hf it (by simp);refine wpAny_pyNext_tuple_item st (show s.heap.IsTuple a its.toArray from p) (x:=u) (by simpa using hu) λh' st' sb=>?_;have I1:Inv X j4 σ H {s with heap:=h'}:=I.turned (t':=s.toks) (λb o hb e=>(sb.2 b hb).trans e) f0 f1 f3 f4 f5;obtain⟨o,e,c,d⟩:=id st';exact⟨u,rfl,TF (s:={s with heap:=h'}) e c d ddq ⟨x,H,I1,ru,⟨rfl,λys hy=>by rw[I.tuple_inj hy hq];exact hx⟩,st',λb hb=>(hf b hb).1⟩⟩
 done:=by
   intro X hP hw hK hc i j4 s σ H E I hf st hg;subst hP hw hK;obtain⟨xs,hq,hx⟩:=hg;obtain⟨its,rv,p,hz⟩:=I.tuple hq;obtain⟨f0,f1,f2,f3,f4,f5⟩:=hf it (by simp);have hl:=rv.length;exact wpAny_pyNext_tuple_end (I.ok.hd hc) st (show s.heap.IsTuple a its.toArray from p) (by simp;omega) λh' eb=>⟨rfl,I.turned (t':=s.toks) (λb o hb e=>eb b o hb e) f0 f1 f3 f4 f5⟩
 self:=λ_ _ _ _ _ st h=>wpAny_pyIter_tupleiter st h
theorem JM{P:J9}{K:W.Frag}(it:Addr)(lo:Int)(n:Nat):FT P w K tg (Itr lo n) [it] it (λi h=>IsRangeIter h it (lo+(i:Nat)*1) ((n:Int)-(i:Nat)) 1) where
 mem:=by simp
 obj :=λi h st b hb=>by
   have e:b=it:=by simpa using hb
   subst e;exact⟨_,st,λv z=>by
     have z':Data.fields _=Data.cell v:=z;cases z'⟩
 keep:=λi h h' st k=>k it (by simp) _ st
 item:=by
   intro X hP hw hK hc i j4 s σ H E I hf st hg;subst hP hw hK;obtain⟨f0,f1,f2,f3,f4,f5⟩:=hf it (by simp);have W:=Walks.range (prog:=X.prog) (w:=X.w) (I.ok.hd hc) it lo 1 n;refine W.item i s _ _ hg st λv h' tk hv st' kk=>?_;obtain⟨t,rfl⟩:=hv;have I1:Inv X j4 σ H {s with heap:=h',toks:=tk}:=I.turned (λb o hb e=>kk b o (by simpa using hb) e) f0 f1 f3 f4 f5;refine⟨_,rfl,TF (s:={s with heap:=h',toks:=tk}) (n:="range_iterator") st' rfl rfl ddq ⟨.int (lo+i),H,I1,⟨t,?_⟩,⟨rfl,rfl⟩,st',λb hb=>(hf b hb).1⟩⟩;rw[Int.mul_one]
 done:=by
   intro X hP hw hK hc i j4 s σ H E I hf st hg;subst hP hw hK;obtain⟨f0,f1,f2,f3,f4,f5⟩:=hf it (by simp);exact wpAny_pyNext_range_end (I.ok.hd hc) st (by have:n<=i:=hg;omega) λh' eb=>⟨rfl,I.turned (t':=s.toks) (λb o hb e=>eb b o hb e) f0 f1 f3 f4 f5⟩
 self:=λ_ _ _ _ _ st h=>wpAny_pyIter_rangeiter st h
section
variable{X:Cx}{tg:Expr}
theorem EV{j4:List (Addr×Obj)}{σ:St}{H:Hp}{s:J7}{R:It->Hp->Prop}{E:Value->J7->Prop}{lo hi:Int}{t u v:Tok}{tk:Nat}(I:Inv X j4 σ H s)(h1: -(2^62)<=lo)(h2:lo<2^62)(h3: -(2^62)<=hi)(h4:hi<2^62)
   (q:R (Itr lo (hi-lo).toNat) H):wpAny (model X.prog X.w) X.A (pyIter (.ref s.heap.objs.size)) (PIE X j4 σ tg R) E {s with heap:=s.heap.push {cls:=.type "range",data:=.fields #[.int lo t,.int hi u,.int 1 v]},toks:=tk}:=by
 refine wpAny_pyIter_range (IsRange.new ..) (small_one h1 h2 h3 h4) ?_;have I1:Inv X j4 σ H {s with heap:=s.heap.push {cls:=.type "range",data:=.fields #[.int lo t,.int hi u,.int 1 v]},toks:=tk}:=I.kept λb o e=>wEq _ e;refine⟨(s.heap.push {cls:=.type "range",data:=.fields #[.int lo t,.int hi u,.int 1 v]}).objs.size,[(s.heap.push {cls:=.type "range",data:=.fields #[.int lo t,.int hi u,.int 1 v]}).objs.size],_,_,H,rfl,
   I1.kept (t':=tk) λb o e=>wEq _ e,JM _ lo (hi-lo).toNat,?_,λb hb=>?_,q⟩
 . have e1:lo+((0:Nat):Int)*1=lo:=by simp
   have e2:(((hi-lo).toNat:Nat):Int)-((0:Nat):Int)=Builtin.Range.rangeSize lo hi 1:=by rw[rangeSize_one];split<;>omega
   show IsRangeIter _ _ (lo+((0:Nat):Int)*1) ((((hi-lo).toNat:Nat):Int)-((0:Nat):Int)) 1;rw[e1,e2];exact wGq _ rfl
 . have e:b=(s.heap.push {cls:=.type "range",data:=.fields #[.int lo t,.int hi u,.int 1 v]}).objs.size:=by simpa using hb
   subst e;exact I1.fpOk (Nat.le_refl _) (I1.hok.fresh (Nat.le_refl _))
def aHT(ta:TA):TI:=λσ H R=>ta σ H λvs H1=>∃j:Int,vs=[.int j]/\-(2^62)<=j/\j<2^62/\R (Itr 0 j.toNat) H1
def aKD(ta:TA):TI:=λσ H R=>ta σ H λvs H1=>∃i j:Int,vs=[.int i,.int j]/\(-(2^62)<=i/\i<2^62/\-(2^62)<=j/\j<2^62)/\R (Itr i (j-i).toNat) H1
theorem PN(hg:Gl X "range")(hm:X.mg "range"=none)(ha:PA X [a] ta)(hs:starEach [a] X.env=[(false,eval a X.env)]:=by rfl):PI X tg (.Call (.Name "range" p) [a] [] pos) (aHT ta):=by
 intro j4 s σ H R I h;refine Call_ (nR I hg hm boot_range (PyProof.Rows.callWith_type1 (thn (ha pos j4 s σ H _ I h) λus s1 zz=>?_) hs rfl));obtain⟨vs,H1,I1,r1,q1⟩:=zz;obtain⟨j,e,q1,q2,q⟩:=q1;subst e;cases r1 with
 | cons r rr =>
   cases rr;obtain⟨t,rfl⟩:=r;exact call_range_1 (EV I1 ooq ooq q1 q2 (by simpa using q))
theorem NK(hg:Gl X "range")(hm:X.mg "range"=none)(ha:PA X [a,b] ta)(hs:starEach [a,b] X.env=[(false,eval a X.env),(false,eval b X.env)]:=by rfl)(hs2:starEach [b] X.env=[(false,eval b X.env)]:=by rfl) :
   PI X tg (.Call (.Name "range" p) [a,b] [] pos) (aKD ta):=by
 intro j4 s σ H R I h;refine Call_ (nR I hg hm boot_range (PyProof.Rows.callWith_type1 (thn (ha pos j4 s σ H _ I h) λus s1 ⟨vs,H1,I1,r1,q1⟩=>?_) (by rw[hs,hs2]) (by rw[hs2];rfl)));obtain⟨i,j,e,⟨q1,q2,q3,q4⟩,q⟩:=q1;subst e;cases r1 with
 | cons r rr =>
   cases rr with
   | cons r' rr =>
     cases rr;obtain⟨t,rfl⟩:=r;obtain⟨t',rfl⟩:=r';exact call_range_2 (EV I1 q1 q2 q3 q4 q)
def aLq(wi:TI)(g:TG)(tb:TS):TS:=λD σ H=>wi σ H λJ H1=>∃W:Nat->Nat->St->Hp->Prop,(∃m,W 0 m σ H1)/\∀i m σ H,W i m σ H->
 (J.stop i H/\D.nx σ H)∨(J.go i H/\∃N:St->Hp->Prop,(∀σ' H',N σ' H'->∃m',m'<m/\W (i+1) m' σ' H')/\∀x H',J.yld i H x H'->g x σ H' λσ2 H2=>tb {D with nx:=N,ct:=N,bk:=D.nx} σ2 H2)
noncomputable def uU(fp:List Addr)(h:Heap):List (Addr×Obj):=fp.filterMap λb=>(h.get? b).map λo=>(b,o)
theorem kB(hb:b∈fp)(e:h.get? b=some o):(b,o)∈uU fp h:=List.mem_filterMap.mpr ⟨b,hb,by rw[e];rfl⟩
theorem QI(hp:p∈uU fp h):p.1∈fp/\h.get? p.1=some p.2:=by
 obtain⟨b,hb,e⟩:=List.mem_filterMap.mp hp;cases q:h.get? b with
 | none=>rw[q] at e;cases e
 | some o =>
   rw[q] at e;have e':(b,o)=p:=Option.some.inj e;subst e';exact⟨hb,q⟩
theorem Inv.pinned{j4:List (Addr×Obj)}{σ:St}{H:Hp}{s:J7}{fp:List Addr}(I:Inv X j4 σ H s)(hf:∀b∈fp,xD X j4 H b)(ho:∀b∈fp,∃o,s.heap.get? b=some o/\∀v,o.data≠.cell v):Inv X (j4++uU fp s.heap) σ H s :=
 I.pins_of λp hp=>(List.mem_append.mp hp).elim (λz=>I.pin p (List.mem_append_right _ z)) λz=>by
   obtain⟨hb,e⟩:=QI z;obtain⟨f0,f1,f2,_⟩:=hf p.1 hb;obtain⟨o,e',d⟩:=ho p.1 hb;rw[e] at e';cases e';exact⟨e,f0,f1,f2,d⟩
theorem Inv.unpinned{σ:St}{H:Hp}(I:Inv X (j4++pl) σ H s):Inv X j4 σ H s:=I.pins_of λp hp=>I.pin p (List.mem_append_right _ (List.mem_append_left _ hp))
theorem aGu(hp:PassesOwn (model X.prog X.w) X.A X.env X.xe)(hc:X.calm=true)(hi:PI X tg j5 wi)(hg:PG X tg g)(hb:PSs X body tb)
   (hs:∀x,foldedSetIterable j5 X.env x=pure x:=by intro _;rfl):PS X (.For tg j5 body [] pos) (aLq wi g tb):=by
 intro j4 s σ H D I h;refine wpAny_For (thn (hi j4 s σ H _ I h) λv s1 h1=>thn h1 λitv s2 h2=>?_) hs;obtain⟨it,fp,tn,J,H2,e,I2,T,st2,f2,W,⟨m0,w0⟩,turn⟩:=h2;subst e;have stat:∀{H':Hp},(∀b∈fp,H' b=none)->∀b∈fp,xD X j4 H' b:=λhn b hb=>⟨hn b hb,(f2 b hb).2⟩;refine codeAny_forLoop_any (λn s'=>∃i σ' H',Inv X j4 σ' H' s'/\tn i s'.heap/\(∀b∈fp,H' b=none)/\W i n σ' H') ?_ m0 ⟨0,σ,H2,I2,st2,λb hb=>(f2 b hb).1,w0⟩;rintro n s3 ⟨i,σ3,H3,I3,st3,fr3,w3⟩;rcases turn i n σ3 H3 w3 with ⟨stop,qn⟩|⟨go,N,hN,step⟩
 . refine wpAny_passesOwn hp (thn (T.done X rfl rfl rfl hc i j4 s3 σ3 H3 X.xe I3 (stat fr3) st3 stop) λr s4 zz=>?_);obtain⟨hr,I4⟩:=zz;subst hr;exact wpAny_execs_nil ⟨σ3,H3,I4,qn⟩
 . refine wpAny_passesOwn hp (thn (T.item X rfl rfl rfl hc i j4 s3 σ3 H3 X.xe I3 (stat fr3) st3 go) λr s4 zz=>?_);obtain⟨u,hr,h4⟩:=zz;subst hr;refine wpAny_passesOwn hp (thn h4 λ_ s5 zz=>?_);obtain⟨x,H5,I5,r5,y5,st5,fr5⟩:=zz;have I5':=I5.pinned (stat fr5) (T.obj _ _ st5);refine wpAny_passesOwn hp (thn (hg _ s5 σ3 H5 x u _ I5' r5 (step x H5 y5)) λ_ s6 zz=>?_);obtain⟨σ6,H6,I6,q6⟩:=zz;refine wpAny_passesOwn hp (thn (hb _ s6 σ6 H6 _ I6 q6) λf s7 q7=>?_);have again:∀{σ7:St} {H7:Hp},Inv X (j4++uU fp s5.heap) σ7 H7 s7->N σ7 H7->∃m,m<n/\∃i σ' H',Inv X j4 σ' H' s7/\tn i s7.heap/\(∀b∈fp,H' b=none)/\W i m σ' H':=λ{σ7 H7} I7 n7=>by
     obtain⟨m',hm,w7⟩:=hN σ7 H7 n7;refine⟨m',hm,i+1,σ7,H7,I7.unpinned,T.keep _ _ _ st5 λb hb o e=>(I7.pin (b,o) (List.mem_append_right _ (List.mem_append_right _ (kB hb e)))).1,λb hb=>?_,w7⟩;obtain⟨o,e,d⟩:=T.obj _ _ st5 b hb;exact(I7.pin (b,o) (List.mem_append_right _ (List.mem_append_right _ (kB hb e)))).2.1
   cases f with
   | next=>obtain⟨σ7,H7,I7,n7⟩:=q7;exact again I7 n7
   | cont=>obtain⟨σ7,H7,I7,n7⟩:=q7;exact again I7 n7
   | brk=>obtain⟨σ7,H7,I7,q7⟩:=q7;exact⟨σ7,H7,I7.unpinned,q7⟩
   | ret v=>obtain⟨x7,σ7,H7,I7,r7,q7⟩:=q7;exact⟨x7,σ7,H7,I7.unpinned,r7,q7⟩
end
noncomputable abbrev R2:=V->V->Hp->VK->Prop
noncomputable def OpR(X:Cx)(f:Value->Value->Sem Value)(r:R2):Prop :=
 ∀(j4:List (Addr×Obj)) (s:J7) (σ:St) (H:Hp) (x y:V) (v u:Value) (Q:VK),Inv X j4 σ H s->aN x v->aN y u->r x y H Q->
   wpAny (model X.prog X.w) X.A (f v u) (EP X j4 σ Q) X.xe s
noncomputable def UnR(X:Cx)(f:Value->Sem Value)(r:V->Hp->VK->Prop):Prop :=
 ∀(j4:List (Addr×Obj)) (s:J7) (σ:St) (H:Hp) (x:V) (v:Value) (Q:VK),Inv X j4 σ H s->aN x v->r x H Q->
   wpAny (model X.prog X.w) X.A (f v) (EP X j4 σ Q) X.xe s
noncomputable def bC(X:Cx)(f:Value)(r:List V->Hp->VK->Prop):Prop :=
 ∀(j4:List (Addr×Obj)) (s:J7) (σ:St) (H:Hp) (xs:List V) (us:List Value) (Q:VK),Inv X j4 σ H s->aI xs us->r xs H Q->
   wpAny (model X.prog X.w) X.A (call f us) (EP X j4 σ Q) X.xe s
noncomputable def aL7(X:Cx)(r:V->Hp->(Bool->Hp->Prop)->Prop):Prop :=
 ∀(j4:List (Addr×Obj)) (s:J7) (σ:St) (H:Hp) (x:V) (v:Value) (Q:Bool->Hp->Prop),Inv X j4 σ H s->aN x v->r x H Q->
   wpAny (model X.prog X.w) X.A (truthy v) (TP X j4 σ Q) X.xe s
def tOp(r:R2)(ta tb:TE):TE:=λσ H Q=>ta σ H λx H1=>tb σ H1 λy H2=>r x y H2 Q
def tUn(r:V->Hp->VK->Prop)(ta:TE):TE:=λσ H Q=>ta σ H λx H1=>r x H1 Q
def rI(C:Int->Int->Prop)(g:Int->Int->V):R2:=λx y H Q=>∃i j,x= .int i/\y= .int j/\C i j/\Q (g i j) H
def rI0(g:Int->Int->V):R2:=λx y H Q=>∃i j,x= .int i/\y= .int j/\Q (g i j) H
noncomputable def rU(g:Int->V):V->Hp->VK->Prop:=λx H Q=>∃i,x= .int i/\Q (g i) H
section
variable{X:Cx}{a b c:Expr}{ta tb tc:TE}{pos:Pos}
theorem aGX(ha:PE X a ta)(hb:PE X b tb){s:J7}{σ:St}{R:V->V->Hp->Prop}(I:Inv X j4 σ H s)
   (h:ta σ H λx H1=>tb σ H1 λy H2=>R x y H2) {Q:Value->J7->Prop} {f:Value->Value->Sem Value}
   (hf:∀v u s2 x y H2,Inv X j4 σ H2 s2->aN x v->aN y u->R x y H2->wpAny (model X.prog X.w) X.A (f v u) Q X.xe s2) :
   wpAny (model X.prog X.w) X.A (eval a X.env) (λv s₁=>wpAny (model X.prog X.w) X.A (eval b X.env) (λu s₂=>wpAny (model X.prog X.w) X.A (f v u) Q X.xe s₂) X.xe s₁) X.xe s:=by
 refine thn (ha j4 s σ H _ I h) λv s1 zz=>?_;obtain⟨x,H1,I1,r1,q1⟩:=zz;refine thn (hb j4 s1 σ H1 _ I1 q1) λu s2 zz=>?_;obtain⟨y,H2,I2,r2,q2⟩:=zz;exact hf v u s2 x y H2 I2 r1 r2 q2
theorem aCV(ho:OpR X (binaryOp op) r)(ha:PE X a ta)(hb:PE X b tb):PE X (.BinOp a op b pos) (tOp r ta tb):=by
 intro j4 s σ H Q I h;exact wpAny_BinOp (aGX ha hb I h λv u s2 x y H2 I2 rx ry q=>ho j4 s2 σ H2 x y v u Q I2 rx ry q)
theorem aC8(ho:UnR X (unaryOp op) r)(ha:PE X a ta):PE X (.UnaryOp op a pos) (tUn r ta):=by
 intro j4 s σ H Q I h;exact UnaryOp_ (thn (ha j4 s σ H _ I h)<|by rintro v s1 ⟨x,H1,I1,r1,q1⟩;exact ho j4 s1 σ H1 x v Q I1 r1 q1)
theorem opI{f:Value->Value->Sem Value}{C:Int->Int->Prop}{g:Int->Int->Int}
   (rule:∀(i j:Int) (t u:Tok) (s:J7) (Q:Value->J7->Prop) (E:Value->J7->Prop),C i j->Q (.int (g i j) s.toks) {s with toks:=s.toks+1}->wpAny (model X.prog X.w) X.A (f (.int i t) (.int j u)) Q E s) :
   OpR X f (rI C λi j=>.int (g i j)):=by
 intro j4 s σ H x y v u Q I rx ry h;obtain⟨i,j,rfl,rfl,hc,q⟩:=h;obtain⟨t,rfl⟩:=rx;obtain⟨t',rfl⟩:=ry;exact rule i j t t' s _ _ hc ⟨.int (g i j),H,I.tok _,⟨_,rfl⟩,q⟩
theorem aIw{f:Value->Value->Sem Value}{g:Int->Int->Int}
   (rule:∀(i j:Int) (t u:Tok) (s:J7) (Q:Value->J7->Prop) (E:Value->J7->Prop),Q (.int (g i j) s.toks) {s with toks:=s.toks+1}->wpAny (model X.prog X.w) X.A (f (.int i t) (.int j u)) Q E s) :
   OpR X f (rI0 λi j=>.int (g i j)):=by
 intro j4 s σ H x y v u Q I rx ry h;obtain⟨i,j,rfl,rfl,q⟩:=h;obtain⟨t,rfl⟩:=rx;obtain⟨t',rfl⟩:=ry;exact rule i j t t' s _ _ ⟨.int (g i j),H,I.tok _,⟨_,rfl⟩,q⟩
theorem aAH{f:Value->Value->Sem Value}{g:Int->Int->Bool}
   (rule:∀(i j:Int) (t u:Tok) (s:J7) (Q:Value->J7->Prop) (E:Value->J7->Prop),Q (.bool (g i j)) s->wpAny (model X.prog X.w) X.A (f (.int i t) (.int j u)) Q E s) :
   OpR X f (rI0 λi j=>.bl (g i j)):=by
 intro j4 s σ H x y v u Q I rx ry h;obtain⟨i,j,rfl,rfl,q⟩:=h;obtain⟨t,rfl⟩:=rx;obtain⟨t',rfl⟩:=ry;exact rule i j t t' s _ _ ⟨.bl (g i j),H,I,rfl,q⟩
def NO(i j:Int):Prop:=0<=j/\j<=1000000/\i.natAbs<2^64
theorem aHy:OpR X (binaryOp .Add) (rI0 λi j=>.int (i+j)):=aIw λ_ _ _ _ _ _ _ q=>add_int q
theorem aGx:OpR X (binaryOp .Sub) (rI0 λi j=>.int (i-j)):=aIw λ_ _ _ _ _ _ _ q=>sub_int q
theorem aFI:OpR X (binaryOp .Mod) (rI (λ_ j=>0<j) λi j=>.int (i%j)):=opI λi j _ _ _ _ _ hc q=>by
 have h1:(0:Int)<j:=hc;exact mod_int' ooq (by rw[Int.fmod_eq_emod_of_nonneg i ooq];exact q)
theorem aFZ:OpR X (binaryOp .Pow) (rI NO λi j=>.int (i^j.toNat)):=opI λ_ _ _ _ _ _ _ hc q=>pow_int_small hc.1 hc.2.1 hc.2.2 q
theorem aHx:OpR X (binaryOp .LShift) (rI NO λi j=>.int (i*2^j.toNat)):=opI λ_ _ _ _ _ _ _ hc q=>lshift_int_small hc.1 hc.2.1 hc.2.2 q
theorem unI{f:Value->Sem Value}{g:Int->Int}
   (rule:∀(i:Int) (t:Tok) (s:J7) (Q:Value->J7->Prop) (E:Value->J7->Prop),Q (.int (g i) s.toks) {s with toks:=s.toks+1}->wpAny (model X.prog X.w) X.A (f (.int i t)) Q E s) :
   UnR X f (rU λi=>.int (g i)):=by
 intro j4 s σ H x v Q I rx h;obtain⟨i,rfl,q⟩:=h;obtain⟨t,rfl⟩:=rx;exact rule i t s _ _ ⟨.int (g i),H,I.tok _,⟨_,rfl⟩,q⟩
theorem XR:UnR X (unaryOp .USub) (rU λi=>.int (-i)):=unI λ_ _ _ _ _ q=>neg_int q
end
theorem dec_int:decide (V.int i=V.int j)=(i==j):=by
 rw[Bool.eq_iff_iff];simp
theorem dec_str:decide (V.str i=V.str j)=(i==j):=by
 rw[Bool.eq_iff_iff];simp
section
variable{X:Cx}{a b c:Expr}{ta tb tc:TE}{pos:Pos}
theorem VY{σ:St}{H:Hp}{Q:VK}(I:Inv X j4 σ H s)(q:Q (.bl k) H)(e:k=k'):EP X j4 σ Q (.bool k') s:=by
 subst e;exact⟨.bl k,H,I,rfl,q⟩
theorem aJ2:OpR X (compareOp .Lt) (rI0 λi j=>.bl (decide (i<j))):=aAH λ_ _ _ _ _ _ _ q=>lt_int q
theorem aJh:OpR X (compareOp .LtE) (rI0 λi j=>.bl (decide (i<=j))):=aAH λ_ _ _ _ _ _ _ q=>le_int q
theorem aIG:OpR X (compareOp .Gt) (rI0 λi j=>.bl (decide (j<i))):=aAH λ_ _ _ _ _ _ _ q=>gt_int q
theorem aIf:OpR X (compareOp .GtE) (rI0 λi j=>.bl (decide (j<=i))):=aAH λ_ _ _ _ _ _ _ q=>ge_int q
theorem aFl:OpR X (compareOp .Is) (λx y H Q=>y= .non/\Q (.bl (decide (x= .non))) H):=by
 intro j4 s σ H x y v u Q I rx ry h;obtain⟨rfl,q⟩:=h;cases ry;refine is_none_gen (VY I q ?_);cases x<;>first
   | (cases rx;rfl)
   | (obtain⟨t,rfl⟩:=rx;rfl)
theorem aAt:OpR X (compareOp .IsNot) (λx y H Q=>y= .non/\Q (.bl (!decide (x= .non))) H):=by
 intro j4 s σ H x y v u Q I rx ry h;obtain⟨rfl,q⟩:=h;cases ry;refine isnot_none_gen (VY I q ?_);cases x<;>first
   | (cases rx;rfl)
   | (obtain⟨t,rfl⟩:=rx;rfl)
theorem OpR.or(h:OpR X f r)(h':OpR X f r'):OpR X f (λx y H Q=>r x y H Q∨r' x y H Q):=by
 intro j4 s σ H x y v u Q I rx ry q;rcases q with q|q
 . exact h j4 s σ H x y v u Q I rx ry q
 . exact h' j4 s σ H x y v u Q I rx ry q
theorem uO(ho:OpR X (compareOp op) r)(ha:PE X a ta)(hb:PE X b tb)(hm:behindInMarks op b=false):PE X (.Compare a [op] [b] pos) (tOp r ta tb):=by
 intro j4 s σ H Q I h;exact wpAny_Compare1 (aGX ha hb I h λv u s2 x y H2 I2 rx ry q=>ho j4 s2 σ H2 x y v u Q I2 rx ry q) hm
def aDv(t:TE):TT:=λσ H Q=>t σ H λx H'=>∃k,x= .bl k/\Q k H'
theorem KU(ho:OpR X (compareOp op) r)(ha:PE X a ta)(hb:PE X b tb)(hm:behindInMarks op b=false):PT X (.Compare a [op] [b] pos) (aDv (tOp r ta tb)):=by
 intro j4 s σ H Q I h;refine wpAny_isTrue_Compare1 (thn (ha j4 s σ H _ I h) λv s1 ⟨x,H1,I1,r1,q1⟩=>thn (hb j4 s1 σ H1 _ I1 q1) λu s2 ⟨y,H2,I2,r2,q2⟩ =>
   thn (ho j4 s2 σ H2 x y v u _ I2 r1 r2 q2) λc s3 ⟨z,H3,I3,r3,k,e,q3⟩=>?_) hm
 subst e;cases r3;exact wpAny_truthy_bool ⟨H3,I3,q3⟩
def HZ(r r':R2)(ta tb tc:TE):TE:=λσ H Q=>ta σ H λx H1=>tb σ H1 λy H2=>r x y H2 λz H3=>∃k,z= .bl k/\
 (if k=true then tc σ H3 λw' H4=>r' y w' H4 Q else Q (.bl false) H3)
theorem UN(ho:OpR X (compareOp op) r)(ho':OpR X (compareOp op') r')(ha:PE X a ta)(hb:PE X b tb)(hc:PE X c tc)
   (hm:lastMarks [op,op'] [b,c]=false:=by with_unfolding_all rfl):PE X (.Compare a [op,op'] [b,c] pos) (HZ r r' ta tb tc):=by
 intro j4 s σ H Q I h;refine Compare_chain (thn (ha j4 s σ H _ I h) λv s1 ⟨x,H1,I1,r1,q1⟩=>chain_link (thn (hb j4 s1 σ H1 _ I1 q1) λu s2 ⟨y,H2,I2,r2,q2⟩ =>
   thn (ho j4 s2 σ H2 x y v u _ I2 r1 r2 q2) λd s3 ⟨z,H3,I3,r3,k,e,q3⟩=>?_)) hm
 subst e;cases r3;refine wpAny_truthy_bool ?_;cases k with
 | false=>exact ite_ff ⟨.bl false,H3,I3,rfl,q3⟩
 | true=>exact ite_tt (chain_last (thn (hc j4 s3 σ H3 _ I3 q3)<|by rintro w' s4 ⟨z',H4,I4,r4,q4⟩;exact ho' j4 s4 σ H4 y z' u w' Q I4 r2 r4 q4))
theorem SW(ho:OpR X (compareOp op) r)(ho':OpR X (compareOp op') r')(ha:PE X a ta)(hb:PE X b tb)(hc:PE X c tc)
   (hm:lastMarks [op,op'] [b,c]=false:=by with_unfolding_all rfl):PT X (.Compare a [op,op'] [b,c] pos) (aDv (HZ r r' ta tb tc)):=by
 intro j4 s σ H Q I h;refine isTrue_chain (thn (ha j4 s σ H _ I h) λv s1 ⟨x,H1,I1,r1,q1⟩=>test_link (thn (hb j4 s1 σ H1 _ I1 q1) λu s2 ⟨y,H2,I2,r2,q2⟩ =>
   thn (ho j4 s2 σ H2 x y v u _ I2 r1 r2 q2) λd s3 ⟨z,H3,I3,r3,k,e,q3⟩=>?_)) hm
 subst e;cases r3;refine wpAny_truthy_bool ?_;cases k with
 | false =>
   obtain⟨k',e',q'⟩:=q3;cases e';exact ite_ff ⟨H3,I3,q'⟩
 | true =>
   refine ite_tt (test_last (thn (hc j4 s3 σ H3 _ I3 q3) λw' s4 ⟨z',H4,I4,r4,q4⟩=>thn (ho' j4 s4 σ H4 y z' u w' _ I4 r2 r4 q4) λd' s5 zz=>?_));obtain⟨z2,H5,I5,r5,k2,e2,q5⟩:=zz;subst e2;cases r5;exact wpAny_truthy_bool ⟨H5,I5,q5⟩
noncomputable def QP(K:W.Frag)(x:V)(H:Hp)(k:Bool):Prop :=
 match x with
 | .non=>k=false
 | .bl b=>k=b
 | .int i=>k=(i !=0)
 | .str y=>y.length<=sizeLine/\k=((y.length:Int)!=0)
 | .byt y=>y.size<=sizeLine/\k=((y.size:Int)!=0)
 | .ref p=>(∃xs,SqL K H p xs/\k= !xs.isEmpty)∨(∃xs,SqT K H p xs/\k= !xs.isEmpty)∨∃kvs,H p=some (.dK kvs)/\k= !kvs.isEmpty
 | _=>False
theorem FW{κ:Type}{kvs:List (κ×V)}{vs:List (κ×Value)}(r:KV kvs vs):(!vs.isEmpty)= !kvs.isEmpty:=by
 cases r<;>rfl
theorem wN(r:aI xs its):(!its.toArray.isEmpty)= !xs.isEmpty:=by
 cases r<;>simp
theorem oI:(sizeLine:Nat)<2^63:=by rw[sizeLine_eq];decide
theorem wO:aL7 X (λx H Q=>∃k,QP X.K x H k/\Q k H):=by
 intro j4 s σ H x v Q I rx h;obtain⟨k,e,q⟩:=h;have hl:=oI;have hs:sizeLine=16777216:=sizeLine_eq;cases x with
 | non =>
   cases rx;have e':k=false:=e;subst e';exact truthy_none ⟨H,I,q⟩
 | bl b =>
   cases rx;have e':k=b:=e;subst e';exact wpAny_truthy_bool ⟨H,I,q⟩
 | int i =>
   obtain⟨t,rfl⟩:=rx;have e':k=(i !=0):=e;subst e';exact PySem.P.truthy_int ⟨H,I,q⟩
 | str y =>
   obtain⟨t,rfl⟩:=rx;obtain⟨hy,e'⟩:y.length<=sizeLine/\k=((y.length:Int)!=0):=e;subst e';exact PySem.P.truthy_str ooq ⟨H,I.tok _,q⟩
 | byt y =>
   obtain⟨t,rfl⟩:=rx;obtain⟨hy,e'⟩:y.size<=sizeLine/\k=((y.size:Int)!=0):=e;subst e';exact W.truthy_bytes ooq ⟨H,I.tok _,q⟩
 | ref p =>
   cases rx;have e':(∃xs,SqL X.K H p xs/\k= !xs.isEmpty)∨(∃xs,SqT X.K H p xs/\k= !xs.isEmpty)∨∃kvs,H p=some (.dK kvs)/\k= !kvs.isEmpty:=e;rcases e' with ⟨xs,hx,e'⟩|⟨xs,hx,e'⟩|⟨kvs,hx,e'⟩
   . subst e';obtain⟨its,r,pl,hz⟩:=I.list hx;have hlen:=r.length;exact wpAny_truthy_list pl.isList (by simp only[wIq];omega) ⟨H,I.tok _,by rw[wN r];exact q⟩
   . subst e';obtain⟨its,r,pl,hz⟩:=I.tuple hx;have hlen:=r.length;exact truthy_tuple pl (by simp only[wIq];omega) ⟨H,I.tok _,by rw[wN r];exact q⟩
   . subst e';obtain⟨hz,hS,vs,r,m⟩:kvs.length<=sizeLine/\(p==sysModules)=false/\∃vs,KV kvs vs/\s.heap.DictOf (dX X.prog X.w) p vs:=I.hok p _ hx;have hlen:kvs.length=vs.length:=Paired.length r;exact wpAny_truthy_dict hS m ooq ⟨H,I.tok _,by rw[FW r];exact q⟩
 | _=>exact(show False from e).elim
theorem ZF(ha:PE X a ta)(he:∀whole,isTrue a X.env whole=(do let v <-whole;standAt a.pos;holding [v] (truthy v))) :
   PT X a (λσ H Q=>ta σ H λx H'=>∃k,QP X.K x H' k/\Q k H'):=by
 intro j4 s σ H Q I h;exact isTrue_plain (thn (ha j4 s σ H _ I h)<|by rintro v s1 ⟨x,H1,I1,r1,q1⟩;exact wO j4 s1 σ H1 x v Q I1 r1 q1) (he _)
theorem IG:OpR X (binaryOp .Add) (λx y H Q=>∃i j,x= .str i/\y= .str j/\i.length+j.length<=sizeLine/\Q (.str (i++j)) H):=by
 intro j4 s σ H x y v u Q I rx ry h;obtain⟨i,j,rfl,rfl,hz,q⟩:=h;obtain⟨t,rfl⟩:=rx;obtain⟨t',rfl⟩:=ry;exact add_str (λt' tk=>⟨.str (i++j),H,I.tok _,⟨_,rfl⟩,q⟩) hz
theorem fS(r:aI [x] us):∃u,us=[u]/\aN x u:=by
 cases r with
 | cons r1 r2=>cases r2;exact⟨_,rfl,r1⟩
theorem KE(r:aI [x,y] us):∃u w',us=[u,w']/\aN x u/\aN y w':=by
 cases r with
 | cons r1 r2 =>
   cases r2 with
   | cons r3 r4=>cases r4;exact⟨_,_,rfl,r1,r3⟩
theorem ZZ:bC X (.builtin "abs") (λxs H Q=>∃i,xs=[.int i]/\Q (.int (if i<0 then -i else i)) H):=by
 intro j4 s σ H xs us Q I r h;obtain⟨i,rfl,q⟩:=h;obtain⟨u,rfl,t,rfl⟩:=fS r;exact call_abs_int λu tk=>⟨.int (if i<0 then -i else i),H,I.tok _,⟨_,rfl⟩,q⟩
theorem OK(hc:X.calm=true):bC X (.builtin "max") (λxs H Q=>∃i j,xs=[.int i,.int j]/\Q (.int (if j>i then j else i)) H):=by
 intro j4 s σ H xs us Q I r h;obtain⟨i,j,rfl,q⟩:=h;obtain⟨u,w',rfl,⟨t,rfl⟩,⟨t',rfl⟩⟩:=KE r;refine max_two_ints (I.ok.hd hc) λh' tk k=>⟨_,H,I.kept k,?_,q⟩;by_cases hj:j>i
 . rw[jd hj,jd hj];exact⟨_,rfl⟩
 . rw[jb hj,jb hj];exact⟨_,rfl⟩
theorem NF(hc:X.calm=true):bC X (.builtin "min") (λxs H Q=>∃i j,xs=[.int i,.int j]/\Q (.int (if j<i then j else i)) H):=by
 intro j4 s σ H xs us Q I r h;obtain⟨i,j,rfl,q⟩:=h;obtain⟨u,w',rfl,⟨t,rfl⟩,⟨t',rfl⟩⟩:=KE r;refine min_two_ints (I.ok.hd hc) λh' tk k=>⟨_,H,I.kept k,?_,q⟩;by_cases hj:j<i
 . rw[jd hj,jd hj];exact⟨_,rfl⟩
 . rw[jb hj,jb hj];exact⟨_,rfl⟩
theorem NA:bC X (.type "int") (λxs H Q=>(∃i,xs=[.int i]/\Q (.int i) H)∨∃k,xs=[.bl k]/\Q (.int (if k then 1 else 0)) H):=by
 intro j4 s σ H xs us Q I r h;rcases h with ⟨i,rfl,q⟩|⟨k,rfl,q⟩
 . obtain⟨u,rfl,t,rfl⟩:=fS r;exact call_int_int ⟨.int i,H,I,⟨_,rfl⟩,q⟩
 . obtain⟨u,rfl,r1⟩:=fS r;cases r1;exact call_int_bool ⟨.int (if k then 1 else 0),H,I.tok _,⟨_,rfl⟩,q⟩
theorem AE:bC X (.type "str") (λxs H Q=>∃i,xs=[.int i]/\i.natAbs.log2<1920/\Q (.str (toString i)) H):=by
 intro j4 s σ H xs us Q I r h;obtain⟨i,rfl,hz,q⟩:=h;obtain⟨u,rfl,t,rfl⟩:=fS r;exact PySem.P.str_of_int hz ⟨.str _,H,I.tok _,⟨_,rfl⟩,q⟩
end
structure GP(h:Heap)(x dx C:Addr)(mA:Str->Option Value):Prop where
 obj:h.get? x=some (W.instObj C dx)
 ns:h.Ns1 dx mA
 ne:dx≠x
theorem NW{h:Heap}(n:h.Ns1 dx mA):∃od,h.get? dx=some od/\∀name,W.lookIn name od=some (mA name):=by
 obtain⟨o,es,ep,ho,hd,hk,_,hm⟩:=n;refine⟨o,ho,λname=>?_⟩;have e:=hm name;unfold nsFind findBy at e;rw[<-Array.find?_toList] at e;unfold W.lookIn;rw[hd];dsimp only;split
 . rename_i y q;rw[q] at e;exact congrArg some e
 . rename_i q;rw[q] at e;have a:es.toList.any (·.refKey)=false:=by
     rw[List.any_eq_false];intro y hy;obtain⟨z,t,hkey⟩:=hk y (Array.mem_toList_iff.mp hy);simp[DictEntry.refKey,hkey]
   have a':¬es.toList.any (·.refKey)=true:=by rw[a];exact Bool.false_ne_true
   rw[jb a'];exact congrArg some e
theorem GP.look(I:GP h x dx C mA):∃od,W.InstAt h x (W.instObj C dx) C (some od)/\∀name,W.lookIn name od=some (mA name) :=
 let ⟨od,ho,hl⟩:=NW I.ns
 ⟨od,⟨I.obj,rfl,rfl,ho⟩,hl⟩
section
variable{prog:J9}{w:World}{A:Around}{E:Value->J7->Prop}{s:J7}{K:W.Frag}{x dx C f:Addr}{mA:Str->Option Value}{name:Str}{v:Value}
theorem aAs(X:K.In s.heap)(I:GP s.heap x dx C mA)(hg:W.plainGet K C name=true)(hh:W.hasDictIn K C=true)
   (ha:W.findIn K (.ref C) name=some none) (hv:mA name=some v) (hv':W.handedIn v=true) (h:Q v {s with toks:=s.toks+1}) :
   wpAny (model prog w) A (getAttr (.ref x) name expr) Q E s:=by
 obtain⟨od,J,hl⟩:=I.look;exact W.get_value X J (W.plainGet_of hg).1 (W.findObj_own hh ha rfl (by rw[hl,hv])) hv' h
theorem UE(X:K.In s.heap)(I:GP s.heap x dx C mA)(hg:W.plainGet K C name=true)
   (hf:W.findIn K (.ref C) name=some (some (.ref f))) (ht:W.isFn K (.ref f)=true) (hv:mA name=none) (h:Q (.ref f,[.ref x]) s) :
   wpAny (model prog w) A (getMethod (.ref x) name pl) Q E s:=by
 obtain⟨od,J,hl⟩:=I.look;exact W.method_fn X J (W.plainGet_of hg).1 (W.plainGet_of hg).2 hf (beq_iff_eq.mp ht) (by show(W.lookIn name od).map (·.isSome)=some false;rw[hl,hv];rfl) h
theorem aBz(X:K.In s.heap)(I:GP s.heap x dx C mA)
   (hs:W.findIn K (.ref C) "__setattr__"=some (some (.builtin "object.__setattr__"))) (hp:W.plainOver K C=true) (ht:W.takerIn K C name=some none) (hh:W.hasDictIn K C=true)
   (hw:PySem.Within mA ns) (hsz:ns.length<=sizeLine)
   (h:∀h',GP h' x dx C (λy=>if y=name then some v else mA y)->Heap.SameBut dx s.heap h'->Q () {s with heap:=h',toks:=s.toks+2}) :
   wpAny (model prog w) A (setAttr (.ref x) name v) Q E s:=by
 obtain⟨od,J,hl⟩:=I.look;refine W.set_plain X J hs (W.osa_open (s:={s with toks:=s.toks+1}) (r:=none) X J hp ht λb=>?_);obtain⟨cd,hc,hd'⟩:=W.any_some hh;have hx:s.heap.get? x=some ⟨.ref C,some dx,.plain,#[]⟩:=I.obj;refine wAq (wBq (wAq (wAq (wpAny_loadPart hx (wAq (W.Looks.here (s:={s with toks:=s.toks+1}) (W.looks_clsIn X hc) ?_))))));rw[hd'];refine wBq (a:=some dx) (wAq (wBq (wAq ?_)));refine wpAny_nsSet1 (s:={s with toks:=s.toks+1}) I.ns λh' hn2 hs2=>?_;obtain⟨oD,esD,epD,hoD,hdD,hcD⟩:=hn2.count (PySem.Within.cons name v hw);refine wAq (wpAny_lookBehind hoD (by rw[hdD];exact pastItsLine_dict (Nat.le_trans hcD (by rw[List.length_cons];omega))) ?_);exact wBq (h _ ⟨(hs2.2 _ (Ne.symm I.ne)).trans I.obj,hn2,I.ne⟩ hs2)
theorem vF(X:K.In s.heap)(hm:W.makesIn K C=true)
   (hi:W.findIn K (.ref C) "__init__"=some (some (.ref f))) (hf:W.typeIn K (.ref f)=some (.type "function"))
   (h :codeAny (model prog w) (A.under (.builtin "type.__call__" ⟨.ref C::vs,kw⟩)) (.call (.ref f) ⟨.ref (s.heap.objs.size+1)::vs,kw⟩) (W.InitBack (s.heap.objs.size+1) R)
     {s with heap:=(s.heap.push W.emptyDict).push (W.instObj C s.heap.objs.size)}) :
   codeAny (model prog w) A (.call (.ref C) ⟨vs,kw⟩) R s:=by
 obtain⟨hh,g,d,t,os⟩:=s;exact W.make_core (W.makes_of X hm) (W.looks_findIn X hi) (λself=>W.bind_fn X self hf) (.inl rfl) h
end
noncomputable def kO(f:Str)(v:V):List (Str×V)->List (Str×V)
 | []=>[(f,v)]
 | (g,x)::r=>if g=f then(g,v)::r else(g,x)::kO f v r
theorem sS(f g:Str)(v:V):∀fs:List (Str×V),(kO f v fs).lookup g=if g=f then some v else fs.lookup g
 | [] =>by
   show List.lookup g [(f,v)]=_;by_cases h:g=f
   . have hb:(g==f)=true:=beq_iff_eq.mpr h;simp only[List.lookup,hb,jd h]
   . have hb:(g==f)=false:=beq_eq_false_iff_ne.mpr h;simp only[List.lookup,hb,jb h]
 | (k,x)::r=>by
   have ih:=sS f g v r;rw[show kO f v ((k,x)::r)=(if k=f then(k,v)::r else(k,x)::kO f v r) from rfl];by_cases hk:k=f
   . rw[jd hk];by_cases h:g=k
     . have hb:(g==k)=true:=beq_iff_eq.mpr h;simp only[List.lookup,hb,jd (h.trans hk)]
     . have hb:(g==k)=false:=beq_eq_false_iff_ne.mpr h;simp only[List.lookup,hb,jb (λe:g=f=>h (e.trans hk.symm))]
   . rw[jb hk];by_cases h:g=k
     . have hb:(g==k)=true:=beq_iff_eq.mpr h;simp only[List.lookup,hb,jb (λe:g=f=>hk (h.symm.trans e))]
     . have hb:(g==k)=false:=beq_eq_false_iff_ne.mpr h;simp only[List.lookup,hb];exact ih
theorem sK(f:Str)(v:V):∀fs:List (Str×V),f∈(kO f v fs).map (·.1)/\∀g,g∈fs.map (·.1)->g∈(kO f v fs).map (·.1)
 | []=>⟨by simp[kO],λg h=>by simp at h⟩
 | (k,x)::r=>by
   obtain⟨i1,i2⟩:=sK f v r;rw[show kO f v ((k,x)::r)=(if k=f then(k,v)::r else(k,x)::kO f v r) from rfl];by_cases hk:k=f
   . rw[jd hk];subst hk;exact⟨by simp,λg h=>by simpa using h⟩
   . rw[jb hk];refine⟨?_,λg h=>?_⟩
     . rw[List.map_cons];exact wCq _ i1
     . rw[List.map_cons] at h ⊢;rcases List.mem_cons.mp h with e|e
       . exact List.mem_cons.mpr (.inl e)
       . exact wCq _ (i2 g e)
theorem sT(f:Str)(v:V):∀fs:List (Str×V),(kO f v fs).length<=fs.length+1
 | []=>by simp[kO]
 | (k,x)::r=>by
   have ih:=sT f v r;rw[show kO f v ((k,x)::r)=(if k=f then(k,v)::r else(k,x)::kO f v r) from rfl];by_cases hk:k=f
   . rw[jd hk,List.length_cons,List.length_cons];omega
   . rw[jb hk,List.length_cons,List.length_cons];omega
theorem oO.some_of(r:oO (some v) o):∃u,o=some u/\aN v u:=by
 cases o with
 | none=>exact(show False from r).elim
 | some u=>exact⟨u,rfl,r⟩
theorem oO.none_of(r:oO none o):o=none:=by
 cases o with
 | none=>rfl
 | some u=>exact(show False from r).elim
theorem OF(r:aN v u):W.handedIn u=true:=by
 cases v with
 | non=>cases(show u=Value.none from r);rfl
 | bl b=>cases(show u=Value.bool b from r);rfl
 | int i=>obtain⟨t,e⟩:=(show ∃t,u=Value.int i t from r);cases e;rfl
 | str x=>obtain⟨t,e⟩:=(show ∃t,u=Value.str x t from r);cases e;rfl
 | byt b=>obtain⟨t,e⟩:=(show ∃t,u=Value.bytes b t from r);cases e;rfl
 | flt b=>obtain⟨t,e⟩:=(show ∃t,u=Value.float b t from r);cases e;rfl
 | ref a=>cases(show u=Value.ref a from r);rfl
 | ty n=>cases(show u=Value.type n from r);rfl
section
variable{P:J9}{w:World}{H H':Hp}{h h':Heap}{a C dx:Addr}{fs fs':List (Str×V)}
theorem pB(hok:HOk P w H h)(e:H a=some (.ins C dx fs)):∃mA,GP h a dx C mA/\(∀f,oO (fs.lookup f) (mA f))/\PySem.Within mA (fs.map (·.1))/\fs.length<=1000/\H dx=some (.own a):=by
 obtain⟨d,z,ne,ob,mA,n,r,q⟩:=(show cC P w H h a (.ins C dx fs) from hok a _ e);exact⟨mA,⟨ob,n,ne⟩,r,q,z,d⟩
end
structure Cls(K:W.Frag)(C:Addr):Prop where
 pg:W.plainGet K C Str.empty=true
 hd:W.hasDictIn K C=true
 po:W.plainOver K C=true
 sa:W.findIn K (.ref C) "__setattr__"=some (some (.builtin "object.__setattr__"))
theorem Cls.get{K:W.Frag}{C:Addr}(c:Cls K C)(f:Str):W.plainGet K C f=true:=c.pg
def eS(K:W.Frag)(C:Addr)(f:Str):Prop:=W.findIn K (.ref C) f=some none
theorem eS.taker{K:W.Frag}{C:Addr}{f:Str}(n:eS K C f):W.takerIn K C f=some none:=by
 unfold W.takerIn;rw[show W.findIn K (.ref C) f=some none from n];rfl
structure Con(K:W.Frag)(C:Addr)(f:Str)(v:V)(u:Value):Prop where
 at_:W.findIn K (.ref C) f=some (some u)
 rel:aN v u
 get:W.specialIn K u "__get__"=some none
 cp:W.copiedNames.contains f=false
structure cR(K:W.Frag)(C:Addr)(m:Str)(f:Addr):Prop where
 at_:W.findIn K (.ref C) m=some (some (.ref f))
 fn:W.isFn K (.ref f)=true
 kp:W.keepIn K (.ref f)=true
section
variable{X:Cx}{j4:List (Addr×Obj)}{σ:St}{H:Hp}{s:J7}{a C dx:Addr}{fs:List (Str×V)}{f:Str}{v:V}{A:Around}{E:Value->J7->Prop}
theorem GT(I:Inv X j4 σ H s)(e:H a=some (.ins C dx fs))(c:Cls X.K C)(n:eS X.K C f)(l:fs.lookup f=some v)
   (h:∀u s',Inv X j4 σ H s'->aN v u->Q u s'):wpAny (model X.prog X.w) A (getAttr (.ref a) f b) Q E s:=by
 obtain⟨mA,O,r,_,_,_⟩:=pB I.hok e;obtain⟨u,hu,ru⟩:=oO.some_of (v:=v) (o:=mA f) (by rw[<-l];exact r f);exact aAs I.kIn O (c.get f) c.hd n hu (OF ru) (h u _ (I.tok _) ru)
theorem nS(I:Inv X j4 σ H s)(e:H a=some (.ins C dx fs))(c:Cls X.K C)(k:cR X.K C m g)(l:fs.lookup m=none)
   (h:Q (.ref g,[.ref a]) s):wpAny (model X.prog X.w) A (getMethod (.ref a) m pl) Q E s:=by
 obtain⟨mA,O,r,_,_,_⟩:=pB I.hok e;have hn:mA m=none:=oO.none_of (by rw[<-l];exact r m);exact UE I.kIn O (c.get m) k.at_ k.fn hn h
theorem HY(I:Inv X j4 σ H s)(e:H a=some (.ins C dx fs))(c:Cls X.K C)(n:eS X.K C f)(hl:fs.length<1000)(ry:aN y u)
   (h:∀s',Inv X j4 σ (upd H a (.ins C dx (kO f y fs))) s'->Q () s'):wpAny (model X.prog X.w) A (setAttr (.ref a) f u) Q E s:=by
 obtain⟨mA,O,r,wi,_,ho⟩:=pB I.hok e;have hz:(fs.map (·.1)).length<=sizeLine:=by rw[List.length_map,sizeLine_eq];omega
 refine aBz I.kIn O c.sa c.po n.taker c.hd wi hz λh' O' sb=>h _ ?_;have hd:∃o,h'.get? dx=some o:=let ⟨o,_,_,e',_⟩:=O'.ns;⟨o,e'⟩
 refine I.write (x:=a) (e:=dx) (by rw[e];exact True.intro) (.inr ho) (λb q hb z=>(sb.2 b hb).trans z) hd ?_;refine⟨by rw[aG O.ne];exact ho,?_,O.ne,O'.obj,_,O'.ns,λg=>?_,λg hg=>?_⟩
 . have:=sT f y fs;omega
 . show oO ((kO f y fs).lookup g) (if g=f then some u else mA g);rw[sS];by_cases q:g=f
   . rw[jd q,jd q];exact ry
   . rw[jb q,jb q];exact r g
 . by_cases q:g=f
   . rw[q];exact(sK f y fs).1
   . refine(sK f y fs).2 g (wi g λz=>hg ?_);show(if g=f then some u else mA g)=none;rw[jb q];exact z
theorem Inv.made(I:Inv X j4 σ H s):Inv X j4 σ (upd (upd H s.heap.objs.size (.own (s.heap.objs.size+1))) (s.heap.objs.size+1) (.ins C s.heap.objs.size []))
   {s with heap:=(s.heap.push W.emptyDict).push (W.instObj C s.heap.objs.size)}:=by
 have e1:(s.heap.push W.emptyDict).get? s.heap.objs.size=some W.emptyDict:=wGq s.heap rfl;have e2:((s.heap.push W.emptyDict).push (W.instObj C s.heap.objs.size)).get? (s.heap.objs.size+1)=some (W.instObj C s.heap.objs.size):=by
   have:=wGq (s.heap.push W.emptyDict) (o:=W.instObj C s.heap.objs.size) rfl
   rwa [Heap.size_push] at this
 have e3:(s.heap.push W.emptyDict).Ns s.heap.objs.size (λ_=>none):=⟨W.emptyDict,#[],_,e1,rfl,(λe he=>absurd he (by simp)),λ_=>rfl⟩;have I1:=I.laid (a:=s.heap.objs.size) (o:=.own (s.heap.objs.size+1)) (h':=s.heap.push W.emptyDict) (t':=s.toks) (λb u q=>wEq _ q) (Nat.le_refl _) ⟨_,e1⟩;refine I1.laid (a:=s.heap.objs.size+1) (o:=.ins C s.heap.objs.size []) (t':=s.toks) (λb u q=>wEq _ q) (Nat.le_of_eq (Heap.size_push _ _)) ?_;have ne:s.heap.objs.size≠s.heap.objs.size+1:=Nat.ne_of_lt (Nat.lt_succ_self _);refine⟨by rw[aG ne,aS],Nat.zero_le _,ne,e2,λ_=>none,(Heap.Ns1.of_empty e3).at λo q=>wEq _ q,λ_=>True.intro,λy hy=>absurd rfl hy⟩
theorem aCw(hb:attributeBase e f env (eval e env)=eval e env)
   (h:wpAny (model prog w) A (eval e env) (λo s₁=>wpAny (model prog w) A (getAttr o f true) Q E s₁) E s):wpAny (model prog w) A (eval (.Attribute e f pos) env) Q E s :=
 Attribute_any_ h (by rw[arm_eval_Attribute,hb])
end
def aMK(K:W.Frag)(ta:TE)(f:Str):TE:=λσ H Q=>ta σ H λx H1=>∃a C dx fs v,x= .ref a/\H1 a=some (.ins C dx fs)/\Cls K C/\eS K C f/\fs.lookup f=some v/\Q v H1
def aJx(K:W.Frag)(ta:TE)(f:Str):TE:=λσ H Q=>ta σ H λx H1=>∃a C dx fs v u,x= .ref a/\H1 a=some (.ins C dx fs)/\Cls K C/\Con K C f v u/\fs.lookup f=none/\Q v H1
def aMA(K:W.Frag)(ta tv:TE)(f:Str):TS:=λD σ H=>tv σ H λy H1=>ta σ H1 λx H2=>∃a C dx fs,x= .ref a/\H2 a=some (.ins C dx fs)/\Cls K C/\eS K C f/\fs.length<1000/\
 D.nx σ (upd H2 a (.ins C dx (kO f y fs)))
section
variable{X:Cx}{o e value:Expr}{f:Str}{pos pos' tpos:Pos}{ta tv:TE}
theorem aFE(he:PE X e ta)(hb:attributeBase e f X.env (eval e X.env)=eval e X.env):PE X (.Attribute e f pos) (aMK X.K ta f):=by
 intro j4 s σ H Q I h;refine aCw hb (thn (he j4 s σ H _ I h) λu s1 zz=>?_);obtain⟨x,H1,I1,rx,a,C,dx,fs,v,ex,ea,c,n,l,q⟩:=zz;subst ex;obtain rfl:u=Value.ref a:=rx;exact GT I1 ea c n l λu' s2 I2 ru=>⟨v,H1,I2,ru,q⟩
theorem aHv(ha:PE X o ta)(hv:PE X value tv)(hs:swapsWith value (some (.Attribute o f pos')) pos.line X.env=pure false):PS X (.Assign [.Attribute o f pos'] value pos) (aMA X.K ta tv f):=by
 intro j4 s σ H D I h;refine plainObj_wpAny_Assign_Attribute (thn (hv j4 s σ H _ I h) λu s1 ⟨y,H1,I1,ry,q⟩=>thn (ha j4 s1 σ H1 _ I1 q) λov s2 zz=>?_) hs;obtain⟨x,H2,I2,rx,a,C,dx,fs,ex,ea,c,n,l,q2⟩:=zz;subst ex;obtain rfl:ov=Value.ref a:=rx;exact HY I2 ea c n l ry λs3 I3=>⟨σ,_,I3,q2⟩
end
section
variable{X:Cx}{j4:List (Addr×Obj)}{σ:St}{H:Hp}{s:J7}{A:Around}{E:Value->J7->Prop}{Q:Value->J7->Prop}{c:Value}{b:Bool}
inductive sL(K:W.Frag)(H:Hp):V->Value->Prop where
 | non:sL K H .non (.type "NoneType")
 | bl (x:Bool):sL K H (.bl x) (.type "bool")
 | int (i:Int):sL K H (.int i) (.type "int")
 | str (x:Str):sL K H (.str x) (.type "str")
 | flt (x:UInt64):sL K H (.flt x) (.type "float")
 | lst {a:Addr} {xs:List V} (e:H a=some (.lst xs)):sL K H (.ref a) (.type "list")
 | frz {a:Addr} {o:Obj} {xs:List V} (e:H a=some (.frz o (.lst xs))):sL K H (.ref a) (.type "list")
 | tup {a:Addr} {xs:List V} (e:H a=some (.tup xs)):sL K H (.ref a) (.type "tuple")
 | dK {a:Addr} {kvs:List (Key×V)} (e:H a=some (.dK kvs)):sL K H (.ref a) (.type "dict")
 | dT {a:Addr} {kvs:List (List Key×V)} (e:H a=some (.dT kvs)):sL K H (.ref a) (.type "dict")
 | ins {a C dx:Addr} {fs:List (Str×V)} (e:H a=some (.ins C dx fs)) (cl:Cls K C) (ha:W.findIn K (.ref C) "__class__"=some (some (.builtin "object.__class__")))
     (hn:W.specialIn K (.builtin "object.__class__") "__get__"=some (some (.builtin "getset_descriptor.__get__"))) (htk:W.takesIn K (.builtin "object.__class__")=some true)
     (hm:W.mroIn K C (.type "object")=some true):sL K H (.ref a) (.ref C)
theorem xV(I:Inv X j4 σ H s)(rx:aN x u)(ty:sL X.K H x t)(e:W.kitOne X.K t c=some b)(h:∀tk,Q (.bool b) {s with toks:=tk}) :
   wpAny (model X.prog X.w) A (call (.builtin "isinstance") [u,c]) Q E s:=by
 cases ty with
 | non=>cases(show u=Value.none from rx);exact W.kia_one W.kitx_none I.kIn True.intro e (λz=>nomatch z) h
 | bl y=>cases(show u=Value.bool y from rx);exact W.kia_one W.kitx_bool I.kIn True.intro e (λz=>nomatch z) h
 | int i=>obtain⟨t,q⟩:=(show ∃t,u=Value.int i t from rx);cases q;exact W.kia_one W.kitx_int I.kIn True.intro e (λz=>nomatch z) h
 | str y=>obtain⟨t,q⟩:=(show ∃t,u=Value.str y t from rx);cases q;exact W.kia_one W.kitx_str I.kIn True.intro e (λz=>nomatch z) h
 | flt y=>obtain⟨t,q⟩:=(show ∃t,u=Value.float y t from rx);cases q;exact W.kia_one W.kitx_float I.kIn True.intro e (λz=>nomatch z) h
 | @lst a xs ea =>
   cases(show u=Value.ref a from rx);obtain⟨_,_,n,_,h1⟩:=(show cC X.prog X.w H s.heap a (.lst xs) from I.hok a _ ea);exact W.kia_one W.kitx_list I.kIn ⟨_,h1,rfl⟩ e (λz=>nomatch z) h
 | @frz a ob xs ea =>
   cases(show u=Value.ref a from rx);obtain⟨_,_,_,n,_,h1⟩:=(show cC X.prog X.w H s.heap a (.frz ob (.lst xs)) from I.hok a _ ea);exact W.kia_one W.kitx_list I.kIn ⟨_,h1,rfl⟩ e (λz=>nomatch z) h
 | @tup a xs ea =>
   cases(show u=Value.ref a from rx);obtain⟨_,_,_,p⟩:=(show cC X.prog X.w H s.heap a (.tup xs) from I.hok a _ ea);obtain⟨o,h1,h2,_⟩:=p.1;exact W.kia_one W.kitx_tuple I.kIn ⟨o,h1,h2⟩ e (λz=>nomatch z) h
 | @dK a kvs ea =>
   cases(show u=Value.ref a from rx);obtain⟨_,_,vs,_,p⟩:=(show cC X.prog X.w H s.heap a (.dK kvs) from I.hok a _ ea);obtain⟨o,es,ep,h1,h2,_⟩:=p;exact W.kia_one W.kitx_dict I.kIn ⟨o,h1,h2.1⟩ e (λz=>nomatch z) h
 | @dT a kvs ea =>
   cases(show u=Value.ref a from rx);obtain⟨_,_,xs,_,o,es,ep,h1,h2,_⟩:=(show cC X.prog X.w H s.heap a (.dT kvs) from I.hok a _ ea);exact W.kia_one W.kitx_dict I.kIn ⟨o,h1,h2.1⟩ e (λz=>nomatch z) h
 | @ins a C dx fs ea cl ha hn htk hm =>
   cases(show u=Value.ref a from rx);obtain⟨mA,O,_⟩:=pB I.hok ea;obtain⟨od,J,_⟩:=O.look;exact W.kia_one (W.kitx_own (cl.get _) cl.hd ha hn htk hm) I.kIn J e (λz=>nomatch z) h
end
structure aR(k:Nat)(A:Around):Prop where
 hd:40<=k->A.handled=none
 dp:A.depth+3*k+5<recursionLimit
 un:A.units+16*k+200<cLine
 gd:80<=k->A.guards=some []
theorem aR.mono{j k:Nat}{A:Around}(r:aR k A)(h:j<=k):aR j A:=⟨λz=>r.hd (Nat.le_trans z h),by have:=r.dp;omega,by have:=r.un;omega,λz=>r.gd (Nat.le_trans z h)⟩
theorem aR.deeper(r:aR (k+1) A)(env:Env):aR k (A.deeper env) :=
 ⟨λz=>r.hd (Nat.le_succ_of_le z),by have:=r.dp;show A.depth+1+3*k+5<_;omega,by have:=r.un;show A.units+3+16*k+200<_;omega,λz=>r.gd (Nat.le_succ_of_le z)⟩
theorem aR.in1{k:Nat}{A:Around}(r:aR (k+1) A):aR k A.in1 :=
 ⟨λz=>r.hd (Nat.le_succ_of_le z),by have:=r.dp;show A.depth+3*k+5<_;omega,by have:=r.un;show A.units+1+16*k+200<_;omega,λz=>r.gd (Nat.le_succ_of_le z)⟩
theorem GG{A:Around}:(A.under (.builtin "type.__call__" ⟨.ref C::us,kw⟩)).depth=A.depth+1:=by
 first|rfl|simp[Around.under,Code.weight,Code.isCreation,Code.isGuard,Code.isCaller,Code.frames,Code.isFrame,guardIds]
theorem GM{A:Around}:(A.under (.builtin "type.__call__" ⟨.ref C::us,kw⟩)).units=A.units+1:=by
 first|rfl|simp[Around.under,Code.cUnits,Code.frames,Code.isFrame]
theorem aR.make{k:Nat}{A:Around}(r:aR (k+1) A)(C:Addr)(us:List Value)(kw:List (Str×Value)):aR k (A.under (.builtin "type.__call__" ⟨.ref C::us,kw⟩)) :=
 ⟨λz=>r.hd (Nat.le_succ_of_le z),by have:=r.dp;rw[GG];omega,by have:=r.un;rw[GM];omega,λz=>by
   have e:=r.gd (Nat.le_succ_of_le z);first|exact e|(simp only[Around.under,Code.isGuard,guardIds];simpa using e)⟩
theorem aR.depth(r:aR k A):A.depth<recursionLimit:=by have:=r.dp;omega
theorem aR.units(r:aR k A):A.units+64<cLine:=by have:=r.un;omega
theorem aR.units0(r:aR k A):A.units<cLine:=by have:=r.un;omega
def aIu:TA:=λ_ H Q=>Q [] H
def aDo(ta:TE)(tr:TA):TA:=λσ H Q=>ta σ H λx H1=>tr σ H1 λxs H2=>Q (x::xs) H2
section
variable{X:Cx}{e:Expr}{es:List Expr}{te:TE}{t:TA}{pos:Pos}
theorem lS:PA X [] aIu:=λ_ _ _ _ H Q I h=>Calls.spliced_nil ⟨[],H,I,.nil,h⟩
theorem fF(ha:PE X e te)(hr:PA X es t)(hs:starEach (e::es) X.env=(false,eval e X.env)::starEach es X.env:=by rfl):PA X (e::es) (aDo te t):=by
 intro pos j4 s σ H Q I h;rw[hs];show wpAny _ _ (spliced ((false,eval e X.env)::backTo pos (starEach es X.env))) _ _ s;refine Calls.spliced_cons (thn (ha j4 s σ H _ I h) λu s1 zz=>?_);obtain⟨x,H1,I1,r1,q1⟩:=zz;exact thn (hr pos j4 s1 σ H1 _ I1 q1)<|by rintro us s2 ⟨xs,H2,I2,r2,q2⟩;exact⟨x::xs,H2,I2,.cons r1 r2,q2⟩
def aMH(t:TA):TE:=λσ H Q=>t σ H λxs H1=>xs.length<=sizeLine/\∀p,H1 p=none->Q (.ref p) (upd H1 p (.tup xs))
def aHM(t:TA):TE:=λσ H Q=>t σ H λxs H1=>xs.length<=sizeLine/\∀p,H1 p=none->Q (.ref p) (upd H1 p (.lst xs))
theorem aGZ(h:PA X es t):PE X (.Tuple es x1 pos) (aMH t):=by
 intro j4 s σ H Q I hq;refine wpAny_Tuple_spliced (thn (h pos j4 s σ H _ I hq) λus s1 ⟨xs,H1,I1,r,z,q⟩=>⟨by rw[<-r.length];exact z,?_⟩);have hf:H1 s1.heap.objs.size=none:=I1.hok.fresh (Nat.le_refl _);refine⟨.ref s1.heap.objs.size,upd H1 s1.heap.objs.size (.tup xs),I1.laid (t':=s1.toks) (λb u e=>wEq _ e) (Nat.le_refl _) ?_,rfl,q _ hf⟩;exact⟨z,us,r,fP.new _ _⟩
theorem aHw(h:PA X es t):PE X (.List es pos) (aHM t):=by
 intro j4 s σ H Q I hq;refine wpAny_List_spliced (thn (h pos j4 s σ H _ I hq) λus s1 ⟨xs,H1,I1,r,z,q⟩=>⟨by rw[<-r.length];exact z,?_⟩);have hf:H1 s1.heap.objs.size=none:=I1.hok.fresh (Nat.le_refl _);refine⟨.ref s1.heap.objs.size,upd H1 s1.heap.objs.size (.lst xs),I1.laid (t':=s1.toks) (λb u e=>wEq _ e) (Nat.le_refl _) ?_,rfl,q _ hf⟩;exact⟨z,us,0,r,wGq _ rfl⟩
end
noncomputable abbrev Sp:=List V->Hp->VK->XK->Prop
noncomputable abbrev CXT:=List Env->Hp->J7->XK->Value->J7->Prop
structure rW(P:J9)(w:World)(K:W.Frag)(mg:Str->Option Value)(base:Heap)(A:Around)(outer:List Env)(s:J7)(H:Hp):Prop where
 frames:A.frames=some outer
 mod:Mod K mg base
 bs:∀b o,base.get? b=some o->s.heap.get? b=some o/\H b=none
 bsz:base.objs.size<=s.heap.objs.size
 funs:s.heap.FunFrames base outer
 frf:∀b∈frs outer,H b=none
 hok:HOk P w H s.heap
 bare:AllBare s.gens
noncomputable def CE(outer:List Env)(P:J9)(w:World)(H:Hp)(s:J7)(Q:VK)(u:Value)(s':J7):Prop :=
 ∃v H',s'.os=s.os/\AllBare s'.gens/\Un (frs outer) [] H H' s.heap s'.heap/\HOk P w H' s'.heap/\aN v u/\Q v H'
noncomputable def CR(CX:CXT)(outer:List Env)(P:J9)(w:World)(H:Hp)(s:J7)(Q:VK)(E:XK)(r:Result)(s':J7):Prop :=
 match r with
 | .ok (.ret u)=>CE outer P w H s Q u s'
 | .ok _=>False
 | .error e=>CX outer H s E e s'
structure aW(P:J9)(w:World)(K:W.Frag)(mg:Str->Option Value)(base:Heap)(CX:CXT)(k:Nat)(f:Addr)(fd:Ja)(ps:List Str)(sp:Sp):Prop where
 len:∀vs H Q E,sp vs H Q E->vs.length=ps.length
 run:∀(A:Around) (outer:List Env) (s:J7) (H:Hp) (args:Args) (us:List Value) (vs:List V) (Q:VK) (E:XK),aR k A->rW P w K mg base A outer s H->BindsTo s fd args (ps.zip us)->aI vs us->sp vs H Q E->
   codeAny (model P w) A (.call (.ref f) args) (CR CX outer P w H s Q E) s
theorem aW.mono{P:J9}{w:World}{K:W.Frag}{mg:Str->Option Value}{base:Heap}{CX:CXT}{j k:Nat}{f:Addr}{fd:Ja}{ps:List Str}{sp:Sp}(F:aW P w K mg base CX j f fd ps sp)(h:j<=k) :
   aW P w K mg base CX k f fd ps sp:=⟨F.len,λA outer s H args us vs Q E hr=>F.run A outer s H args us vs Q E (hr.mono h)⟩
theorem aW.imp{K:W.Frag}{mg:Str->Option Value}{base:Heap}{k:Nat}{ps:List Str}{sp sp':Sp}(F:aW P w K mg base CX k f fd ps sp)
   (h:∀vs H Q E,sp' vs H Q E->sp vs H Q E):aW P w K mg base CX k f fd ps sp' :=
 ⟨λvs H Q E q=>F.len vs H Q E (h _ _ _ _ q),λA outer s H args us vs Q E hr he hb hv hs=>F.run A outer s H args us vs Q E hr he hb hv (h _ _ _ _ hs)⟩
theorem rW.make{P:J9}{w:World}{K:W.Frag}{mg:Str->Option Value}{base:Heap}{A:Around}{outer:List Env}{s:J7}{H:Hp}(e:rW P w K mg base A outer s H)(C:Addr)(us:List Value)(kw:List (Str×Value)) :
   rW P w K mg base (A.under (.builtin "type.__call__" ⟨.ref C::us,kw⟩)) outer s H:=⟨by first|exact e.frames|(simpa [Around.under,Code.envs,Code.isFrame,pushEnvs] using e.frames),e.mod,e.bs,e.bsz,e.funs,e.frf,e.hok,e.bare⟩
theorem rW.in1{P:J9}{w:World}{K:W.Frag}{mg:Str->Option Value}{base:Heap}{A:Around}{outer:List Env}{s:J7}{H:Hp}(e:rW P w K mg base A outer s H) :
   rW P w K mg base A.in1 outer s H:=⟨e.frames,e.mod,e.bs,e.bsz,e.funs,e.frf,e.hok,e.bare⟩
section
variable{X:Cx}{j4:List (Addr×Obj)}{σ:St}{H:Hp}{s s':J7}
theorem Inv.env0(I:Inv X j4 σ H s):rW X.prog X.w X.K X.mg X.base X.A X.stack s H :=
 ⟨I.ok.frames,I.ok.mod,I.bs,Nat.le_trans I.ok.bsz I.sz,I.stack,I.stkFree,I.hok,I.bare⟩
theorem Inv.after(I:Inv X j4 σ H s)(h:CE X.stack X.prog X.w H s Q u s'):EP X j4 σ Q u s':=by
 obtain⟨v,H',os,bare,un,hok,r,q⟩:=h;obtain⟨hh,g,d,t,os'⟩:=s';obtain rfl:os'=s.os:=os;exact⟨v,H',I.call (h':=hh) (g':=g) (d':=d) (t':=t) (ch:=[]) un hok bare (λb z=>absurd z (by simp)),r,q⟩
end
def TM(sp:Sp)(dvs:List V)(E:XK)(t:TA):TE:=λσ H Q=>t σ H λvs H1=>sp (vs++dvs) H1 Q E
def aJG(C:Addr)(sp:Sp)(dvs:List V)(E:XK)(t:TA):TE:=λσ H Q=>t σ H λvs H1=>∀x dx,H1 x=none->H1 dx=none->dx≠x->
 sp (.ref x::(vs++dvs)) (upd (upd H1 dx (.own x)) x (.ins C dx [])) (λv H2=>v= .non/\Q (.ref x) H2) E
noncomputable def aP(K:W.Frag)(fd:Ja)(ps:List Str)(ds:List Value):Prop :=
 ∀(s:J7) (us:List Value),K.In s.heap->(us++ds).length=ps.length->BindsTo s fd ⟨us,[]⟩ (ps.zip (us++ds))
def jX(CX:CXT)(X:Cx)(E:XK):Prop:= ∀(j4:List (Addr×Obj)) (σ:St) (H:Hp) (s:J7) (e:Value) (s':J7),Inv X j4 σ H s->CX X.stack H s E e s'->X.xe e s'
section
variable{X:Cx}{CX:CXT}{k:Nat}{f C:Addr}{fd:Ja}{ps:List Str}{sp:Sp}{dvs:List V}{ds:List Value}{E:XK}{x m:Str}{p pos j6:Pos}{e o:Expr}{es:List Expr}{ta:TE}{t:TA}
theorem aEN{j4:List (Addr×Obj)}{σ:St}{H:Hp}{s:J7}{Q:VK}{us:List Value}{vs:List V}(F:aW X.prog X.w X.K X.mg X.base CX k f fd ps sp)(hr:aR k X.A)(hb:aP X.K fd ps ds)(hd:aI dvs ds)(hx:jX CX X E)
   (I:Inv X j4 σ H s) (r:aI vs us) (h:sp (vs++dvs) H Q E):wpAny (model X.prog X.w) X.A (call (.ref f) us) (EP X j4 σ Q) X.xe s:=by
 have r2:aI (vs++dvs) (us++ds):=r.append hd;have hl:(us++ds).length=ps.length:=by rw[<-r2.length];exact F.len _ _ _ _ h
 refine wpAny_call (codeAny_mono (F.run X.A X.stack s H ⟨us,[]⟩ (us++ds) (vs++dvs) Q E hr I.env0 (hb s us I.kIn hl) r2 h) λr s' hq=>?_);cases r with
 | error e=>exact hx j4 σ H s e s' I hq
 | ok fl =>
   cases fl with
   | ret u=>exact I.after hq
   | next=>exact False.elim hq
   | brk=>exact False.elim hq
   | cont=>exact False.elim hq
theorem aA0(F:aW X.prog X.w X.K X.mg X.base CX k f fd ps sp)(hr:aR k X.A)(hg:Gl X x)(hm:X.mg x=some (.ref f))(hk:W.keepIn X.K (.ref f)=true)(hb:aP X.K fd ps ds)(hd:aI dvs ds)(hx:jX CX X E)
   (ha:PA X (e::es) t) (hdb:(x==("__debug__":Str))=false:=by decide) (he:starEach (e::es) X.env=(false,eval e X.env)::starEach es X.env:=by rfl) (hpl:(backTo pos (starEach es X.env)).any (·.1)=false:=by rfl) :
   PE X (.Call (.Name x p) (e::es) [] pos) (TM sp dvs E t):=by
 intro j4 s σ H Q I h;refine wpAny_Call_Name_kw (jR I hg hm ?_ hdb);refine W.callWith_K (h₀:=X.base) I.ok.mod.kin hk (thn (ha pos j4 s σ H _ I h) λus s1 ⟨vs,H1,I1,r,q⟩=>⟨I1.kIn,?_⟩) he hpl;exact aEN F hr hb hd hx I1 r q
structure Mk(K:W.Frag)(C f:Addr):Prop where
 makes:W.makesIn K C=true
 init:W.findIn K (.ref C) "__init__"=some (some (.ref f))
 fn:W.isFn K (.ref f)=true
 kp:W.keepIn K (.ref C)=true
theorem VB{j4:List (Addr×Obj)}{σ:St}{Q:VK}(M:Mk X.K C f)(F:aW X.prog X.w X.K X.mg X.base CX k f fd ps sp)(hr:aR (k+1) X.A)(hb:aP X.K fd ps ds)(hd:aI dvs ds)
   (hx:jX CX X E) (I:Inv X j4 σ H s) (r:aI vs us)
   (h:∀x dx,H x=none->H dx=none->dx≠x->sp (.ref x::(vs++dvs)) (upd (upd H dx (.own x)) x (.ins C dx [])) (λv H2=>v= .non/\Q (.ref x) H2) E) :
   wpAny (model X.prog X.w) X.A (call (.ref C) us) (EP X j4 σ Q) X.xe s:=by
 have hq:=h (s.heap.objs.size+1) s.heap.objs.size (I.hok.fresh (Nat.le_succ _)) (I.hok.fresh (Nat.le_refl _)) (Nat.ne_of_lt (Nat.lt_succ_self _));have I2:=Inv.made (C:=C) I;have r2:aI (V.ref (s.heap.objs.size+1)::(vs++dvs)) (Value.ref (s.heap.objs.size+1)::(us++ds)):=.cons rfl (r.append hd);have hl:(Value.ref (s.heap.objs.size+1)::us++ds).length=ps.length:=by
   have e:=r2.length;rw[F.len _ _ _ _ hq] at e;exact e.symm
 refine wpAny_call (vF (f:=f) I.kIn M.makes M.init (beq_iff_eq.mp M.fn) (codeAny_mono (F.run _ X.stack _ _ ⟨Value.ref (s.heap.objs.size+1)::us,[]⟩ (Value.ref (s.heap.objs.size+1)::(us++ds)) _ _ E (hr.make C us [])
   (I2.env0.make C us []) (hb _ (Value.ref (s.heap.objs.size+1)::us) I2.kIn hl) r2 hq) λr s' hq'=>?_))
 cases r with
 | error e=>exact hx j4 σ _ _ e s' I2 hq'
 | ok fl =>
   cases fl with
   | ret u =>
     obtain⟨v,H',I3,rv,ev,q3⟩:=I2.after hq';subst ev;exact⟨rv,⟨V.ref (s.heap.objs.size+1),H',I3,rfl,q3⟩⟩
   | next=>exact False.elim hq'
   | brk=>exact False.elim hq'
   | cont=>exact False.elim hq'
theorem aBJ(M:Mk X.K C f)(F:aW X.prog X.w X.K X.mg X.base CX k f fd ps sp)(hr:aR (k+1) X.A)(hg:Gl X x)(hm:X.mg x=some (.ref C))(hb:aP X.K fd ps ds)(hd:aI dvs ds)(hx:jX CX X E)
   (ha:PA X (e::es) t) (hdb:(x==("__debug__":Str))=false:=by decide) (he:starEach (e::es) X.env=(false,eval e X.env)::starEach es X.env:=by rfl) (hpl:(backTo pos (starEach es X.env)).any (·.1)=false:=by rfl) :
   PE X (.Call (.Name x p) (e::es) [] pos) (aJG C sp dvs E t):=by
 intro j4 s σ H Q I h;refine wpAny_Call_Name_kw (jR I hg hm ?_ hdb);refine W.callWith_K (h₀:=X.base) I.ok.mod.kin M.kp (thn (ha pos j4 s σ H _ I h) λus s1 ⟨vs,H1,I1,r,q⟩=>⟨I1.kIn,?_⟩) he hpl;exact VB M F hr hb hd hx I1 r q
end
noncomputable def PK(X:Cx)(kws:List Keyword)(t:TA):Prop :=
 ∀(pos:Pos) (j4:List (Addr×Obj)) (s:J7) (σ:St) (H:Hp) (Q:List V->Hp->Prop),Inv X j4 σ H s->t σ H Q->wpAny (model X.prog X.w) X.A (evalAll ((backToKw pos (keywordEach kws X.env)).map (·.2))) (AP X j4 σ Q) X.xe s
section
variable{X:Cx}{CX:CXT}{k:Nat}{f C:Addr}{fd:Ja}{ps ks:List Str}{sp:Sp}{E:XK}{x m:Str}{p pos j6 kpos:Pos}{e o:Expr}{es:List Expr}{kws:List Keyword}{te ta:TE}{t tk:TA}{nm:Option Str}
theorem aEx:PK X [] aIu:=λ_ _ _ _ H Q I h=>wpAny_evalAll_nil ⟨[],H,I,.nil,h⟩
theorem aA7(ha:PE X e te)(hr:PK X kws t):PK X (⟨nm,e,kpos⟩::kws) (aDo te t):=by
 intro pos j4 s σ H Q I h;show wpAny _ _ (evalAll ((do let v <-eval e X.env;standAt pos;pure v)::(backToKw pos (keywordEach kws X.env)).map (·.2))) _ _ s;refine wpAny_evalAll_cons (wAq (thn (ha j4 s σ H _ I h) λu s1 ⟨x,H1,I1,r1,q1⟩=>wAq (wpAny_standAt (wBq ?_))));exact thn (hr pos j4 s1 σ H1 _ I1 q1)<|by rintro us s2 ⟨xs,H2,I2,r2,q2⟩;exact⟨x::xs,H2,I2,.cons r1 r2,q2⟩
variable{g:List Value->List Value->List Value}{gV:List V->List V->List V}
end
structure AI(N P:List Str)(sc:Scope):Prop where
 kind:sc.kind= .function
 co:sc.isCoroutine=false
 gen:sc.isGenerator=false
 nd:N.Nodup
 pre:N.take P.length=P
 par:∀x∈P,sc.names.lookup x=some .local∨sc.names.lookup x=some .cell
 nofree:∀y∈sc.names,y.2≠.free
theorem yF{kindOf:Str->Option NameKind}:∀{binds:List (Str×Value)} {m:Str->Option Value},(∀v,(x,v)∉binds)->bindL kindOf binds m x=m x
 | [],_,_=>rfl
 | (n,v)::r,m,h=>by
   unfold bindL;rw[yF λw hw=>h w (wCq _ hw)];split
   . have:x≠n:=by rintro rfl;exact h v wDq
     simp[this]
   . rfl
theorem yK{kindOf:Str->Option NameKind}:∀{binds:List (Str×Value)} {m:Str->Option Value},(∀v,(x,v)∉binds)->bindC kindOf binds m x=m x
 | [],_,_=>rfl
 | (n,v)::r,m,h=>by
   unfold bindC;rw[yK λw hw=>h w (wCq _ hw)];split
   . rfl
   . have:x≠n:=by rintro rfl;exact h v wDq
     simp[this]
theorem xU{kindOf:Str->Option NameKind}:∀{P:List Str} {vs:List Value} {i:Nat} {m:Str->Option Value},P.Nodup->P[i]? =some x->vs[i]? =some v->kindOf x=some .local->
   bindL kindOf (P.zip vs) m x=some v
 | [],_,_,_,_,h,_,_=>by simp at h
 | _::_,[],_,_,_,_,h,_=>by simp at h
 | p::P,w::vs,0,m,nd,h1,h2,hk=>by
   simp at h1 h2;subst h1;subst h2
   show bindL kindOf ((p,w)::P.zip vs) m p=_;unfold bindL;rw[yF λv hv=>(List.nodup_cons.mp nd).1 (List.of_mem_zip hv).1,jd hk];simp
 | p::P,w::vs,i+1,m,nd,h1,h2,hk=>by
   show bindL kindOf ((p,w)::P.zip vs) m x=_;unfold bindL;exact xU (i:=i) (List.nodup_cons.mp nd).2 (by simpa using h1) (by simpa using h2) hk
theorem yX{kindOf:Str->Option NameKind}:∀{P:List Str} {vs:List Value} {i:Nat} {m:Str->Option Value},P.Nodup->P[i]? =some x->vs[i]? =some v->kindOf x≠some .local->
   bindC kindOf (P.zip vs) m x=some v
 | [],_,_,_,_,h,_,_=>by simp at h
 | _::_,[],_,_,_,_,h,_=>by simp at h
 | p::P,w::vs,0,m,nd,h1,h2,hk=>by
   simp at h1 h2;subst h1;subst h2
   show bindC kindOf ((p,w)::P.zip vs) m p=_;unfold bindC;rw[yK λv hv=>(List.nodup_cons.mp nd).1 (List.of_mem_zip hv).1,jb hk];simp
 | p::P,w::vs,i+1,m,nd,h1,h2,hk=>by
   show bindC kindOf ((p,w)::P.zip vs) m x=_;unfold bindC;exact yX (i:=i) (List.nodup_cons.mp nd).2 (by simpa using h1) (by simpa using h2) hk
noncomputable def start(N:List Str)(vs:List V):St:=vs.map some++List.replicate (N.length-vs.length) none
noncomputable def OY(CX:CXT)(P:J9)(w:World)(K:W.Frag)(mg:Str->Option Value)(base:Heap)(N:List Str)(qual:Str)(scope:Scope)(f:Addr)(cd:Value)(A:Around)(outer:List Env)(s:J7)(H:Hp)(E:XK):Cx where
 prog:=P
 w:=w
 K:=K
 mg:=mg
 base:=base
 A:=A.deeper (envOfC qual scope s.heap.objs.size f cd)
 N:=N
 s₀:=s
 H₀:=H
 env:=envOfC qual scope s.heap.objs.size f cd
 outer:=outer
 stack:=envOfC qual scope s.heap.objs.size f cd::outer
 ex:=[]
 calm:=A.handled.isNone
 fn:=λ_=>true
 pn:=[]
 xe:=λe s'=>wpAny (model P w) (A.deeper (envOfC qual scope s.heap.objs.size f cd)) (leaving (envOfC qual scope s.heap.objs.size f cd) e) (λ_ s''=>CX outer H s E e s'') (λe' s''=>CX outer H s E e' s'') s'
theorem wS{sc:Scope}(h:sc.names.lookup x=some .cell):∃c,(cellsFrom n sc.names []).lookup x=some c:=by
 have q:=W.cellsFrom_some sc.names n [] (.inl h);exact Option.isSome_iff_exists.mp q
theorem OV{CX:CXT}{P:J9}{w:World}{K:W.Frag}{mg:Str->Option Value}{base:Heap}{N ps:List Str}{qual:Str}{scope:Scope}{f:Addr}{cd:Value}{A:Around}{outer:List Env}{s s1:J7}{H:Hp}{E:XK}{us:List Value}{vs:List V}
   (S:AI N ps scope) (e0:rW P w K mg base A outer s H) (hl:vs.length=ps.length) (r:aI vs us)
   (x:InCallC s s.heap.objs.size (bindL (envOfC qual scope s.heap.objs.size f cd).kindOf (ps.zip us) λ_=>none) (cellsFrom (s.heap.objs.size+1) scope.names []) (bindC (envOfC qual scope s.heap.objs.size f cd).kindOf (ps.zip us) λ_=>none) s1) :
   Inv (OY CX P w K mg base N qual scope f cd A outer s H E) [] (start N vs) H s1:=by
 have hpl:ps.length<=N.length:=by have:=congrArg List.length S.pre;rw[List.length_take] at this;omega
 obtain⟨h1,tk,rfl,hk⟩:=x.done;have noA:∀b:Addr,b∉(OY CX P w K mg base N qual scope f cd A outer s H E).ex:=λb z=>absurd (show b∈([]:List Addr) from z) (by simp);refine⟨⟨e0.mod,S.kind,rfl,rfl,Nat.le_refl _,λy z c h1 h2=>?_,λy hy=>?_,λy c _ h=>?_,λz=>Option.isNone_iff_eq_none.mp z,Around.frames_deeper e0.frames,.inr ⟨rfl,rfl⟩,λb z=>absurd z (noA b),e0.bs,e0.bsz,λb _ _=>noA b,λb z=>absurd z (noA b),e0.funs,e0.frf⟩,
   rfl,e0.bare,Un.kept hk,⟨_,x.toInCall.ns,λi y v h1 h2 h3=>?_⟩,λy c h=>⟨_,x.cell y c h⟩,e0.hok.fresh (Nat.le_refl _),λy c h=>?_,λp hp=>absurd (show p∈([]:List (Addr×Obj)) from hp) (by simp),e0.hok.kept hk,?_⟩
 . exact name_of_addr x.apart (PySem.mem_of_lookup h1) (PySem.mem_of_lookup h2)
 . have hy:scope.names.lookup y=some .cell∨scope.names.lookup y=some .free:=hy;rcases hy with hy|hy
   . exact wS hy
   . exact absurd rfl (S.nofree _ (PySem.mem_of_lookup hy))
 . exact Nat.le_of_lt (x.above y c (PySem.mem_of_lookup h))
 . have hi:i<vs.length:=by
     unfold start at h2;by_cases hi:i<vs.length
     . exact hi
     . rw[List.getElem?_append_right (by simpa using hi)] at h2;rw[List.getElem?_replicate] at h2;split at h2<;>cases h2
   have ha:vs[i]? =some v:=by
     unfold start at h2;rw[List.getElem?_append_left (by simpa using hi),List.getElem?_map] at h2;cases e:vs[i]? with
     | none=>rw[e] at h2;cases h2
     | some a=>rw[e] at h2;cases h2;rfl
   obtain⟨u,hu,rv⟩:=r.get ha;have hp:ps[i]? =some y:=by
     rw[<-S.pre,List.getElem?_take_of_lt ooq];exact h1
   have ndP:ps.Nodup:=by rw[<-S.pre];exact S.nd.sublist (List.take_sublist _ _)
   refine⟨u,rv,?_⟩;rcases S.par y (List.mem_of_getElem? hp) with k|k
   . exact .inl ⟨k,xU ndP hp hu k⟩
   . obtain⟨c,e⟩:=wS (n:=s.heap.objs.size+1) k;refine .inr ⟨.inl k,c,e,?_⟩;have q:=x.cell y c e;rw[yX ndP hp hu (by show scope.names.lookup y≠_;rw[k];decide)] at q;exact q
 . exact e0.hok.fresh (Nat.le_of_lt (x.above y c (PySem.mem_of_lookup h)))
 . unfold start;show _=N.length;rw[List.length_append,List.length_map,List.length_replicate];omega
theorem aIY{CX:CXT}{P:J9}{w:World}{K:W.Frag}{mg:Str->Option Value}{base:Heap}{k:Nat}{f:Addr}{name qual:Str}{params:Arguments}{body:List Stmt}{scope:Scope}{dV kV doc pm cdv ct oc:Value}{an od:Option Addr}
   {osl:Array (Option Value)} {N ps:List Str} {sp:Sp} (lk:K.lookup f=some ⟨oc,od,.func (W.fnOf name qual params body scope dV kV doc pm an cdv ct),osl⟩) (hcd:W.codeIn K cdv qual=true) (S:AI N ps scope)
   (len:∀vs H Q E,sp vs H Q E->vs.length=ps.length)
   (hbody:∀(A:Around) (outer:List Env) (s:J7) (H:Hp) (vs:List V) (Q:VK) (E:XK),aR k (A.deeper (envOfC qual scope s.heap.objs.size f cdv))->sp vs H Q E->
     ∃t,PSs (OY CX P w K mg base N qual scope f cdv A outer s H E) body t/\t {nx:=λ_ H'=>Q .non H',rt:=Q} (start N vs) H) :
   aW P w K mg base CX (k+1) f (W.fnOf name qual params body scope dV kV doc pm an cdv ct) ps sp:=by
 refine⟨len,λA outer s H args us vs Q E hr e0 hb r hsp=>?_⟩;have hl:=len _ _ _ _ hsp;have KX:K.In s.heap:=e0.mod.kin.keeps λb o e=>(e0.bs b o e).1;have lim:s.heap.NoLimit:=e0.mod.nolimit.keeps λb o e=>(e0.bs b o e).1;have hkind:∀y∈ps.zip us,scope.names.lookup y.1=some .local∨(scope.names.lookup y.1=some .cell/\((cellsFrom (s.heap.objs.size+1) scope.names []).lookup y.1).isSome=true):=by
   rintro⟨n,v⟩ hy;rcases S.par n (List.of_mem_zip hy).1 with q|q
   . exact .inl q
   . exact .inr ⟨q,W.cellsFrom_some _ _ _ (.inl q)⟩
 refine codeAny_call_function hr.depth (KX _ _ lk) rfl S.co S.gen rfl (W.codeRec_of KX hcd) (hb _ _ _ _ ?_);refine wpAny_newFunctionEnv_cells S.kind hkind λenv he s1 x=>?_;subst he;refine⟨lim.keeps x.toInCall.keep,codeAny_func ?_⟩;obtain⟨t,ht,hq⟩:=hbody A outer s H vs Q E (hr.deeper _) hsp;have I:Inv (OY CX P w K mg base N qual scope f cdv A outer s H E) [] (start N vs) H s1:=OV S e0 hl r x;refine wpAny_mono (ht [] s1 (start N vs) H _ I hq) (λfl s' hs=>?_) λe s' hs=>hs;have fin:∀{σ':St} {H':Hp} {v:V} {u:Value},Inv (OY CX P w K mg base N qual scope f cdv A outer s H E) [] σ' H' s'->aN v u->Q v H'->CE outer P w H s Q u s' :=
   λ{σ' H' v u} J rv q=>⟨v,H',J.os,J.bare,J.base,J.hok,rv,q⟩
 cases fl with
 | ret u =>
   obtain⟨v,σ',H',J,rv,q⟩:=hs;exact fin J rv q
 | next =>
   obtain⟨σ',H',J,q⟩:=hs;exact fin (v:=V.non) (u:=Value.none) J rfl q
 | brk =>
   obtain⟨_,_,_,q⟩:=hs;exact False.elim q
 | cont =>
   obtain⟨_,_,_,q⟩:=hs;exact False.elim q
section
variable{X:Cx}{x:Str}{p pos:Pos}{e:Expr}{es:List Expr}{t:TA}{id T:J8}{r:List V->Hp->VK->Prop}
def tCB(r:List V->Hp->VK->Prop)(t:TA):TE:=λσ H Q=>t σ H λvs H1=>r vs H1 Q
theorem EU(hc:bC X (.builtin id) r)(hg:Gl X x)(hm:X.mg x=none)(hv:bootBuiltins x=some (.builtin id))(ha:PA X (e::es) t)(hn:x≠"__name__":=by decide)(hdb:(x==("__debug__":Str))=false:=by decide)
   (he:starEach (e::es) X.env=(false,eval e X.env)::starEach es X.env:=by rfl) (hpl:(backTo pos (starEach es X.env)).any (·.1)=false:=by rfl):PE X (.Call (.Name x p) (e::es) [] pos) (tCB r t):=by
 intro j4 s σ H Q I h;refine wpAny_Call_Name_kw (nR I hg hm hv ?_ hn hdb);exact PyProof.Rows.callWith_builtin1 (thn (ha pos j4 s σ H _ I h)<|by rintro us s1 ⟨vs,H1,I1,r1,q1⟩;exact hc j4 s1 σ H1 vs us Q I1 r1 q1) he hpl
theorem sI(hc:bC X (.type T) r)(hg:Gl X x)(hm:X.mg x=none)(hv:bootBuiltins x=some (.type T))(ha:PA X (e::es) t)(hn:x≠"__name__":=by decide)(hdb:(x==("__debug__":Str))=false:=by decide)
   (he:starEach (e::es) X.env=(false,eval e X.env)::starEach es X.env:=by rfl) (hpl:(backTo pos (starEach es X.env)).any (·.1)=false:=by rfl):PE X (.Call (.Name x p) (e::es) [] pos) (tCB r t):=by
 intro j4 s σ H Q I h;refine wpAny_Call_Name_kw (nR I hg hm hv ?_ hn hdb);exact PyProof.Rows.callWith_type1 (thn (ha pos j4 s σ H _ I h)<|by rintro us s1 ⟨vs,H1,I1,r1,q1⟩;exact hc j4 s1 σ H1 vs us Q I1 r1 q1) he hpl
end
end L2
namespace HT
open PySem PyProof.Rows
noncomputable def yH:List Int->List Int->Bool
 | [],[]=>false
 | [],_::_=>true
 | _::_,[]=>false
 | x::xs,y::ys=>if x=y then yH xs ys else decide (x<y)
theorem aGv(x y:Int)(xs ys:List Int):yH (x::xs) (y::ys)=if x=y then yH xs ys else decide (x<y):=rfl
theorem aAp:yH [] []=false:=rfl
theorem YM(y:Int)(ys:List Int):yH [] (y::ys)=true:=rfl
theorem YD(x:Int)(xs:List Int):yH (x::xs) []=false:=rfl
section
open PySem.SeqAt
open PySem.AutoSeq1 (wpAny_loadPart')
open PySem.MeetsSeq PySem.MeetsSeq2 PySem.MeetsSeq3
end
section
variable{prog:J9}{w:World}{A:Around}{E:Value->J7->Prop}{s:J7}
theorem aCd(ht:IsTup s.heap t vs.toArray)(hb:IsTup s.heap b ws.toArray)(hv:vs≠[])
   (h1:ws=[]->Q (.ref t) s) (h2:ws≠[]->Q (.ref s.heap.objs.size) {s with heap:=s.heap.push {cls:=.type "tuple",data:=.seq (vs++ws).toArray}})
   (hsz:vs.length+ws.length<=sizeLine):wpAny (model prog w) A (binaryOp .Add (.ref t) (.ref b)) Q E s:=by
 obtain⟨⟨cls,dd,data,sl⟩,ho,hc,n,hd⟩:=id ht;obtain⟨⟨cls2,dd2,data2,sl2⟩,ho2,hc2,n2,hd2⟩:=id hb;simp only at hc hd hc2 hd2;subst hc hd hc2 hd2;have e:vs.toArray++ws.toArray=(vs++ws).toArray:=by simp
 by_cases hw:ws=[]
 . exact concat_meets ⟨_,ho,rfl⟩ ⟨_,ho2,rfl⟩ noFill_tuple_add seq_tuple_add PySem.F.slot_tuple_add PySem.F.entry_tuple_add (PySem.F.args_tuple_add_2 _ _)
     (tuple_addW1 t b vs.toArray ws.toArray n n2 dd dd2 sl sl2 (by simpa using hv) (by simp[hw])) ⟨ho,ho2,h1 hw⟩
 . refine concat_meets ⟨_,ho,rfl⟩ ⟨_,ho2,rfl⟩ noFill_tuple_add seq_tuple_add PySem.F.slot_tuple_add PySem.F.entry_tuple_add (PySem.F.args_tuple_add_2 _ _)
     (tuple_addW2 t b vs.toArray ws.toArray n n2 dd dd2 sl sl2 (by simpa using hv) (by simpa using hw) (by rw[wIq,wIq];exact hsz)) ⟨ho,ho2,?_⟩
   rw[e];exact h2 hw
noncomputable def sIx(n d:Nat):Option Int->Nat
 | none=>d
 | some v=>if v<0 then(v+(n:Int)).toNat else min v.toNat n
theorem aKS(n d:Nat):sIx n d none=d:=rfl
theorem aEO(n d:Nat)(hd:d<=n)(o:Option Int):sIx n d o<=n:=by
 cases o with
 | none=>exact hd
 | some v =>
   show(if v<0 then(v+(n:Int)).toNat else min v.toNat n)<=n;by_cases hv:v<0
   . rw[jd hv];omega
   . rw[jb hv];exact Nat.min_le_right _ _
theorem MH(v:Int)(n d:Nat):(if v<0 then max (v+(n:Int)) 0 else min v (n:Int))=((sIx n d (some v):Nat):Int):=by
 show(if v<0 then max (v+(n:Int)) 0 else min v (n:Int))=(((if v<0 then(v+(n:Int)).toNat else min v.toNat n):Nat):Int);by_cases hv:v<0
 . simp only[jd hv];omega
 . simp only[jb hv];omega
theorem HM(lo hi:Option Int)(n:Nat):Builtin.Slice.sliceAdjust lo hi 1 (n:Int)=(((sIx n 0 lo:Nat):Int),((sIx n n hi:Nat):Int)):=by
 have h1:¬((1:Int)<0):=by omega
 unfold Builtin.Slice.sliceAdjust;simp only[h1,if_false];refine Prod.ext ?_ ?_
 . cases lo with
   | none=>rfl
   | some v=>exact MH v n 0
 . cases hi with
   | none=>rfl
   | some v=>exact MH v n n
theorem FY(i j:Nat):Builtin.Slice.slicePlaces (i:Int) (j:Int) 1=j-i:=by
 unfold Builtin.Slice.slicePlaces;have h1:(1:Int)>0:=by omega
 simp only[h1,if_true,Int.ediv_one];split<;>omega
theorem nU(p:IsPart v o)(h:Q o s):wpAny (model prog w) A (Builtin.Slice.slicePartIndex v) Q E s:=by
 cases p with
 | none=>exact slicePart_none h
 | int i t=>exact slicePart_int h
theorem iL{lo hi:Option Int}{n:Nat}{Q:Int×Int×Nat->J7->Prop}(hs:s.heap.IsSliceOf sl vl vu .none)(pl:IsPart vl lo)(pu:IsPart vu hi)
   (h:Q (((sIx n 0 lo:Nat):Int),1,sIx n n hi-sIx n 0 lo) s):wpAny (model prog w) A (Builtin.Slice.sliceApplied (.ref sl) (pure (n:Int))) Q E s:=by
 obtain⟨os,hos,hcs,hds⟩:=id hs;unfold Builtin.Slice.sliceApplied Builtin.Slice.sliceFields;refine wAq (wAq (wpAny_field hos hds (x:=vl) rfl (wAq (wpAny_field hos hds (x:=vu) rfl (wAq (wpAny_field hos hds (x:=.none) rfl (wBq ?_)))))));refine wAq (slicePart_none ?_);show wpAny _ _ (if ((1:Int)==0)=true then _ else _) _ _ s;rw[jb ddq];refine wAq (nU pl (wAq (nU pu (wAq (wBq ?_)))));show wpAny _ _ (match Builtin.Slice.sliceAdjust lo hi 1 (n:Int) with|(lo,hi)=>pure (lo,(1:Int),Builtin.Slice.slicePlaces lo hi 1)) _ _ s;rw[HM lo hi n];show wpAny _ _ (pure (((sIx n 0 lo:Nat):Int),(1:Int),Builtin.Slice.slicePlaces ((sIx n 0 lo:Nat):Int) ((sIx n n hi:Nat):Int) 1)) _ _ s;rw[FY];exact wBq h
theorem RC(xs:Array Value)(i k:Nat):((List.range k).filterMap λ(m:Nat)=>xs[((i:Int)+(m:Int)*1).toNat]?).toArray=((xs.toList.drop i).take k).toArray:=by
 have e:(λ(m:Nat)=>xs[((i:Int)+(m:Int)*1).toNat]?)=λm=>xs[i+m]? :=by
   funext m
   have:((i:Int)+(m:Int)*1).toNat=i+m:=by omega
   rw[this]
 rw[e];have:=pick_run xs i k;rw[List.filterMap_map] at this;have e2:((λx=>xs[x]?)∘λx=>i+x)=λm=>xs[i+m]? :=rfl;rw[e2] at this;rw[this]
theorem rG{t sl:Addr}{items:Array Value}{vl vu:Value}{lo hi:Option Int}{Q:Value->J7->Prop}(ht:IsTup s.heap t items)(hs:s.heap.IsSliceOf sl vl vu .none)(pl:IsPart vl lo)(pu:IsPart vu hi)
   (hw:¬(sIx items.size 0 lo=0/\sIx items.size items.size hi=items.size))
   (h:Q (.ref s.heap.objs.size) {s with heap:=s.heap.push {cls:=.type "tuple",data:=.seq ((items.toList.drop (sIx items.size 0 lo)).take (sIx items.size items.size hi-sIx items.size 0 lo)).toArray}})
   (hsz:items.size<=sizeLine):wpAny (model prog w) A (getItem (.ref t) (.ref sl)) Q E s:=by
 have htake:sizeOk (.seq ((items.toList.drop (sIx items.size 0 lo)).take (sIx items.size items.size hi-sIx items.size 0 lo)).toArray):=by
   show((items.toList.drop (sIx items.size 0 lo)).take (sIx items.size items.size hi-sIx items.size 0 lo)).toArray.size<=sizeLine;rw[wIq,List.length_take,List.length_drop,Array.length_toList];omega
 have hj:sIx items.size items.size hi<=items.size:=aEO _ _ (Nat.le_refl _) hi;obtain⟨os,hos,hcs,hds⟩:=id hs;have hTs:s.TypeIs (.ref sl) "slice":=⟨os,hos,hcs⟩;unfold getItem
 try with_reducible refine wpAny_holding ?_
 first|refine wAq (wBq ?_)|skip
 refine wAq (wpAny_sequenceKey ht.typeIs ddq ?_);refine wAq (wpAny_callSpecial?_slot (name:=Str.ofString "__getitem__") ht.typeIs PyProof.Rows.slot_tuple_getitem
   (wpAny_call_entry PyProof.Rows.slot_tuple_getitem ht.typeIs entry_tuple_getitem ?_ (args_tuple_getitem _ _)))
 show wpAny _ _ (Builtin.Tuple.tupleItemsOf (.ref t)>>=_) _ _ s;refine wAq (tupleItemsOf_ ht ?_);refine wAq (wpAny_typeOf hTs ?_);rw[jd ddq];refine wAq (iL hs pl pu ?_);have hno:¬((((sIx items.size 0 lo:Nat):Int)==0&&(1:Int)==1&&(sIx items.size items.size hi-sIx items.size 0 lo)==items.size)=true):=by
   intro q;rw[Bool.and_eq_true,Bool.and_eq_true] at q;have q1:((sIx items.size 0 lo:Nat):Int)=0:=eq_of_beq q.1.1;have q2:sIx items.size items.size hi-sIx items.size 0 lo=items.size:=eq_of_beq q.2;exact hw ⟨by omega,by omega⟩
 show wpAny _ _ (if (((sIx items.size 0 lo:Nat):Int)==0&&(1:Int)==1&&(sIx items.size items.size hi-sIx items.size 0 lo)==items.size)=true then _ else _) _ _ s;rw[jb hno,RC];first
   | exact wAq (m:=Builtin.Tuple.tupleExact _) (wpAny_newObj_type (wBq ⟨_,rfl,wBq h⟩) htake)
   | exact wAq (m:=Builtin.Tuple.tupleExact _) (wpAny_newObj_type (wAq (wBq (wBq ⟨_,rfl,wBq h⟩))) htake)
   | exact wAq (wAq (m:=Builtin.Tuple.tupleExact _) (wpAny_newObj_type (wBq (wBq ⟨_,rfl,wBq h⟩)) htake))
   | exact wAq (wAq (m:=Builtin.Tuple.tupleExact _) (wpAny_newObj_type (wBq ⟨_,rfl,wBq h⟩) htake))
end
end HT
namespace L2
open PySem PySem.Spec PyProof.Rows
noncomputable abbrev TO:=St->Hp->(Option Int->Hp->Prop)->Prop
noncomputable def PO(X:Cx)(e:Option Expr)(t:TO):Prop :=
 ∀(j4:List (Addr×Obj)) (s:J7) (σ:St) (H:Hp) (Q:Option Int->Hp->Prop),Inv X j4 σ H s->t σ H Q->
   wpAny (model X.prog X.w) X.A (evalPart e X.env) (λu s'=>∃o H',Inv X j4 σ H' s'/\IsPart u o/\Q o H') X.xe s
noncomputable def aCF:TO:=λ_ H Q=>Q none H
noncomputable def aKw(t:TE):TO:=λσ H Q=>t σ H λx H1=>∃i,x= .int i/\Q (some i) H1
section
variable{X:Cx}{e:Expr}{te:TE}{lo hi:Option Expr}{tl th:TO}{pos p2:Pos}
theorem aBw:PO X none aCF:=by
 intro j4 s σ H Q I h;rw[evalPart_none];exact wBq ⟨none,H,I,.none,h⟩
theorem KL(h:PE X e te):PO X (some e) (aKw te):=by
 intro j4 s σ H Q I hw;rw[evalPart_some];refine thn (h j4 s σ H _ I hw) λu s1 zz=>?_;obtain⟨x,H1,I1,r1,q1⟩:=zz;obtain⟨i,rfl,q⟩:=q1;obtain⟨t,rfl⟩:=r1;exact⟨some i,H1,I1,.int i t,q⟩
noncomputable def SlR(X:Cx)(r:V->Option Int->Option Int->Hp->VK->Prop):Prop :=
 ∀(j4:List (Addr×Obj)) (s:J7) (σ:St) (H:Hp) (x:V) (v vl vu:Value) (lo hi:Option Int) (sl:Addr) (Q:VK),Inv X j4 σ H s->aN x v->s.heap.IsSliceOf sl vl vu .none->IsPart vl lo->IsPart vu hi->r x lo hi H Q->
   ∃T id,typeLookup (.type T) "__getitem__"=pure (some (.builtin id))/\s.TypeIs v T/\wpAny (model X.prog X.w) X.A (getItem v (.ref sl)) (EP X j4 σ Q) X.xe s
theorem SlR.or(h:SlR X r)(h':SlR X r'):SlR X (λx lo hi H Q=>r x lo hi H Q∨r' x lo hi H Q):=by
 intro j4 s σ H x v vl vu lo hi sl Q I rx hs pl pu q;rcases q with q|q
 . exact h j4 s σ H x v vl vu lo hi sl Q I rx hs pl pu q
 . exact h' j4 s σ H x v vl vu lo hi sl Q I rx hs pl pu q
def tSl(r:V->Option Int->Option Int->Hp->VK->Prop)(te:TE)(tl th:TO):TE:=λσ H Q=>te σ H λx H1=>tl σ H1 λl H2=>th σ H2 λu H3=>r x l u H3 Q
theorem WL(hr:SlR X r)(he:PE X e te)(hl:PO X lo tl)(hu:PO X hi th):PE X (.Subscript e (.Slice lo hi none p2) pos) (tSl r te tl th):=by
 intro j4 s σ H Q I h;refine Subscript_ (thn (he j4 s σ H _ I h) λv s1 zz=>?_);obtain⟨x,H1,I1,r1,q1⟩:=zz;refine wpAny_Slice (thn (hl j4 s1 σ H1 _ I1 q1) λvl s2 ⟨l,H2,I2,pl,q2⟩=>thn (hu j4 s2 σ H2 _ I2 q2) λvu s3 zz=>?_);obtain⟨u,H3,I3,pu,q3⟩:=zz;rw[evalPart_none];refine wBq ?_;have I4:Inv X j4 σ H3 {s3 with heap:=s3.heap.push {cls:=.type "slice",data:=.fields #[vl,vu,.none]}}:=I3.kept (t':=s3.toks) λb ob q=>wEq _ q;obtain⟨T,id,hT,ht,hg⟩:=hr j4 {s3 with heap:=s3.heap.push {cls:=.type "slice",data:=.fields #[vl,vu,.none]}} σ H3 x v vl vu l u s3.heap.objs.size Q I4 r1 (Heap.IsSliceOf.new ..) pl pu q3;show wpAny (model X.prog X.w) X.A (subscriptTail e (.Slice lo hi none p2) v (.ref s3.heap.objs.size)) (EP X j4 σ Q) X.xe {s3 with heap:=s3.heap.push {cls:=.type "slice",data:=.fields #[vl,vu,.none]}};exact tail_any (ops:=[.ref s3.heap.objs.size,v]) ht hT hg (by with_unfolding_all rfl)
noncomputable def DV(xs:List V)(lo hi:Option Int):List V:=(xs.drop (HT.sIx xs.length 0 lo)).take (HT.sIx xs.length xs.length hi-HT.sIx xs.length 0 lo)
theorem sM(xs:List V)(lo hi:Option Int):(DV xs lo hi).length<=xs.length:=by
 unfold DV;rw[List.length_take,List.length_drop];omega
noncomputable def aL6(K:W.Frag):V->Option Int->Option Int->Hp->VK->Prop:=λx lo hi H Q=>∃a xs,x= .ref a/\SqT K H a xs/\
 ¬(HT.sIx xs.length 0 lo=0/\HT.sIx xs.length xs.length hi=xs.length)/\∀p,H p=none->Q (.ref p) (upd H p (.tup (DV xs lo hi)))
theorem aHd:SlR X (aL6 X.K):=by
 intro j4 s σ H x v vl vu lo hi sl Q I rx hs pl pu h;obtain⟨a,xs,rfl,hx,hw,q⟩:=h;cases rx;obtain⟨its,r,ht,hz⟩:=I.tuple hx;have hlen:its.toArray.size=xs.length:=by rw[wIq];exact r.length.symm
 refine⟨"tuple",_,PyProof.Rows.slot_tuple_getitem.lookup,ht.typeIs,?_⟩;refine HT.rG ht hs pl pu (by rw[hlen];exact hw) ?_ (by rw[hlen];exact hz);rw[hlen];refine⟨.ref s.heap.objs.size,_,I.laid (t':=s.toks) (o:=.tup (DV xs lo hi)) (λb ob q=>wEq _ q) (Nat.le_refl _) ?_,rfl,q _ (I.hok.fresh (Nat.le_refl _))⟩;exact⟨Nat.le_trans (sM xs lo hi) hz,_,(r.drop (HT.sIx xs.length 0 lo)).take (HT.sIx xs.length xs.length hi-HT.sIx xs.length 0 lo),fP.new _ _⟩
def aKA(K:W.Frag):R2:=λx y H Q=>∃a b xs ys,x= .ref a/\y= .ref b/\SqT K H a xs/\SqT K H b ys/\xs≠[]/\xs.length+ys.length<=sizeLine/\
 (ys=[]->Q (.ref a) H)/\(ys≠[]->∀p,H p=none->Q (.ref p) (upd H p (.tup (xs++ys))))
theorem aI.nil_iff(r:aI xs us):us=[]↔xs=[]:=by
 cases r with
 | nil=>simp
 | cons _ _=>simp
theorem aCf:OpR X (binaryOp .Add) (aKA X.K):=by
 intro j4 s σ H x y v u Q I rx ry h;obtain⟨a,b,xs,ys,rfl,rfl,ha,hb,hx,hz,q1,q2⟩:=h;cases rx;cases ry;obtain⟨its,r1,p1,_⟩:=I.tuple ha;obtain⟨its2,r2,p2,_⟩:=I.tuple hb;refine HT.aCd p1 p2 (λz=>hx (r1.nil_iff.mp z)) (λz=>⟨.ref a,H,I,rfl,q1 (r2.nil_iff.mp z)⟩) (λz=>?_) (by rw[<-r1.length,<-r2.length];exact hz);refine⟨.ref s.heap.objs.size,_,I.laid (t':=s.toks) (o:=.tup (xs++ys)) (λb ob q=>wEq _ q) (Nat.le_refl _) ?_,rfl,q2 (λw=>z (r2.nil_iff.mpr w)) _ (I.hok.fresh (Nat.le_refl _))⟩;exact⟨by rw[List.length_append];exact hz,_,r1.append r2,fP.new _ _⟩
end
noncomputable def ixN(n:Nat)(i:Int):Option Nat:=if 0<=i then(if i<n then some i.toNat else none) else if -(n:Int)<=i then some (i+n).toNat else none
noncomputable def atI{α:Type}(xs:List α)(i:Int):Option α:=(ixN xs.length i).bind λj=>xs[j]?
theorem JX(h:ixN n i=some j):seqIndex? i n=some j/\j<n/\-(n:Int)<=i/\i<n:=by
 unfold ixN at h;by_cases h0:0<=i
 . rw[jd h0] at h;by_cases h1:i<n
   . rw[jd h1] at h;have e:i.toNat=j:=Option.some.inj h;exact⟨by rw[seqIndex_of h0 h1,e],by omega,by omega,h1⟩
   . rw[jb h1] at h;cases h
 . rw[jb h0] at h;by_cases h1: -(n:Int)<=i
   . rw[jd h1] at h;have e:(i+n).toNat=j:=Option.some.inj h;exact⟨by rw[seqIndex_neg ooq h1,e],by omega,h1,by omega⟩
   . rw[jb h1] at h;cases h
theorem zF{α:Type}{xs:List α}{v:α}(h:atI xs i=some v):∃j,seqIndex? i xs.length=some j/\xs[j]? =some v/\j<xs.length/\-(xs.length:Int)<=i/\i<xs.length:=by
 unfold atI at h;cases e:ixN xs.length i with
 | none=>rw[e] at h;cases h
 | some j =>
   rw[e] at h;obtain⟨h1,h2,h3,h4⟩:=JX e;exact⟨j,h1,h,h2,h3,h4⟩
theorem cF{α:Type}{xs:List α}{j:Nat}{v:α}(h:xs[j]? =some v):atI xs (j:Int)=some v:=by
 have hj:j<xs.length:=(List.getElem?_eq_some_iff.mp h).1;have e:ixN xs.length (j:Int)=some j:=by
   unfold ixN;rw[jd ooq,jd ooq];simp
 unfold atI;rw[e];exact h
theorem oU{α:Type}(xs:List α)(v:α):atI (xs++[v]) (-1)=some v:=by
 have hl:(xs++[v]).length=xs.length+1:=by simp
 have e:ixN (xs++[v]).length (-1)=some xs.length:=by
   unfold ixN;rw[hl,jb ddq,jd ooq]
   congr 1
   omega
 unfold atI;rw[e];show(xs++[v])[xs.length]? =some v;simp
def BA(b:Expr):Prop:= ∀o i,subscripted b false o i=operate [o,i] (getItem o i)
noncomputable def IxR(X:Cx)(r:R2):Prop :=
 ∀(value slice:Expr) (j4:List (Addr×Obj)) (s:J7) (σ:St) (H:Hp) (x y:V) (v u:Value) (Q:VK),Inv X j4 σ H s->aN x v->aN y u->r x y H Q->
   subscripted slice false v u=operate [v,u] (getItem v u)->wpAny (model X.prog X.w) X.A (subscriptTail value slice v u) (EP X j4 σ Q) X.xe s
noncomputable def MtR(X:Cx)(id:J8)(r:V->List V->Hp->VK->Prop):Prop :=
 ∀(j4:List (Addr×Obj)) (s:J7) (σ:St) (H:Hp) (x:V) (xs:List V) (v:Value) (us:List Value) (Q:VK),Inv X j4 σ H s->aN x v->aI xs us->r x xs H Q->
   wpAny (model X.prog X.w) X.A (call (.builtin id) (v::us)) (EP X j4 σ Q) X.xe s
section
variable{X:Cx}{a b:Expr}{ta tb:TE}{pos:Pos}
theorem IxR.or(h:IxR X r)(h':IxR X r'):IxR X (λx y H Q=>r x y H Q∨r' x y H Q):=by
 intro value slice j4 s σ H x y v u Q I rx ry q hs;rcases q with q|q
 . exact h value slice j4 s σ H x y v u Q I rx ry q hs
 . exact h' value slice j4 s σ H x y v u Q I rx ry q hs
theorem aI3(hr:IxR X r)(ha:PE X a ta)(hb:PE X b tb)(hs:BA b):PE X (.Subscript a b pos) (tOp r ta tb):=by
 intro j4 s σ H Q I h;exact Subscript_ (aGX ha hb I h λv u s2 x y H2 I2 rx ry q=>hr a b j4 s2 σ H2 x y v u Q I2 rx ry q (hs _ _))
def aJk(K:W.Frag):R2:=λx y H Q=>∃p xs i v,x= .ref p/\y= .int i/\SqL K H p xs/\atI xs i=some v/\Q v H
def aJ7(K:W.Frag):R2:=λx y H Q=>∃p xs i v,x= .ref p/\y= .int i/\SqT K H p xs/\atI xs i=some v/\Q v H
def aJS:R2:=λx y H Q=>∃z i c,x= .str z/\y= .int i/\z.length<=sizeLine/\atI z.cps.toList i=some c/\Q (.str ⟨#[c]⟩) H
theorem aBN:IxR X (aJk X.K):=by
 intro value slice j4 s σ H x y v u Q I rx ry h hs;obtain⟨p,xs,i,z,rfl,rfl,hq,he,q⟩:=h;cases rx;obtain⟨t,rfl⟩:=ry;obtain⟨its,r,pl,hz⟩:=I.list hq;obtain⟨j,h1,h2,h3,h4,h5⟩:=zF he;obtain⟨w,ew,rw'⟩:=r.get h2;have hl:=r.length;have hn:=oI;have fin:EP X j4 σ Q w s:=⟨z,H,I,rw',q⟩;by_cases h0:0<=i
 . have hj:i.toNat=j:=by
     rw[seqIndex_of h0 h5] at h1;exact Option.some.inj h1
   exact item_listR pl.isList h0 ooq (by rw[hj];simpa using ew) fin hs
 . have hj:(i+(its.toArray.size:Int)).toNat=j:=by
     rw[seqIndex_neg ooq h4] at h1;rw[wIq,<-hl];exact Option.some.inj h1
   exact subscriptTail_builtinR (x:=w) pl.isList.typeIs slot_list_getitem.lookup
     (wpAny_getItem_list_neg (Q:=λr s'=>r=w/\EP X j4 σ Q r s') pl.isList ooq (by rw[wIq]<;>omega) ooq (by rw[hj];simpa using ew) ⟨rfl,fin⟩) hs
theorem aE0:IxR X (aJ7 X.K):=by
 intro value slice j4 s σ H x y v u Q I rx ry h hs;obtain⟨p,xs,i,z,rfl,rfl,hq,he,q⟩:=h;cases rx;obtain⟨t,rfl⟩:=ry;obtain⟨its,r,pl,hz⟩:=I.tuple hq;obtain⟨j,h1,h2,h3,h4,h5⟩:=zF he;obtain⟨w,ew,rw'⟩:=r.get h2;have hl:=r.length;have hn:=oI;have fin:EP X j4 σ Q w s:=⟨z,H,I,rw',q⟩;exact subscriptTail_builtinR (x:=w) pl.typeIs slot_tuple_getitem.lookup
   (getItem_tuple (j:=j) (Q:=λr s'=>r=w/\EP X j4 σ Q r s') pl ooq ooq (by rw[wIq,<-hl];exact h1) (by simpa using ew) ⟨rfl,fin⟩) hs
theorem aFm:IxR X aJS:=by
 intro value slice j4 s σ H x y v u Q I rx ry h hs;obtain⟨z,i,c,rfl,rfl,hz,he,q⟩:=h;obtain⟨t,rfl⟩:=rx;obtain⟨t',rfl⟩:=ry;obtain⟨j,h1,h2,h3,h4,h5⟩:=zF he;have hl:z.cps.toList.length=z.length:=by simp[Str.length]
 rw[hl] at h1 h4 h5;have hn:=oI;exact tail_any (typeIs_str s z t) slot_str_getitem.lookup (getItem_str (c:=c) (by
   have e1:decide (i < -(2^63:Int))=false:=decide_eq_false ooq;have e2:decide (i≥2^63)=false:=decide_eq_false ooq;rw[e1,e2,Bool.or_false]) (by rw[h1];simpa using h2) ⟨.str ⟨#[c]⟩,H,I.tok _,⟨_,rfl⟩,q⟩) hs
def rIx(K:W.Frag):R2:=λx y H Q=>aJk K x y H Q∨aJ7 K x y H Q∨aJS x y H Q
theorem aEZ:IxR X (rIx X.K):=aBN.or (aE0.or aFm)
theorem IH(its:List Value)(n j:Nat)(u:Value):Obj.mapSeq (·.setIfInBounds j u) {cls:=.type "list",data:=.seq its.toArray n}={cls:=.type "list",data:=.seq (its.set j u).toArray n}:=by
 simp[Obj.mapSeq]
theorem Inv.lst{j4:List (Addr×Obj)}{σ:St}{H:Hp}{s:J7}{p:Addr}{xs:List V}(I:Inv X j4 σ H s)(h:H p=some (.lst xs)) :
   ∃(its:List Value) (n:Nat),aI xs its/\s.heap.get? p=some {cls:=.type "list",data:=.seq its.toArray n}/\xs.length<=sizeLine:=by
 obtain⟨z,its,n,r,e⟩:=I.hok p _ h;exact⟨its,n,r,e,z⟩
theorem Inv.lstUpd{j4:List (Addr×Obj)}{σ:St}{H:Hp}{s:J7}{p:Addr}{xs ys:List V}{its its':List Value}{n n':Nat}{f:Obj->Obj}(I:Inv X j4 σ H s)(h:H p=some (.lst xs))
   (ho:s.heap.get? p=some {cls:=.type "list",data:=.seq its.toArray n}) (hf:f {cls:=.type "list",data:=.seq its.toArray n}={cls:=.type "list",data:=.seq its'.toArray n'}) (r:aI ys its') (hz:ys.length<=sizeLine) (t:Nat) :
   Inv X j4 σ (upd H p (.lst ys)) {s with heap:=s.heap.update p f,toks:=t}:=by
 have e:(s.heap.update p f).get? p=some {cls:=.type "list",data:=.seq its'.toArray n'}:=by
   rw[Heap.get?_update_self f ho (by rw[hf]<;>rfl),hf]
 refine I.write (x:=p) (e:=p) (by rw[h];trivial) (.inl rfl) (λb u hb q=>(Heap.get?_update_other _ _ (Ne.symm hb)).trans q) ⟨_,e⟩ ?_;exact⟨hz,its',n',r,e⟩
noncomputable def aJo:V->V->V->Hp->(Hp->Prop)->Prop:=λo i v H Q=>∃p xs k j,o= .ref p/\i= .int k/\H p=some (.lst xs)/\ixN xs.length k=some j/\Q (upd H p (.lst (xs.set j v)))
theorem QZ:aGh X aJo:=by
 intro j4 s σ H o i v ov iv u Q I ro ri rv h;obtain⟨p,xs,k,j,rfl,rfl,hp,hj,q⟩:=h;cases ro;obtain⟨t,rfl⟩:=ri;obtain⟨its,n,r,ho,hz⟩:=I.lst hp;obtain⟨h1,h2,h3,h4⟩:=JX hj;have hl:=r.length;have hn:=oI;have I':Inv X j4 σ (upd H p (.lst (xs.set j v))) {s with heap:=s.heap.update p (Obj.mapSeq (·.setIfInBounds j u))} :=
   I.lstUpd hp ho (IH its n j u) (r.set rv j) (by rw[List.length_set];exact hz) s.toks
 by_cases h0:0<=k
 . have hk:k.toNat=j:=by
     rw[seqIndex_of h0 h4] at h1;exact Option.some.inj h1
   exact W.ki_setAt ho h0 ooq (by rw[wIq,<-hl];exact h4) (by rw[hk];exact⟨_,I',q⟩)
 . have hk:(k+(its.toArray.size:Int)).toNat=j:=by
     rw[seqIndex_neg ooq h3] at h1;rw[wIq,<-hl];exact Option.some.inj h1
   exact W.ki_setBack ho ooq (by rw[wIq,<-hl];exact h3) ooq (by rw[hk];exact⟨_,I',q⟩)
theorem AH(lo hi:Option Int)(n:Nat):(sliceBounds lo hi none n).1=((HT.sIx n 0 lo:Nat):Int)/\(sliceBounds lo hi none n).2.1=((HT.sIx n n hi:Nat):Int)/\(sliceBounds lo hi none n).2.2=1:=by
 refine⟨?_,?_,rfl⟩
 . cases lo with
   | none=>simp[sliceBounds,HT.sIx]
   | some i =>
     simp only[sliceBounds,HT.sIx,Option.getD_none,show(1:Int)>0 by decide,if_true];by_cases h:i<0
     . simp only[h,if_true]<;>omega
     . simp only[h,if_false]<;>omega
 . cases hi with
   | none=>simp[sliceBounds,HT.sIx]
   | some i =>
     simp only[sliceBounds,HT.sIx,Option.getD_none,show(1:Int)>0 by decide,if_true];by_cases h:i<0
     . simp only[h,if_true]<;>omega
     . simp only[h,if_false]<;>omega
theorem xM(its:List Value)(lo hi:Option Int):slicePick its.toArray lo hi none=((its.drop (HT.sIx its.length 0 lo)).take (HT.sIx its.length its.length hi-HT.sIx its.length 0 lo)).toArray:=by
 obtain⟨h1,h2,h3⟩:=AH lo hi its.toArray.size;unfold slicePick;rw[h1,h2,h3];simp only[sliceRange_one,pick_run,wIq]<;>rfl
noncomputable def aK9(K:W.Frag):V->Option Int->Option Int->Hp->VK->Prop:=λx lo hi H Q=>∃a xs,x= .ref a/\SqL K H a xs/\∀p,H p=none->Q (.ref p) (upd H p (.lst (DV xs lo hi)))
theorem aBp:SlR X (aK9 X.K):=by
 intro j4 s σ H x v vl vu lo hi sl Q I rx hs pl pu h;obtain⟨a,xs,rfl,hx,q⟩:=h;cases rx;obtain⟨its,r,ht,hz⟩:=I.list hx;have hlen:=r.length;refine⟨"list",_,slot_list_getitem.lookup,ht.isList.typeIs,?_⟩;refine wpAny_getItem_list_slice ht.isList hs pl pu .none (by simp) ?_ (by rw[wIq]<;>omega);rw[xM,<-hlen];refine⟨.ref s.heap.objs.size,_,I.laid (t':=s.toks) (o:=.lst (DV xs lo hi)) (λb ob q=>wEq _ q) (Nat.le_refl _) ?_,rfl,q _ (I.hok.fresh (Nat.le_refl _))⟩;exact⟨Nat.le_trans (sM xs lo hi) hz,_,0,(r.drop (HT.sIx xs.length 0 lo)).take (HT.sIx xs.length xs.length hi-HT.sIx xs.length 0 lo),wGq _ rfl⟩
noncomputable def nC:V->Bool
 | .non=>true
 | .bl _=>true
 | .int _=>true
 | .str _=>true
 | _=>false
noncomputable def eqV:V->V->Bool
 | .non,.non=>true
 | .bl a,.bl b=>a==b
 | .bl a,.int b=>(if a then 1 else 0)==b
 | .int a,.bl b=>a==(if b then 1 else 0)
 | .int a,.int b=>a==b
 | .str a,.str b=>a==b
 | _,_=>false
theorem aHb(ry:aN y u)(rx:aN x v)(fy:nC y=true)(fx:nC x=true):SeqAt.EqAt A s u v (eqV y x):=by
 cases y with
 | non =>
   cases ry;cases x with
   | non=>cases rx;exact SeqAt.EqAt.same _
   | bl b=>cases rx;exact SeqAt.EqAt.none_bool b
   | int b=>obtain⟨t,rfl⟩:=rx;exact SeqAt.EqAt.none_int b t
   | str b=>obtain⟨t,rfl⟩:=rx;exact SeqAt.EqAt.none_str b t
   | _=>exact absurd (show false=true from fx) Bool.false_ne_true
 | bl a =>
   cases ry;cases x with
   | non=>cases rx;exact SeqAt.EqAt.bool_none a
   | bl b=>cases rx;exact SeqAt.EqAt.bool_bool a b
   | int b=>obtain⟨t,rfl⟩:=rx;exact SeqAt.EqAt.bool_int a b t
   | str b=>obtain⟨t,rfl⟩:=rx;exact SeqAt.EqAt.bool_str a b t
   | _=>exact absurd (show false=true from fx) Bool.false_ne_true
 | int a =>
   obtain⟨t',rfl⟩:=ry;cases x with
   | non=>cases rx;exact SeqAt.EqAt.int_none a t'
   | bl b=>cases rx;exact SeqAt.EqAt.int_bool a t' b
   | int b=>obtain⟨t,rfl⟩:=rx;exact SeqAt.EqAt.int_int a t' b t
   | str b=>obtain⟨t,rfl⟩:=rx;exact SeqAt.EqAt.int_str a t' b t
   | _=>exact absurd (show false=true from fx) Bool.false_ne_true
 | str a =>
   obtain⟨t',rfl⟩:=ry;cases x with
   | non=>cases rx;exact SeqAt.EqAt.str_none a t'
   | bl b=>cases rx;exact SeqAt.EqAt.str_bool a t' b
   | int b=>obtain⟨t,rfl⟩:=rx;exact SeqAt.EqAt.str_int a t' b t
   | str b=>obtain⟨t,rfl⟩:=rx;exact SeqAt.EqAt.str_str a t' b t
   | _=>exact absurd (show false=true from fx) Bool.false_ne_true
 | _=>exact absurd (show false=true from fy) Bool.false_ne_true
noncomputable def eqU(x:V)(u:Value):Bool:=match u with
 | .none=>eqV .non x
 | .bool b=>eqV (.bl b) x
 | .int i _=>eqV (.int i) x
 | .str z _=>eqV (.str z) x
 | _=>false
theorem UQ(r:aN y u)(f:nC y=true):eqU x u=eqV y x:=by
 cases y with
 | non=>cases r;rfl
 | bl b=>cases r;rfl
 | int i=>obtain⟨t,rfl⟩:=r;rfl
 | str z=>obtain⟨t,rfl⟩:=r;rfl
 | _=>exact absurd (show false=true from f) Bool.false_ne_true
theorem rD:∀{xs:List V} {us:List Value},aI xs us->xs.all nC=true->us.any (eqU x)=xs.any λy=>eqV y x
 | _,_,.nil,_=>rfl
 | y::xs,u::us,.cons r t,f=>by
   rw[List.all_cons,Bool.and_eq_true] at f;rw[List.any_cons,List.any_cons,UQ r f.1,rD t f.2]
theorem lM(rx:aN x v)(fx:nC x=true):∀{xs:List V} {us:List Value},aI xs us->xs.all nC=true->∀u∈us,SeqAt.EqAt A s u v (eqU x u)
 | _,_,.nil,_=>λu hu=>by cases hu
 | y::xs,u::us,.cons r t,f=>λu' hu=>by
   rw[List.all_cons,Bool.and_eq_true] at f;rcases List.mem_cons.mp hu with rfl|hu
   . rw[UQ r f.1];exact aHb r rx f.1 fx
   . exact lM rx fx t f.2 u' hu
noncomputable def inV(x:V)(xs:List V):Bool:=xs.any λy=>eqV y x
def rIn(K:W.Frag)(neg:Bool):R2:=λx y H Q=>∃p xs,y= .ref p/\(SqL K H p xs∨SqT K H p xs)/\nC x=true/\xs.all nC=true/\Q (.bl (if neg then !inV x xs else inV x xs)) H
theorem NI:OpR X (compareOp .In) (rIn X.K false):=by
 intro j4 s σ H x y v u Q I rx ry h;obtain⟨p,xs,rfl,hq,fx,fs,q⟩:=h;cases ry;rcases hq with hq|hq
 . obtain⟨its,r,pl,hz⟩:=I.list hq;refine SeqAt.in_listAt (eqU x) pl.isList (λw hw=>lM rx fx r fs w (by simpa using hw)) ⟨.bl _,H,I,rfl,?_⟩;rw[show its.toArray.any (eqU x)=its.any (eqU x) by simp,rD r fs];exact q
 . obtain⟨its,r,pl,hz⟩:=I.tuple hq;refine SeqAt.in_tupleAt (eqU x) pl (λw hw=>lM rx fx r fs w (by simpa using hw)) ⟨.bl _,H,I,rfl,?_⟩;rw[show its.toArray.any (eqU x)=its.any (eqU x) by simp,rD r fs];exact q
theorem AR:OpR X (compareOp .NotIn) (rIn X.K true):=by
 intro j4 s σ H x y v u Q I rx ry h;obtain⟨p,xs,rfl,hq,fx,fs,q⟩:=h;cases ry;rcases hq with hq|hq
 . obtain⟨its,r,pl,hz⟩:=I.list hq;refine SeqAt.notIn_listAt (eqU x) pl.isList (λw hw=>lM rx fx r fs w (by simpa using hw)) ⟨.bl _,H,I,rfl,?_⟩;rw[show its.toArray.any (eqU x)=its.any (eqU x) by simp,rD r fs];exact q
 . obtain⟨its,r,pl,hz⟩:=I.tuple hq;refine SeqAt.notIn_tupleAt (eqU x) pl (λw hw=>lM rx fx r fs w (by simpa using hw)) ⟨.bl _,H,I,rfl,?_⟩;rw[show its.toArray.any (eqU x)=its.any (eqU x) by simp,rD r fs];exact q
theorem BN:bC X (.builtin "len") (λxs H Q=>∃p ys,xs=[.ref p]/\(SqL X.K H p ys∨SqT X.K H p ys)/\Q (.int ys.length) H):=by
 intro j4 s σ H xs us Q I r h;obtain⟨p,ys,rfl,hq,q⟩:=h;obtain⟨u,rfl,rx⟩:=fS r;cases rx;have hn:=oI;rcases hq with hq|hq
 . obtain⟨its,r',pl,hz⟩:=I.list hq;have hlen:=r'.length;exact Calls.call_len_list pl.isList (by simp only[wIq]<;>omega) ⟨.int ys.length,H,I.tok _,⟨s.toks+1,by rw[wIq,hlen]⟩,q⟩
 . obtain⟨its,r',pl,hz⟩:=I.tuple hq;have hlen:=r'.length;exact len_tuple pl (by simp only[wIq]<;>omega) ⟨.int ys.length,H,I.tok _,⟨s.toks+1,by rw[wIq,hlen]⟩,q⟩
theorem zI:bC X (.builtin "len") (λxs H Q=>∃z,xs=[.str z]/\z.length<=sizeLine/\Q (.int z.length) H):=by
 intro j4 s σ H xs us Q I r h;obtain⟨z,rfl,hz,q⟩:=h;obtain⟨u,rfl,t,rfl⟩:=fS r;have hn:=oI;exact len_str ooq ⟨.int z.length,H,I.tok _,⟨_,rfl⟩,q⟩
theorem bC.or(h:bC X f r)(h':bC X f r'):bC X f (λxs H Q=>r xs H Q∨r' xs H Q):=by
 intro j4 s σ H xs us Q I rs q;rcases q with q|q
 . exact h j4 s σ H xs us Q I rs q
 . exact h' j4 s σ H xs us Q I rs q
theorem yY:bC X (.type "list") (λxs H Q=>∃p ys,xs=[.ref p]/\(SqL X.K H p ys∨SqT X.K H p ys)/\∀l,H l=none->Q (.ref l) (upd H l (.lst ys))):=by
 intro j4 s σ H xs us Q I r h;obtain⟨p,ys,rfl,hq,q⟩:=h;obtain⟨u,rfl,rx⟩:=fS r;cases rx;have fin:∀(its:List Value),aI ys its->ys.length<=sizeLine->∀(h':Heap) (c':Nat),(∀b o',s.heap.get? b=some o'->h'.get? b=some o')->
     h'.get? s.heap.objs.size=some {cls:=.type "list",dict:=none,data:=.seq its.toArray c',slots:= #[]}->EP X j4 σ Q (.ref s.heap.objs.size) {s with heap:=h'}:=λits r' hz h' c' kp e =>
   ⟨.ref s.heap.objs.size,_,I.laid (t':=s.toks) kp (Nat.le_refl _) (show cC X.prog X.w _ h' _ (.lst ys) from⟨hz,its,c',r',e⟩),rfl,q _ (I.hok.fresh (Nat.le_refl _))⟩
 rcases hq with hq|hq
 . obtain⟨its,r',pl,hz⟩:=I.list hq;have hlen:=r'.length;obtain⟨o,ho,hc,n,hd⟩:=pl.isList;exact call_list_seq p (.inl rfl) ho hc hd (λh' c' kp e=>fin its r' hz h' c' kp e) (by simp only[wIq]<;>omega)
 . obtain⟨its,r',pl,hz⟩:=I.tuple hq;have hlen:=r'.length;obtain⟨o,ho,hc,n,hd⟩:=pl;exact call_list_seq p (.inr rfl) ho hc hd (λh' c' kp e=>fin its r' hz h' c' kp e) (by simp only[wIq]<;>omega)
theorem wY:bC X (.type "tuple") (λxs H Q=>∃p ys,xs=[.ref p]/\((SqL X.K H p ys/\∀l,H l=none->Q (.ref l) (upd H l (.tup ys)))∨(SqT X.K H p ys/\Q (.ref p) H))):=by
 intro j4 s σ H xs us Q I r h;obtain⟨p,ys,rfl,h⟩:=h;obtain⟨u,rfl,rx⟩:=fS r;cases rx;rcases h with ⟨hq,q⟩|⟨hq,q⟩
 . obtain⟨its,r',pl,hz⟩:=I.list hq;have hlen:=r'.length;refine call_tuple_list pl.isList (λh' kp=>?_) (by simp only[wIq]<;>omega);have I1:Inv X j4 σ H {s with heap:=h'}:=I.kept (t':=s.toks) kp;have I2:Inv X j4 σ (upd H h'.objs.size (.tup ys)) {s with heap:=h'.push {cls:=.type "tuple",data:=.seq its.toArray}} :=
     I1.laid (t':=s.toks) (λb o e=>wEq _ e) (Nat.le_refl _) (show cC X.prog X.w _ _ _ (.tup ys) from⟨hz,its,r',fP.new _ _⟩)
   exact⟨.ref h'.objs.size,_,I2,rfl,q _ (I1.hok.fresh (Nat.le_refl _))⟩
 . obtain⟨its,r',pl,hz⟩:=I.tuple hq;exact call_tuple_same pl ⟨.ref p,H,I,rfl,q⟩
def tyV(K:W.Frag)(T:J8)(x:V)(H:Hp):Prop:=match x with
 | .str _=>T="str"
 | .int _=>T="int"
 | .ref p=>(T="list"/\∃xs,SqL K H p xs)∨(T="tuple"/\∃o,K.lookup p=some o/\o.cls= .type "tuple"/\o.dict=none)∨
     (T="dict"/\((∃kvs,H p=some (.dK kvs))∨∃kvs,H p=some (.dT kvs)))∨(T="set"/\∃S n,H p=some (.set S n))
 | _=>False
theorem ST{j4:List (Addr×Obj)}{σ:St}{s:J7}{T:J8}(I:Inv X j4 σ H s)(r:aN x v)(ty:tyV X.K T x H) :
   s.TypeIs v T/\∀a,v= .ref a->∃ob,s.heap.get? a=some ob/\ob.dict=none:=by
 cases x with
 | str z =>
   obtain⟨t,rfl⟩:=r;cases(show T="str" from ty);exact⟨typeIs_str s z t,λ_ e=>nomatch e⟩
 | int i =>
   obtain⟨t,rfl⟩:=r;cases(show T="int" from ty);exact⟨typeIs_int s i t,λ_ e=>nomatch e⟩
 | ref p =>
   cases r;rcases ty with ⟨rfl,xs,hq⟩|⟨rfl,o,hk,hc,hd⟩|⟨rfl,hk⟩|⟨rfl,S,n,hk⟩
   . obtain⟨its,_,pl,_⟩:=I.list hq;refine⟨pl.isList.typeIs,λa e=>?_⟩;cases e;obtain⟨o,n,e,c,hd,_⟩:=pl;exact⟨o,e,hd⟩
   . refine⟨⟨o,I.kIn p o hk,hc⟩,λa e=>?_⟩;cases e;exact⟨o,I.kIn _ o hk,hd⟩
   . have z:∃o,s.heap.get? p=some o/\o.ExactDict:=by
       rcases hk with ⟨kvs,hk⟩|⟨kvs,hk⟩
       . obtain⟨_,_,_,_,o,_,_,e,ex,_⟩:=I.hok p _ hk;exact⟨o,e,ex⟩
       . obtain⟨_,_,_,_,o,_,_,e,ex,_⟩:=I.hok p _ hk;exact⟨o,e,ex⟩
     obtain⟨o,e,ex⟩:=z;refine⟨⟨o,e,ex.1⟩,λa e2=>?_⟩;cases e2;exact⟨o,e,ex.2.1⟩
   . obtain⟨o,_,_,_,e,ex,_⟩:=I.hok p _ hk;refine⟨⟨o,e,ex.1⟩,λa e2=>?_⟩;cases e2;exact⟨o,e,ex.2.1⟩
 | _=>exact False.elim ty
def aL1(K:W.Frag)(T:J8)(r:V->List V->Hp->VK->Prop)(to:TE):TE:=λσ H Q=>to σ H λx H1=>tyV K T x H1/\r x [] H1 Q
def tBM(K:W.Frag)(T:J8)(r:V->List V->Hp->VK->Prop)(to:TE)(t:TA):TE:=λσ H Q=>to σ H λx H1=>tyV K T x H1/\t σ H1 λxs H2=>r x xs H2 Q
variable{o e:Expr}{es:List Expr}{to:TE}{t:TA}{name:Str}{j6 cpos:Pos}{T id:J8}{r:V->List V->Hp->VK->Prop}
theorem IN(pa:PlainAttrs T)(slot:Slot T name id)(hty:typeOf (.builtin id)=pure (.type "method_descriptor"))(hm:MtR X id r)(ho:PE X o to)
   (hbase:attributeBase o name X.env (eval o X.env)=eval o X.env:=by rfl) (hline:(j6.endLine==cpos.line)=true:=by rfl):PE X (.Call (.Attribute o name j6) [] [] cpos) (aL1 X.K T r to):=by
 intro j4 s σ H Q I h;refine wpAny_Call_method0_late hbase hline (thn (ho j4 s σ H _ I h) λv s1 zz=>?_);obtain⟨x,H1,I1,r1,ty,q1⟩:=zz;obtain⟨h1,h2⟩:=ST I1 r1 ty;exact⟨T,id,pa,slot,hty,h1,h2,Calls.callWith_builtin rfl (PySem.evalArgs_none (hm j4 s1 σ H1 x [] v [] Q I1 r1 .nil q1))⟩
theorem aCP(pa:PlainAttrs T)(slot:Slot T name id)(hty:typeOf (.builtin id)=pure (.type "method_descriptor"))(hm:MtR X id r)(ho:PE X o to)(ha:PA X (e::es) t)
   (hbase:attributeBase o name X.env (eval o X.env)=eval o X.env:=by rfl)
   (hfew:((backTo cpos (starEach (e::es) X.env)).all (λx=> !x.1)&&(backToKw cpos (keywordEach [] X.env)).all (λx=>x.1.isSome)
     && decide ((e::es).length+([]:List Keyword).length+(if ([]:List Keyword).isEmpty then 0 else 1)<30))=true:=by rfl)
   (hline:(j6.endLine==cpos.line)=true:=by rfl) (hs:starEach (e::es) X.env=(false,eval e X.env)::starEach es X.env:=by rfl) (hplain:(backTo cpos (starEach es X.env)).any (·.1)=false:=by rfl) :
   PE X (.Call (.Attribute o name j6) (e::es) [] cpos) (tBM X.K T r to t):=by
 intro j4 s σ H Q I h;refine wpAny_Call_method_late hbase hfew hline rfl (thn (ho j4 s σ H _ I h) λv s1 zz=>?_);obtain⟨x,H1,I1,r1,ty,q1⟩:=zz;obtain⟨h1,h2⟩:=ST I1 r1 ty;refine⟨T,id,pa,slot,hty,h1,h2,?_⟩;have hA:=ha cpos j4 s1 σ H1 _ I1 q1;rw[hs] at hA ⊢;refine Calls.callWith_builtin (by show(false||(backTo cpos (starEach es X.env)).any (·.1))=false;rw[hplain]<;>rfl) (Calls.evalArgs_plain ?_);exact thn hA<|by rintro us s2 ⟨vs,H2,I2,r2,q2⟩;exact hm j4 s2 σ H2 x vs v us Q I2 r1 r2 q2
end
noncomputable def MtM(X:Cx)(id:J8)(r:V->List V->Hp->VK->Prop):Prop :=
 ∀(j4:List (Addr×Obj)) (s:J7) (σ:St) (H:Hp) (x:V) (xs:List V) (v:Value) (us:List Value) (Q:VK),Inv X j4 σ H s->aN x v->aI xs us->r x xs H Q->
   wpAny (model X.prog X.w) X.A (call (.builtin id) (v::us)) (EP X j4 σ Q) X.xe s
theorem aI.one:∀{x:V} {us:List Value},aI [x] us->∃u,us=[u]/\aN x u
 | _,_,.cons r .nil=>⟨_,rfl,r⟩
theorem aI.zero:∀{us:List Value},aI [] us->us=[]
 | _,.nil=>rfl
theorem aI.dropLast(h:aI xs us):aI xs.dropLast us.dropLast:=by
 induction h with
 | nil=>exact .nil
 | cons r t ih =>
   cases t with
   | nil=>exact .nil
   | cons q t'=>exact .cons r ih
theorem aI.reverse(h:aI xs us):aI xs.reverse us.reverse:=by
 induction h with
 | nil=>exact .nil
 | cons r t ih=>rw[List.reverse_cons,List.reverse_cons];exact aI.append ih (.cons r .nil)
theorem HD{α:Type}(l:List α):l.eraseIdx (l.length-1)=l.dropLast:=by
 induction l with
 | nil=>rfl
 | cons a r ih =>
   cases r with
   | nil=>rfl
   | cons b r =>
     have e:(a::b::r).length-1=((b::r).length-1)+1:=by
       have h1:(a::b::r).length=r.length+2:=rfl;have h2:(b::r).length=r.length+1:=rfl;omega
     rw[e,List.eraseIdx_cons_succ,ih];all_goals rfl
section
variable{X:Cx}{j4:List (Addr×Obj)}{σ:St}{H:Hp}{s:J7}{l b:Addr}{xs ys zs:List V}
theorem Inv.lset{its its':List Value}(I:Inv X j4 σ H s)(hH:H l=some (.lst xs))
   (e:s.heap.get? l=some {cls:=.type "list",data:=.seq its.toArray n}) (hf:f its.toArray=its'.toArray) (hv:aI ys its') (hz:ys.length<=sizeLine) :
   Inv X j4 σ (upd H l (.lst ys)) {s with heap:=s.heap.update l (Obj.mapSeq f),toks:=t'}:=by
 have q:=PySem.IsL.update e f;rw[hf] at q;refine I.write (x:=l) (e:=l) (by rw[hH];exact trivial) (.inl rfl) (λb' u hb hu=>(Heap.get?_update_other s.heap (Obj.mapSeq f) (Ne.symm hb)).trans hu) ⟨_,q⟩ ?_;exact⟨hz,its',_,hv,q⟩
theorem Inv.lnew(I:Inv X j4 σ H s)(hv:aI ys its)(hz:ys.length<=sizeLine) :
   Inv X j4 σ (upd H s.heap.objs.size (.lst ys)) {s with heap:=s.heap.push {cls:=.type "list",data:=.seq its.toArray},toks:=t'} :=
 I.laid (λ_ _ q=>wEq _ q) (Nat.le_refl _) ⟨hz,its,0,hv,wGq _ rfl⟩
theorem Inv.fresh(I:Inv X j4 σ H s):H s.heap.objs.size=none:=I.hok.fresh (Nat.le_refl _)
theorem Inv.lstM(I:Inv X j4 σ H s)(hH:H l=some (.lst xs)):xs.length<=sizeLine/\∃(its:List Value) (n:Nat),aI xs its/\xs.length=its.length/\s.heap.get? l=some {cls:=.type "list",data:=.seq its.toArray n}:=by
 obtain⟨z,its,n,r,e⟩:=I.hok l _ hH;exact⟨z,its,n,r,r.length,e⟩
end
section
variable{X:Cx}
noncomputable def aCc:V->List V->Hp->VK->Prop:=λx vs H Q=>∃l xs y,x= .ref l/\vs=[y]/\H l=some (.lst xs)/\xs.length<sizeLine/\Q .non (upd H l (.lst (xs++[y])))
theorem xZ:MtM X "list.append" aCc:=by
 intro j4 s σ H x vs v us Q I rx rv h;obtain⟨l,xs,y,rfl,rfl,hH,hz,q⟩:=h;cases rx;obtain⟨u,rfl,ru⟩:=rv.one;obtain⟨z,its,n,r,hl,e⟩:=I.lstM hH;refine call_meets F.slot_list_append ⟨_,e,rfl⟩ F.entry_list_append (F.args_list_append_2 _ _) (PySem.list_append l its.toArray n u (by rw[wIq];omega)) ⟨e,?_⟩;refine⟨.non,_,I.lset (its':=its++[u]) hH e (by simp) (r.append (.cons ru .nil)) ?_,rfl,q⟩;rw[List.length_append,List.length_singleton];omega
noncomputable def aLB:V->List V->Hp->VK->Prop:=λx vs H Q=>∃l xs y,x= .ref l/\vs=[]/\H l=some (.lst xs)/\xs[xs.length-1]? =some y/\Q y (upd H l (.lst xs.dropLast))
theorem aFJ:MtM X "list.pop" aLB:=by
 intro j4 s σ H x vs v us Q I rx rv h;obtain⟨l,xs,y,rfl,rfl,hH,hy,q⟩:=h;cases rx;have hus:=rv.zero;subst hus;obtain⟨z,its,n,r,hl,e⟩:=I.lstM hH;obtain⟨u,hu,ru⟩:=r.get hy;have hy':its.toArray[its.toArray.size-1]? =some u:=by
   show its.toArray[its.length-1]? =some u;rw[<-Array.getElem?_toList,<-hl];exact hu
 refine call_meets F.slot_list_pop ⟨_,e,rfl⟩ F.entry_list_pop (F.args_list_pop_1 _) (MeetsSeq.list_pop_last l its.toArray n u hy' (by rw[wIq];omega)) ⟨e,?_⟩;refine⟨y,_,I.lset (its':=its.dropLast) hH e ?_ r.dropLast ?_,ru,q⟩
 . show its.toArray.eraseIdxIfInBounds (its.toArray.size-1)=its.dropLast.toArray;rw[wIq,List.eraseIdxIfInBounds_toArray,HD]
 . rw[List.length_dropLast];omega
noncomputable def TB:V->List V->Hp->VK->Prop:=λx vs H Q=>∃l xs,x= .ref l/\vs=[]/\H l=some (.lst xs)/\Q .non (upd H l (.lst xs.reverse))
theorem JL:MtM X "list.reverse" TB:=by
 intro j4 s σ H x vs v us Q I rx rv h;obtain⟨l,xs,rfl,rfl,hH,q⟩:=h;cases rx;have hus:=rv.zero;subst hus;obtain⟨z,its,n,r,hl,e⟩:=I.lstM hH;refine call_meets F.slot_list_reverse ⟨_,e,rfl⟩ F.entry_list_reverse (F.args_list_reverse_1 _) (AutoSeq1.list_reverse_list_0 l its.toArray n (by rw[wIq];omega)) ⟨e,?_⟩;refine⟨.non,_,I.lset (its':=its.reverse) hH e (by simp) r.reverse ?_,rfl,q⟩;rw[List.length_reverse];omega
def aI0:R2:=λx y H Q=>∃l b xs zs,x= .ref l/\y= .ref b/\H l=some (.lst xs)/\H b=some (.lst zs)/\xs.length+zs.length<=sizeLine/\∀p,H p=none->Q (.ref p) (upd H p (.lst (xs++zs)))
theorem WY:OpR X (binaryOp .Add) aI0:=by
 intro j4 s σ H x y v u Q I rx ry h;obtain⟨l,b,xs,zs,rfl,rfl,hH,hB,hz,q⟩:=h;cases rx;cases ry;obtain⟨z,its,n,r,hl,e⟩:=I.lstM hH;obtain⟨z2,its2,n2,r2,hl2,e2⟩:=I.lstM hB;refine PySem.P.add_list e e2 ?_ (by rw[wIq,wIq];omega);have ea:its.toArray++its2.toArray=(its++its2).toArray:=by simp
 rw[ea];exact⟨.ref _,_,I.lnew (t':=s.toks) (r.append r2) (by rw[List.length_append];omega),rfl,q _ I.fresh⟩
end
section
variable{prog:J9}{w:World}{A:Around}{E:Value->J7->Prop}{s:J7}
end
section
variable{X:Cx}
end
end L2
namespace Att
open PySem PySem.W PySem.Calls PyProof.Rows
theorem tR:∀(ns:List Int) (vs:List Value),WellAll P h vs (ns.map WData.int)->IntsAre vs ns:=by
 intro ns;induction ns with
 | nil =>
   intro vs w;rw[List.map_nil] at w;cases w;exact .nil
 | cons n ns ih =>
   intro vs w;rw[List.map_cons] at w;cases w with
   | cons a b =>
     cases a;exact .cons _ _ (ih _ b)
theorem ND{l:OpenLaw}(hn:l.most=some n){h:Heap}
   (hpre:l.row.toRowW.claim.pre args=true) (hwl:WellAll P h vals args) :
   ∃a vs ns,vals=[Value.ref a]/\args=[WData.list (ns.map WData.int)]/\h.get? a=some {cls:=.type "list",data:=.seq vs.toArray}/\IntsAre vs ns/\ns.length<=n:=by
 have hsh:WShape.hasAll [] args [.list .int]=true:=(pre_splitW hpre).1;have hc:l.pre.holds [] {args:=args}=true:=(pre_splitW hpre).2;obtain⟨d,r,rfl,h1,h2⟩:=hasAllW_cons hsh;obtain rfl:=hasAllW_nil h2;obtain⟨xs,rfl,h3⟩:=hasW_list h1;obtain⟨ns,rfl⟩:=items_int h3;have hlen:ns.length<=n:=by
   unfold OpenLaw.pre at hc;have h4:(WTm.not (.lt (.lit (.int (n:Int))) (.len (.arg 0)))).holds [] {args:=[.list (ns.map .int)]}=true:=by
     have h4:=(holds_andW hc).1;rw[hn] at h4;exact h4
   have h5:=condW_of h4 (w_not (w_lt w_lit (w_len_list (w_arg rfl))));rw[List.length_map] at h5;refine Nat.le_of_not_lt λq=>?_;have q':(n:Int)<((ns.length:Nat):Int):=by omega
   first
     | (rw[decide_eq_true q'] at h5;exact absurd h5 ddq)
     | (simp at h5;omega)
 cases hwl with
 | cons w1 w2 =>
   cases w2;cases w1 with
   | list ho hall=>exact⟨_,_,ns,rfl,rfl,ho,tR ns _ hall,hlen⟩
theorem NL(l:OpenLaw)(args:List WData):l.row.toRowW.claim.post args (.bool true) args=true :=
 postW_of (r:=l.row.toRowW) (X:=(true==true))
   (show WShape.has [] (.bool true) .bool=true by first|rfl|decide|simp[WShape.has,WShape.arms,WShape.armsAll])
   (show(WTm.eq .res (.lit (.bool true))).value [] {args:=args,res:=some (.bool true),after:=args}=some (.bool (true==true)) from w_eq_bool (w_res rfl) w_lit) rfl
theorem FD{l:OpenLaw}{d:DefRec}
   (hn:l.most=some n) (hdf:d.params.defaults=[])
   (call:∀(w:World) (s₀ s₁:J7) (mg mb:Str->Option Value) (fa:Addr) (o:Obj) (pm cd doc:Value) (a:Addr) (vs:List Value) (ns:List Int),
     Ground q loose [] XP w s₀ mg mb s₁.heap->YP w s₁.heap->
     s₁.heap.get? fa=some o->o.data= .func (docDef d.name d.params d.body d.scope pm cd doc)->s₁.heap.CodeRec cd d.name->mg d.name=some (.ref fa)->
     s₁.heap.get? a=some {cls:=.type "list",data:=.seq vs.toArray}->IntsAre vs ns->ns.length<=n->s₁.gens= #[]->
     codeAny (model l.prog w) callerA (.call (.ref fa) ⟨[.ref a],[]⟩) (λr s'=>r= .ok (.ret (.bool true))/\OldK s₁.heap s'.heap/\s'.os=s₁.os/\AllBare s'.gens) s₁) :
   WalkO q loose XP YP l.row.toRowW d [] (λf vs=>PySem.call f vs):=by
 intro w s₀ s₁ mg mb G Y fa o pm cd doc dV kV ho hd hcd hD hmg hg args vals as hpre hlay hrd hwl hlo;obtain rfl:dV= .none:=Dflts.none hD hdf;obtain rfl:kV= .none:=Dflts.noKw hD;obtain⟨a,vs,ns,rfl,rfl,hobj,hints,hlen⟩:=ND hn hpre hwl;refine enter_call (codeAny_mono (call w s₀ s₁ mg mb fa o pm cd doc a vs ns G Y ho (fd_plain hd) hcd hmg hobj hints hlen hg) λr s' hq=>?_);obtain⟨rfl,h2,h3,h4⟩:=hq;exact⟨.inl ⟨.bool true,.bool true,[],rfl,λ_=>rfl,.bool true,NL l _,λ_=>⟨List.Pairwise.nil,λ_ hm=>(nomatch hm)⟩⟩,h2,h3,h4⟩
section
variable{prog:J9}{w:World}{A:Around}{E:Value->J7->Prop}{s:J7}{K:Frag}
end
end Att
namespace L2
open PySem PySem.Spec PyProof.Rows
theorem yS:∀{vs:List Value} {ns:List Int},IntsAre vs ns->aI (ns.map V.int) vs
 | _,_,.nil=>.nil
 | _,_,.cons n t h=>.cons ⟨t,rfl⟩ (yS h)
def VV(H:Hp):Prop:= ∀b,H b=none∨∃o xs,H b=some (.frz o (.lst xs))
theorem UO{K:W.Frag}{s₁:J7}{vs:List Value}{ns:List Int}
   (KX:K.In s₁.heap) (hns:s₁.heap.Ns mainGlobals mg) (hb:s₁.heap.Ns builtinsNs mb) (hbb:∀x:Str,x≠"__name__"->mb x=bootBuiltins x) (hlim:s₁.heap.NoLimit) (hg:s₁.gens= #[])
   (ha:s₁.heap.get? a=some {cls:=.type "list",data:=.seq vs.toArray}) (hi:IntsAre vs ns) (hl:ns.length<=sizeLine) (hr:aR k callerA)
   (F:∀base:Heap,K.In base->base.Ns mainGlobals mg->aW P w K mg base CX k fa fd [x] sp) (hbind:∀(s:J7) (u:Value),BindsTo s fd ⟨[u],[]⟩ [(x,u)])
   (hsp:∀H:Hp,VV H->SqL K H a (ns.map V.int)->sp [.ref a] H (λv _=>v= .bl true) λ_ _ _=>False)
   (hCX:∀H e s',CX [] H s₁ (λ_ _ _=>False) e s'->False) :
   codeAny (model P w) callerA (.call (.ref fa) ⟨[.ref a],[]⟩) (λr s'=>r= .ok (.ret (.bool true))/\OldK s₁.heap s'.heap/\s'.os=s₁.os/\AllBare s'.gens) s₁:=by
 have rv:=yS hi;have lenV:=hi.length;have core :∀H:Hp,VV H->SqL K H a (ns.map V.int)->HOk P w H s₁.heap->(∀b,H b≠none->b=a)->(H a≠none->K.lookup a=none)->
     codeAny (model P w) callerA (.call (.ref fa) ⟨[.ref a],[]⟩) (λr s'=>r= .ok (.ret (.bool true))/\OldK s₁.heap s'.heap/\s'.os=s₁.os/\AllBare s'.gens) s₁:=by
   intro H hO hS hok hA hK;have base_of:∀{b:Addr} {o:Obj},s₁.heap.get? b=some o->H b=none->(AC s₁.heap H).get? b=some o:=λe n=>WI e n;have noA:∀{b:Addr} {o:Obj} {es:Array DictEntry} {ep:Nat},s₁.heap.get? b=some o->o.data= .dict es ep->H b=none:=λ{b o es ep} e d=>by
     cases q:H b with
     | none=>rfl
     | some u =>
       have e':b=a:=hA b (by rw[q];simp);subst e';rw[ha] at e;cases e;have d':Data.seq vs.toArray _=Data.dict es ep:=d;cases d'
   have nsK:∀{b:Addr} {m:Str->Option Value},s₁.heap.Ns b m->(AC s₁.heap H).Ns b m:=λ{b m} ⟨o,es,ep,e,d,r⟩=>⟨o,es,ep,base_of e (noA e d),d,r⟩;have hKb:K.In (AC s₁.heap H):=λb o e=>base_of (KX b o e) (by
     cases q:H b with
     | none=>rfl
     | some u =>
       have e':b=a:=hA b (by rw[q];simp);subst e';rw[hK (by rw[q];simp)] at e;cases e)
   have hM:Mod K mg (AC s₁.heap H):=⟨hKb,nsK hns,⟨mb,nsK hb,hbb⟩,let ⟨mc,h1,h2⟩:=hlim;⟨mc,nsK h1,h2⟩⟩;have e0:rW P w K mg (AC s₁.heap H) callerA [] s₁ H:=⟨rfl,hM,λb o e=>aAV e,Nat.le_of_eq (PR _ _),trivial,λb hb=>absurd (show b∈([]:List Addr) from hb) (by simp),hok,.of_eq hg⟩;refine codeAny_mono ((F _ hKb (nsK hns)).run callerA [] s₁ H ⟨[.ref a],[]⟩ [.ref a] [.ref a] _ _ hr e0 (hbind s₁ (.ref a)) (.cons rfl .nil) (hsp H hO hS)) λr s' h=>?_;cases r with
   | error e=>exact(hCX H e s' h).elim
   | ok fl =>
     cases fl with
     | next=>exact False.elim h
     | brk=>exact False.elim h
     | cont=>exact False.elim h
     | ret u =>
       obtain⟨v,H',os,bare,un,hok',r',q⟩:=h;have q':v= .bl true:=q;subst q';obtain rfl:u=Value.bool true:=r';refine⟨rfl,OldK.of_keep λb o e=>?_,os,bare⟩;cases q:H b with
       | none=>exact un.keep b o e q (by intro z;exact absurd (show b∈([]:List Addr) from z) (by simp)) (by simp)
       | some u =>
         rcases hO b with z|⟨ob,xs,z⟩
         . rw[q] at z;cases z
         . have z2:=un.frzs b ob _ z;obtain⟨e1,_⟩:=hok b _ z;obtain⟨e2,_⟩:=hok' b _ z2;rw[e] at e1;cases e1;exact e2
 cases hk:K.lookup a with
 | some o =>
   have e:=KX a o hk;rw[ha] at e;cases e;refine core (λ_=>none) (λ_=>.inl rfl) (.inr ⟨_,vs.toArray,_,hk,rfl,rfl,rfl,by rw[wIq,lenV];exact hl,by simpa using rv⟩) (λb u z=>by have z':(none:Option HO)=some u:=z;cases z') (λb z=>absurd rfl z) λz=>absurd rfl z
 | none =>
   refine core (λb=>if b=a then some (.frz {cls:=.type "list",data:=.seq vs.toArray} (.lst (ns.map V.int))) else none) (λb=>?_) (.inl (.inr ⟨{cls:=.type "list",data:=.seq vs.toArray},jd rfl⟩)) (λb u z=>?_) (λb z=>?_) λ_=>hk
   . by_cases hb:b=a
     . exact .inr ⟨_,_,jd hb⟩
     . exact .inl (jb hb)
   . by_cases hb:b=a
     . have z':=(jd hb).symm.trans z;cases z';subst hb;exact⟨ha,by rw[List.length_map];exact hl,vs,_,rv,ha⟩
     . have z':=(jb hb).symm.trans z;cases z'
   . by_cases hb:b=a
     . exact hb
     . exact absurd (jb hb) z
theorem aCM{l:W.OpenLaw}{XP:(Str->Option Value)->Heap->Prop}{YP:World->Heap->Prop}{d:DefRec}{K:Params->W.Frag}{CX:World->CXT}{sp:World->Sp}{x:Str}
   (hn:l.most=some n) (hn2:n<=sizeLine) (hdf:d.params.defaults=[]) (hr:aR k callerA)
   (hY:∀(w:World) (h:Heap),YP w h->(K w.params).In h)
   (F : ∀(w:World) (mg:Str->Option Value) (fa:Addr) (h:Heap),(K w.params).In h->h.Ns mainGlobals mg->mg d.name=some (.ref fa)->
     ∃fd:Ja,(∀(s:J7) (u:Value),BindsTo s fd ⟨[u],[]⟩ [(x,u)])/\
       ∀base:Heap,(K w.params).In base->base.Ns mainGlobals mg->aW l.prog w (K w.params) mg base (CX w) k fa fd [x] (sp w))
   (hsp:∀(w:World) (H:Hp) (a:Addr) (ns:List Int),ns.length<=n->VV H->SqL (K w.params) H a (ns.map V.int)->sp w [.ref a] H (λv _=>v= .bl true) λ_ _ _=>False)
   (hCX:∀(w:World) (H:Hp) (s:J7) (e:Value) (s':J7),CX w [] H s (λ_ _ _=>False) e s'->False) :
   W.WalkO q loose XP YP l.row.toRowW d [] (λf vs=>PySem.call f vs):=by
 refine Att.FD hn hdf λw s₀ s₁ mg mb fa o pm cd doc a vs ns G Y ho hd hcd hmg hobj hints hlen hg=>?_;have KX:=hY w _ Y;obtain⟨fd,hb,hF⟩:=F w mg fa _ KX G.T.g hmg;exact UO KX G.T.g G.T.b G.T.builtins G.T.nolimit hg hobj hints (Nat.le_trans hlen hn2) hr hF hb (λH hO hS=>hsp w H a ns hlen hO hS) λH e s'=>hCX w H s₁ e s'
theorem WO{l:W.OpenLaw}{XP:(Str->Option Value)->Heap->Prop}{YP:World->Heap->Prop}{d:DefRec}{K:Params->W.Frag}{sp:W.Frag->Sp}{x:Str}
   (hn:l.most=some n) (hn2:n<=sizeLine) (hdf:d.params.defaults=[]) (hr:aR k callerA)
   (hY:∀(w:World) (h:Heap),YP w h->(K w.params).In h)
   (F : ∀(w:World) (mg:Str->Option Value) (fa:Addr) (h:Heap),(K w.params).In h->h.Ns mainGlobals mg->mg d.name=some (.ref fa)->
     ∃fd:Ja,(∀(s:J7) (u:Value),BindsTo s fd ⟨[u],[]⟩ [(x,u)])/\
       ∀base:Heap,(K w.params).In base->base.Ns mainGlobals mg->aW l.prog w (K w.params) mg base CX k fa fd [x] (sp (K w.params)))
   (hsp:∀(K:W.Frag) (H:Hp) (a:Addr) (ns:List Int),ns.length<=n->VV H->SqL K H a (ns.map V.int)->sp K [.ref a] H (λv _=>v= .bl true) λ_ _ _=>False)
   (hCX:∀(H:Hp) (s:J7) (e:Value) (s':J7),CX [] H s (λ_ _ _=>False) e s'->False) :
   W.WalkO q loose XP YP l.row.toRowW d [] (λf vs=>PySem.call f vs) :=
 aCM (K:=K) (CX:=λ_=>CX) (sp:=λw=>sp (K w.params)) hn hn2 hdf hr hY F (λw H a ns h1 h2 h3=>hsp (K w.params) H a ns h1 h2 h3) λ_ H s e s'=>hCX H s e s'
noncomputable def aT(s:Stmt)(j:Nat):Stmt:=match s with
 | .ClassDef _ _ _ body _ _ _ _ _ _ _=>body.getD j (.Pass ⟨0,0,0,0⟩)
 | _=>.Pass ⟨0,0,0,0⟩
noncomputable def fE(s:Stmt):Arguments:=match s with
 | .FunctionDef _ a _ _ _ _ _ _ _ _=>a
 | _=>{posonlyargs:=[],args:=[],vararg:=none,kwonlyargs:=[],kw_defaults:=[],kwarg:=none,defaults:=[]}
noncomputable def dG(s:Stmt):List Stmt:=match s with
 | .FunctionDef _ _ b _ _ _ _ _ _ _=>b
 | _=>[]
noncomputable def bS(s:Stmt):Scope:=match s with
 | .FunctionDef _ _ _ _ _ _ sc _ _ _=>sc
 | _=>{kind:=.function,names:=[],isGenerator:=false,isCoroutine:=false}
noncomputable abbrev CX0:CXT:=λ_ _ _ _ _ _=>False
noncomputable abbrev E0:XK:=λ_ _ _=>False
theorem hV:jX CX0 X E0:=λ_ _ _ _ _ _ _ h=>h.elim
section
variable{P:J9}{w:World}{K:W.Frag}{mg:Str->Option Value}{base:Heap}
end
section
variable{X:Cx}
theorem pv(i:Nat)(hN:X.N[i]? =some x:=by rfl)(hv:Vis X.env.scope x:=by first|exact Or.inl rfl|exact Or.inr (Or.inl rfl)|exact Or.inr (Or.inr rfl))(hd:(x==("__debug__":Str))=false:=by decide)
   (hcd:(x==("__classdict__":Str))=false:=by decide):PE X (.Name x pos) (aKt i):=YY hN hv hd hcd
end
def aJ(H H':Hp):Prop:= ∀b o,H b=some o->H' b=some o
theorem aJ.refl(H:Hp):aJ H H:=λ_ _ h=>h
theorem aJ.trans(a:aJ H H1)(b:aJ H1 H2):aJ H H2:=λc o h=>b c o (a c o h)
theorem aJ.seq{K:W.Frag}{H H':Hp}(e:aJ H H')(h:SqL K H a xs):SqL K H' a xs:=by
 rcases h with (h|⟨o,h⟩)|h
 . exact .inl (.inl (e _ _ h))
 . exact .inl (.inr ⟨o,e _ _ h⟩)
 . exact .inr h
end L2
set_option maxHeartbeats 4000000
namespace L2
open PySem PySem.Spec PyProof.Rows
def Sm(k:Nat)(x:Int):Prop:=x.natAbs<2^k
theorem Sm.mono{k l:Nat}{x:Int}(h:Sm k x)(q:k<=l):Sm l x:=wFq h (Nat.pow_le_pow_right ddq q)
theorem Sm.mul(h:Sm k x)(q:Sm l y):Sm (k+l) (x*y):=by
 unfold Sm at *;rw[Int.natAbs_mul,Nat.pow_add];exact Nat.mul_lt_mul'' h q
theorem Sm.add(h:Sm k x)(q:Sm k y)(e:k+1<=l):Sm l (x+y):=by
 have a:(x+y).natAbs<=x.natAbs+y.natAbs:=Int.natAbs_add_le x y;have b:2^k+2^k<=2^l:=by
   have:=Nat.pow_le_pow_right (show 0<2 by decide) e;rw[Nat.pow_succ] at this;omega
 unfold Sm at *;omega
theorem Sm.neg(h:Sm k x):Sm k (-x):=by unfold Sm at *;rw[Int.natAbs_neg];exact h
theorem Sm.sub(h:Sm k x)(q:Sm k y)(e:k+1<=l):Sm l (x-y):=by
 rw[Int.sub_eq_add_neg];exact h.add q.neg e
theorem Sm.le(h:Sm k y)(a:0<=x)(b:x<=y):Sm k x:=by unfold Sm at *;omega
theorem Sm.div(h:Sm k x)(hy:0<y):Sm k (x/y):=by
 rcases Int.le_total 0 x with z|z
 . exact h.le (Int.ediv_nonneg z ooq) (Int.ediv_le_self _ z)
 . have a:x<=x/y:=Int.le_ediv_of_mul_le hy (by
     have:=Int.mul_le_mul_of_nonpos_left z (show 1<=y by omega);omega)
   have b:x/y<=0:=by
     have:=Int.ediv_le_ediv hy z;rw[Int.zero_ediv] at this;exact this
   unfold Sm at *;omega
theorem Sm.bits(h:Sm k x):Builtin.Int.intBits x<=k:=by
 unfold Builtin.Int.intBits;split
 . exact Nat.zero_le _
 . rename_i z;have hz:x.natAbs≠0:=λe=>z (by rw[Int.natAbs_eq_zero.mp e];rfl);exact(Nat.log2_lt hz).mpr h
theorem Sm.mulOk(h:Sm k x)(q:Sm l y)(e:k+l<=100000000):IntMulOk x y:=by
 have b1:=h.bits;have b2:=q.bits;unfold IntMulOk;have z:Builtin.Int.intTooBig (((Builtin.Int.intBits x+Builtin.Int.intBits y:Nat):Int))=false:=by
   unfold Builtin.Int.intTooBig;refine decide_eq_false ?_;have:bitsLine=134217728:=by decide
   rw[this];omega
 have z':Builtin.Int.intTooBig ((Builtin.Int.intBits x:Int)+(Builtin.Int.intBits y:Int))=false:=by
   rw[<-z];congr 1
 rw[z'];simp
theorem Sm.log(h:Sm k x)(e:k<=9000)(hk:0<k):x.natAbs.log2<9000:=by
 by_cases hz:x.natAbs=0
 . rw[hz];decide
 . exact wFq ((Nat.log2_lt hz).mpr h) e
section
variable{X:Cx}
def oZ(i j:Int):Prop:=IntMulOk i j
theorem ZH(h:Sm 64 i):oZ i j:=IntMulOk.of_left h.bits
theorem aIb(h:Sm 64 j):oZ i j:=IntMulOk.of_right h.bits
theorem eK(h:Sm k i)(q:Sm l j)(e:k+l<=100000000:=by decide):oZ i j:=h.mulOk q e
def sO(_i j:Int):Prop:=0<j/\∃k,Sm k j/\0<k/\k<=9000
theorem uB(h:0<j)(q:Sm k j)(e:0<k:=by decide)(e':k<=9000:=by decide):sO i j:=⟨h,k,q,e,e'⟩
theorem aBe:OpR X (binaryOp .Mult) (rI oZ λi j=>.int (i*j)):=opI λ_ _ _ _ _ _ _ hc q=>by
 exact mul_int q hc
theorem YT:OpR X (binaryOp .FloorDiv) (rI sO λi j=>.int (i/j)):=opI λi j _ _ _ _ _ hc q=>by
 obtain⟨h1,k,a,hk,e⟩:=hc;exact floordiv_int ooq (by rw[Int.fdiv_eq_ediv_of_nonneg i ooq];exact q) (.inl (PyProof.noPylong_of_log2 (a.log e hk)))
theorem aA4:MtR X "int.bit_length" (λx xs H Q=>∃i,x= .int i/\xs=[]/\Q (.int ((Builtin.Int.intBits i:Nat):Int)) H):=by
 intro j4 s σ H x xs v us Q I r rs h;obtain⟨i,rfl,rfl,q⟩:=h;obtain⟨t,rfl⟩:=r;cases rs;refine wpAny_call_entry PySem.F.slot_int_bit_length (typeIs_int s i t) PySem.F.entry_int_bit_length ?_ (PySem.F.args_int_bit_length_1 _);obtain⟨hp,g,d,tk,os⟩:=s
 wp_walk
 exact⟨_,rfl,.int _,H,I.tok _,⟨_,rfl⟩,q⟩
end
section
variable{X:Cx}{CX:CXT}{k:Nat}{f C:Addr}{fd:Ja}{ps ks:List Str}{sp:Sp}{E:XK}{x m:Str}{p pos j6 kpos:Pos}{kws:List Keyword}{tk:TA}
variable{g:List Value->List Value->List Value}{gV:List V->List V->List V}
end
theorem fP.at(e:h.get? a=some {cls:=.type "tuple",data:=.seq items n}):fP h a items:=⟨⟨_,e,rfl,n,rfl⟩,λo q=>by rw[e] at q;cases q;rfl⟩
end L2
namespace LE
open PySem PyProof.Rows
open AutoSeq1 (wpAny_loadPart')
open Builtin
variable{prog:J9}{w:World}{A:Around}{E:Value->J7->Prop}{s:J7}
theorem aDb(a:s.heap.IsTupleIter it l i)(b:s.heap.IsTuple l xs)(c:xs[i]? =some x)
   (q:∀h',h'.IsTupleIter it l (i+1)->Heap.SameBut it s.heap h'->Q x {s with heap:=h'}):wpAny (model prog w) A (Builtin.SmallTypes.nextOf (.ref it)) Q E s:=by
 obtain⟨o,ho,hc,hd⟩:=id a;obtain⟨p,hp,_,n,hn⟩:=b;unfold Builtin.SmallTypes.nextOf;refine wAq (wpAny_callSpecial?_slot (name:=Str.ofString "__next__") a.typeIs F.slot_tuple_iterator_next (wpAny_call_entry F.slot_tuple_iterator_next a.typeIs F.entry_tuple_iterator_next ?_ (F.args_tuple_iterator_next_1 _)));show wpAny _ _ (field (.ref it) 0>>=_) _ _ _;refine wAq (wpAny_field ho hd (x:=.ref l) rfl ?_);show wpAny _ _ (if (Value.ref l==Value.none)=true then _ else _) _ _ _;rw[jb (show ¬((Value.ref l==Value.none)=true) from nofun)];show wpAny _ _ (field (.ref it) 1>>=_) _ _ _;refine wAq (wpAny_field ho hd (x:=.int i 0) rfl ?_);show wpAny _ _ (seqItems? (.ref l)>>=_) _ _ _;refine wAq (wpAny_seqItems hp hn ?_);simp only[Int.toNat_natCast,c];exact wAq (wpAny_setField ho hd (by simp) (wBq ⟨x,rfl,wBq (q _ ⟨_,Heap.get?_update_self _ ho (Obj.isFreed_of_fields (Obj.data_mapFields hd _)),(Obj.cls_mapFields ..).trans hc,by rw[Obj.data_mapFields hd];simp[rawInt]⟩ (Heap.SameBut.update ..))⟩))
theorem aGR(hh:A.handled=none)(a:s.heap.IsTupleIter it l i)(b:s.heap.IsTuple l xs)(c:xs[i]? =none)
   (q:∀h' e,Heap.ExtBut it s.heap h'->(∃o,h'.get? e=some o/\o.cls= .type "StopIteration")->E (.ref e) {s with heap:=h'}):wpAny (model prog w) A (Builtin.SmallTypes.nextOf (.ref it)) Q E s:=by
 obtain⟨o,ho,hc,hd⟩:=id a;obtain⟨p,hp,_,n,hn⟩:=b;unfold Builtin.SmallTypes.nextOf;refine wAq (wpAny_callSpecial?_slot (name:=Str.ofString "__next__") a.typeIs F.slot_tuple_iterator_next (wpAny_call_entry F.slot_tuple_iterator_next a.typeIs F.entry_tuple_iterator_next ?_ (F.args_tuple_iterator_next_1 _)));show wpAny _ _ (field (.ref it) 0>>=_) _ _ _;refine wAq (wpAny_field ho hd (x:=.ref l) rfl ?_);show wpAny _ _ (if (Value.ref l==Value.none)=true then _ else _) _ _ _;rw[jb (show ¬((Value.ref l==Value.none)=true) from nofun)];show wpAny _ _ (field (.ref it) 1>>=_) _ _ _;refine wAq (wpAny_field ho hd (x:=.int i 0) rfl ?_);show wpAny _ _ (seqItems? (.ref l)>>=_) _ _ _;refine wAq (wpAny_seqItems hp hn ?_);simp only[Int.toNat_natCast,c];refine wAq (wpAny_rule (wAq (wpAny_setField ho hd (by simp) ?_)));show wpAny _ _ (newExc (.type "StopIteration") []>>=_) _ _ _;refine wAq ?_;simp only[newExc,newTuple];refine wAq (wpAny_newObj_type ?_ (by size_fits));refine wAq (m:=firstArgMember _ _) (wpAny_of_eq (a:=Value.none) (by first|rfl|(simp only[firstArgMember];rfl)) (wpAny_newObj_type ?_ (by size_fits)));simp only[raiseNew];refine wAq (wpAny_handled ?_);first|rw[show A.in1.handled=none from hh]|rw[hh]
 exact wAq (wBq (wpAny_throw (q _ _ (((Heap.SameBut.update ..).extBut.push _).push _) ⟨_,wGq _ rfl,rfl⟩)))
theorem aHk(hh:A.handled=none)(it l:Addr)(hne:l≠it)(xs:Array Value):Draws prog w A it [it,l] xs.size (λi v=>xs[i]? =some v) (λi h=>h.IsTupleIter it l i/\h.IsTuple l xs) where
 live:=λ_ _ st=>let ⟨o,ho,_⟩:=st.1;⟨o,ho⟩
 frame:=λ_ _ _ st hk=>⟨st.1.at λo e=>hk it (by simp) o e,let ⟨o,e,r⟩:=st.2;⟨o,hk l (by simp) o e,r⟩⟩
 item:=λi s Q E hi st hQ=>aDb st.1 st.2 (x:=xs[i]) (by simp[hi]) λh' a b=>hQ _ h' s.toks (by simp[hi]) ⟨a,st.2.extBut b.extBut hne⟩ b
 done:=λs Q E st hE=>aGR hh st.1 st.2 (by simp) hE
theorem aFF(hh:A.handled=none)(it l:Addr)(i:Nat)(xs:Array Value)(hx:xs[i]? =none):Draws prog w A it [it,l] i (λ_ _=>True) (λj h=>j=i/\h.IsTupleIter it l j/\h.IsTuple l xs) where
 live:=λ_ _ st=>let ⟨o,ho,_⟩:=st.2.1;⟨o,ho⟩
 frame:=λ_ _ _ st hk=>⟨st.1,st.2.1.at λo e=>hk it (by simp) o e,let ⟨o,e,r⟩:=st.2.2;⟨o,hk l (by simp) o e,r⟩⟩
 item:=λj s Q E hi st hQ=>absurd st.1 (Nat.ne_of_lt hi)
 done:=λs Q E st hE=>aGR hh st.2.1 st.2.2 hx hE
theorem aBM(l:Addr)(items:Array Value)(o:Obj)(ho:o.cls= .type "tuple")(n:Nat)(hd:o.data= .seq items n) :
   Meets (Builtin.«enumerate.__new__» ⟨[.type "enumerate",.ref l],[]⟩) (λ_ R s=>s.heap.get? l=some o/\
     R (.ok (.ret (.ref (s.heap.push {cls:=.type "tuple_iterator",data:=.fields #[.ref l,.int 0 0]}).objs.size)))
       {s with heap:=(s.heap.push {cls:=.type "tuple_iterator",data:=.fields #[.ref l,.int 0 0]}).push {cls:=.type "enumerate",data:=.fields #[.none,.bool false,.ref s.heap.objs.size,rawInt 0,.none,.none]}}) :=
 .of_wp λprog w A R s h=>by
   obtain⟨hp,g,d,tk,os⟩:=s;obtain⟨oc,od,dt,sl⟩:=o
   replace ho:oc= .type "tuple":=ho
   replace hd:dt= .seq items n:=hd
   subst ho hd;obtain⟨hl,h⟩:=h;have hsub:=sub_enumerate;have hL:Heap.IsTuple (Shared.heap ⟨hp,g,d,tk,os⟩) l items:=⟨_,hl,rfl,n,rfl⟩
   wp_walk using wpAny_loadPart' hl
   refine wpAny_stack_any λst=>wBq ?_;split
   . rename_i c _ _ _ _ _;cases(c==Value.type "enumerate")<;>(wp_walk using wpAny_loadPart' hl,wpAny_pyIter_tuple hL)<;>exact⟨_,rfl,h⟩
   . wp_walk using wpAny_loadPart' hl,wpAny_pyIter_tuple hL
     exact⟨_,rfl,h⟩
theorem OG(hL:s.heap.IsTuple l items)
   (h :∀h',IsEnum h' (s.heap.objs.size+1) s.heap.objs.size 0 .none->h'.IsTupleIter s.heap.objs.size l 0->h'.objs.size=s.heap.objs.size+2->
     (∀b o,s.heap.get? b=some o->h'.get? b=some o)->Q (.ref (s.heap.objs.size+1)) {s with heap:=h'}) :
   wpAny (model prog w) A (call (.type "enumerate") [.ref l]) Q E s:=by
 obtain⟨o,hl,hc,n,hd⟩:=hL;refine callType_new F.called_enumerate ddq (F.typeCall_enumerate_1 _) (F.newCall_enumerate_1 _) (λobj=>F.args_object_init_2 obj _) F.entry_enumerate_new (aBM l items o hc n hd) ⟨hl,?_⟩;have hz:(s.heap.push {cls:=.type "tuple_iterator",data:=.fields #[.ref l,.int 0 0]}).objs.size=s.heap.objs.size+1:=Heap.size_push ..;show _/\_;rw[hz];have he:IsEnum ((s.heap.push {cls:=.type "tuple_iterator",data:=.fields #[.ref l,.int 0 0]}).push
     {cls:=.type "enumerate",data:=.fields #[.none,.bool false,.ref s.heap.objs.size,rawInt 0,.none,.none]}) (s.heap.objs.size+1) s.heap.objs.size 0 .none:=by
   have:=wGq (s.heap.push {cls:=.type "tuple_iterator",data:=.fields #[.ref l,.int 0 0]})
     (o:={cls:=.type "enumerate",data:=.fields #[.none,.bool false,.ref s.heap.objs.size,rawInt 0,.none,.none]}) rfl
   rw[hz] at this;exact this
 exact⟨⟨_,he,rfl⟩,h _ he ⟨_,wEq _ (wGq _ rfl),rfl,rfl⟩ (by rw[Heap.size_push,hz]) λb o x=>wEq _ (wEq _ x)⟩
end LE
namespace L2
open PySem PySem.Spec PyProof.Rows
section
variable{X:Cx}{j4:List (Addr×Obj)}{σ:St}{H:Hp}{s:J7}{h':Heap}
theorem Inv.turnNew{ch:List Addr}{T:Addr}(I:Inv X j4 σ H s)
   (hch:∀b∈ch,(b∈X.ex∨X.s₀.heap.objs.size<=b)/\b≠X.env.locals/\(∀x c,X.env.cells.lookup x=some c->c≠b)/\∀p∈X.pn++j4,p.1≠b) (hn:∀b∈ch,H b=none)
   (k:∀b o,b∉ch->s.heap.get? b=some o->h'.get? b=some o) (hT:s.heap.objs.size<=T) (new:cC X.prog X.w (upd H T u) h' T u):Inv X j4 σ (upd H T u) {s with heap:=h',toks:=t'}:=by
 have fT:H T=none:=I.hok.fresh hT;have nT:∀{b o},s.heap.get? b=some o->b≠T:=λq=>Nat.ne_of_lt (wFq (Heap.lt_size q) hT);have nit:∀b u,H b=some u->b∉ch:=λb u e z=>by rw[hn b z] at e;cases e
 refine I.step (g':=s.gens) (d':=s.drawn) (ch:=ch) hch (λb o _ _ hc e _=>k b o hc e) (λb o _ _ hc e _=>⟨o.slots,k b o hc e⟩) (λb o _ q n=>by rw[aG (nT q)];exact n)
   (λb o hc e=>⟨o,k b o hc e⟩) (λb xs e=>by rw[aG (aM e fT)];exact e) (λb o v e=>by rw[aG (aM e fT)];exact e) (λb ps e=>⟨#[],by rw[aG (aM e fT),e];simp⟩) (λm hm=>?_) (λb v e=>?_) I.bare
 . obtain⟨o,es,ep,ho,r⟩:=hm;exact⟨o,es,ep,k _ o (λz=>(hch _ z).2.1 rfl) ho,r⟩
 . by_cases hb:b=T
   . subst hb;rw[aS] at e;cases e;exact new
   . rw[aG hb] at e;refine(I.hok b v e).stay (λc v hc q=>k c v ?_ q) (λc q=>by rw[aG (aM q fT)];exact q) λc xs q=>by rw[aG (aM q fT)];exact q
     rcases hc with z|z
     . rw[z];exact nit b _ e
     . exact nit c _ z
noncomputable def Ite(K:W.Frag)(a:Addr):It :=
 ⟨λi H=>∃xs x,SqT K H a xs/\xs[i]? =some x,λi H x H'=>∃T v,x= .ref T/\H T=none/\H'=upd H T (.tup [.int i,v])/\∀xs,SqT K H a xs->xs[i]? =some v,λi H=>∃xs,SqT K H a xs/\xs.length<=i⟩
theorem OH{K:W.Frag}{x1}{tp:Pos}(a e it:Addr)(hei:e≠it)(hai:a≠it)(hae:a≠e) :
   FT P w K (.Tuple es x1 tp) (Ite K a) [e,it] e (λi h=>(∃old,IsEnum h e it ((i:Nat):Int) old)/\h.IsTupleIter it a i) where
 mem:=by simp
 obj :=λi h st b hb=>by
   obtain⟨⟨old,h1⟩,o,h2,c,d⟩:=st;rcases List.mem_cons.mp hb with rfl|hb
   . exact⟨_,h1,λv z=>by have z':Data.fields _=Data.cell v:=z;cases z'⟩
   . have e':b=it:=by simpa using hb
     subst e';exact⟨o,h2,λv z=>by rw[d] at z;cases z⟩
 keep:=λi h h' st k=>⟨let ⟨old,q⟩:=st.1;⟨old,k e (by simp) _ q⟩,st.2.at λo q=>k it (by simp) o q⟩
 item := by
   intro X hP hw hK hc i j4 s σ H E I hf st hg;subst hP hw hK;obtain⟨xs,x,hq,hx⟩:=hg;obtain⟨its,rv,p,hz⟩:=I.tuple hq;obtain⟨u,hu,ru⟩:=rv.get hx;obtain⟨⟨old,he⟩,hit⟩:=st;have hi:i<its.toArray.size:=by
     have:=(List.getElem?_eq_some_iff.mp hu).1;simpa using this
   have D:=LE.aHk (prog:=X.prog) (w:=X.w) (A:=X.A.in1) (I.ok.hd hc) it a hai its.toArray;refine wpAny_pyNext_enum_itemD (A:=X.A) D he ⟨hit,(show s.heap.IsTuple a its.toArray from p)⟩ hi hei (by simp[hei,Ne.symm hae]) λy h1 tk hy ho hs' hT hsz hk=>?_;refine⟨_,rfl,wpAny_letOwnedTupleGo_enum ho λh2 he2 sb=>?_⟩;have hy':y=u:=by
     have z:its.toArray[i]? =some u:=by simpa using hu
     exact Option.some.inj (hy.symm.trans z)
   subst hy';have hTe:s.heap.objs.size≠e:=Nat.ne_of_gt (Heap.lt_size he);have gT:h2.get? s.heap.objs.size=some {cls:=.type "tuple",data:=.seq #[.int i tk,y]}:=(sb.2 _ hTe).trans hT;refine⟨.ref s.heap.objs.size,upd H s.heap.objs.size (.tup [.int i,x]),I.turnNew (ch:=[e,it]) (h':=h2) (λb hb=>?_) (λb hb=>(hf b hb).1) (λb o hb q=>?_) (Nat.le_refl _) ?_,rfl,⟨_,x,rfl,I.hok.fresh (Nat.le_refl _),rfl,λys hy=>by rw[I.tuple_inj hy hq];exact hx⟩,⟨⟨_,by simpa using he2⟩,?_⟩,λb hb=>?_⟩
   . obtain⟨f0,f1,f2,f3,f4,f5⟩:=hf b hb;exact⟨f3,f1,f4,f5⟩
   . simp only[List.mem_cons,List.not_mem_nil,or_false,not_or] at hb;exact(sb.2 b hb.1).trans (hk b o hb.1 hb.2 q)
   . exact⟨by show 2<=sizeLine;decide,[.int i tk,y],.cons ⟨tk,rfl⟩ (.cons ru .nil),fP.at gT⟩
   . exact hs'.1.at λo q=>(sb.2 it (Ne.symm hei)).trans q
   . have hl:∀b,b∈[e,it]->b≠s.heap.objs.size:=λb hb z=>by
       rcases List.mem_cons.mp hb with r|r
       . exact hTe (z▸r)
       . obtain⟨o,q,_⟩:=hit;have r':b=it:=by simpa using r
         have l:=Heap.lt_size q;rw[<-r',z] at l;exact absurd l (Nat.lt_irrefl _)
     rw[aG (hl b hb)];exact(hf b hb).1
 done:=by
   intro X hP hw hK hc i j4 s σ H E I hf st hg;subst hP hw hK;obtain⟨xs,hq,hx⟩:=hg;obtain⟨its,rv,p,hz⟩:=I.tuple hq;obtain⟨⟨old,he⟩,hit⟩:=st;obtain⟨f0,f1,f2,f3,f4,f5⟩:=hf it (by simp);have hl:=rv.length;have hx':its.toArray[i]? =none:=by simp;omega
   refine wpAny_pyNext_enum_endD (A:=X.A) (LE.aFF (prog:=X.prog) (w:=X.w) (A:=X.A.in1) (I.ok.hd hc) it a i its.toArray hx') he ⟨rfl,hit,(show s.heap.IsTuple a its.toArray from p)⟩ λh' eb=>⟨rfl,I.turned (t':=s.toks) (λb o hb e=>eb b o hb e) f0 f1 f3 f4 f5⟩
 self:=λ_ _ _ _ _ st h=>let ⟨_,q⟩:=st.1;wpAny_pyIter_enum q h
def aI2(K:W.Frag)(ta:TA):TI:=λσ H R=>ta σ H λvs H1=>∃a,vs=[.ref a]/\(∃xs,SqT K H1 a xs)/\R (Ite K a) H1
theorem aBW(hg:Gl X "enumerate")(hm:X.mg "enumerate"=none)(ha:PA X [e] ta)(hs:starEach [e] X.env=[(false,eval e X.env)]:=by rfl) :
   PI X (.Tuple es x1 tp) (.Call (.Name "enumerate" p) [e] [] pos) (aI2 X.K ta):=by
 intro j4 s σ H R I h;refine Call_ (nR I hg hm boot_enumerate (PyProof.Rows.callWith_type1 (thn (ha pos j4 s σ H _ I h) λus s1 zz=>?_) hs rfl));obtain⟨vs,H1,I1,r1,q1⟩:=zz;obtain⟨a,e,⟨xs,hq⟩,q⟩:=q1;subst e;obtain⟨u,rfl,r⟩:=fS r1;cases r;obtain⟨its,rv,ht,hz⟩:=I1.tuple hq;have ht':s1.heap.IsTuple a its.toArray:=ht;have hl:a<s1.heap.objs.size:=let ⟨o,e,_⟩:=ht';Heap.lt_size e
 refine LE.OG ht' λh' he hit hsz k=>?_;have I2:Inv X j4 σ H1 {s1 with heap:=h'}:=I1.kept (t':=s1.toks) k;refine wpAny_pyIter_enum (s:={s1 with heap:=h'}) he ?_;refine⟨s1.heap.objs.size+1,[s1.heap.objs.size+1,s1.heap.objs.size],_,_,H1,rfl,I2,OH a _ _ (Nat.succ_ne_self _) (Nat.ne_of_lt hl) (Nat.ne_of_lt (Nat.lt_succ_of_lt hl)),⟨⟨_,he⟩,hit⟩,λb hb=>?_,q⟩;have hb':s1.heap.objs.size<=b:=by
   rcases List.mem_cons.mp hb with z|z
   . rw[z];exact Nat.le_succ _
   . have z':b=s1.heap.objs.size:=by simpa using z
     exact Nat.le_of_eq z'.symm
 exact I1.fpOk hb' (I1.hok.fresh hb')
end
section
variable{X:Cx}
theorem IxR.imp(h:IxR X r)(f:∀x y H Q,r' x y H Q->r x y H Q):IxR X r':=λvalue slice j4 s σ H x y v u Q I rx ry q hs=>h value slice j4 s σ H x y v u Q I rx ry (f _ _ _ _ q) hs
theorem bC.imp{r r':List V->Hp->VK->Prop}(h:bC X g r)(f:∀x H Q,r' x H Q->r x H Q):bC X g r':=λj4 s σ H xs us Q I rs q=>h j4 s σ H xs us Q I rs (f _ _ _ q)
theorem PG.imp{e:Expr}(h:PG X e t)(f:∀v σ H Q,t' v σ H Q->t v σ H Q):PG X e t':=λj4 s σ H v u Q I r q=>h j4 s σ H v u Q I r (f _ _ _ _ q)
theorem PI.imp{t t':TI}(h:PI X tg it t)(f:∀σ H R,t' σ H R->t σ H R):PI X tg it t':=λj4 s σ H R I q=>h j4 s σ H R I (f _ _ _ q)
end
theorem aJy:ixN (n+1) 0=some 0:=by unfold ixN;rw[jd ddq,jd ooq];rfl
theorem aDc:ixN (n+2) 1=some 1:=by unfold ixN;rw[jd ddq,jd ooq];rfl
theorem aCX:ixN (n+3) 2=some 2:=by unfold ixN;rw[jd ddq,jd ooq];rfl
theorem gP(h:H q=some u)(n:H p=none):upd H p o q=some u:=by rw[aG (aM h n)];exact h
theorem bE(h:H p=none)(o:HO):aJ H (upd H p o):=λb u q=>gP q h
noncomputable def tyN(H:Hp):V->Option J8
 | .non=>some "NoneType"
 | .bl _=>some "bool"
 | .int _=>some "int"
 | .str _=>some "str"
 | .ref a=>match H a with
   | some (.lst _)=>some "list"
   | some (.tup _)=>some "tuple"
   | some (.dK _)=>some "dict"
   | _=>none
 | _=>none
noncomputable def tQ(n T:J8):Bool:=n==T||(n=="bool"&&T=="int")
noncomputable def mS:List J8:=["int","bool","tuple","str","list","dict"]
noncomputable def QO:List J8:=["NoneType","bool","int","str","list","tuple","dict"]
theorem aFg{K:W.Frag}{H:Hp}{x:V}{n:J8}(h:tyN H x=some n):sL K H x (.type n):=by
 unfold tyN at h;split at h
 . cases h;exact .non
 . cases h;exact .bl _
 . cases h;exact .int _
 . cases h;exact .str _
 . split at h
   . rename_i e;cases h;exact .lst e
   . rename_i e;cases h;exact .tup e
   . rename_i e;cases h;exact .dK e
   . cases h
 . cases h
theorem aHo(K:W.Frag):∀n∈QO,∀T∈mS,W.kitOne K (.type n) (.type T)=some (tQ n T):=by
 intro n hn T hT;simp only[QO,mS,List.mem_cons,List.not_mem_nil,or_false] at hn hT;rcases hn with rfl|rfl|rfl|rfl|rfl|rfl|rfl<;>rcases hT with rfl|rfl|rfl|rfl|rfl|rfl<;>rfl
theorem OpR.imp{f:Value->Value->Sem Value}{r r':R2}(h:OpR X f r)(g:∀x y H Q,r' x y H Q->r x y H Q):OpR X f r':=λj4 s σ H x y v u Q I rx ry q=>h j4 s σ H x y v u Q I rx ry (g _ _ _ _ q)
theorem aLj(i:Int):(if i<0 then -i else i)=(i.natAbs:Int):=by split<;>omega
theorem OR:bC X (.builtin "abs") (λxs H Q=>∃i,xs=[.int i]/\Q (.int (i.natAbs:Int)) H):=ZZ.imp<|by rintro _ _ _ ⟨i,a,q⟩;exact⟨i,a,by rw[aLj];exact q⟩
theorem aMO:((0:Nat):Int)=0:=rfl
theorem aJ8:((1:Nat):Int)=1:=rfl
theorem aHV:((2:Nat):Int)=2:=rfl
theorem aIW:((3:Nat):Int)=3:=rfl
section
variable{prog:J9}{w:World}{A:Around}{R:Result->J7->Prop}{s:J7}
noncomputable abbrev NoE:Value->J7->Prop:=λ_ _=>False
theorem NE(I:Nat->J7->Prop)
   (turn : ∀n s,I n s->wpAny (model prog w) A (pyNext it) (λr s₁=>match r with
     | none=>R (.ok .next) s₁
     | some v=>wpAny (model prog w) A (letOwnedTupleGo target it v) (λ_ s₁'=>wpAny (model prog w) A (assign target env v) (λ_ s₂ =>
         wpAny (model prog w) A (forIn ifs true λc r=>if r=true then do let ok <-isTrue c env (eval c env);pure (ForInStep.yield ok) else pure (ForInStep.yield r)) (λok s₃ =>
           if ok=true then wpAny (model prog w) A (eval elt env) (λx s₄=>wpAny (model prog w) A (call (.builtin "list.append") [acc,x]) (λ_ s₅=>∃m,m<n/\I m s₅) NoE s₄) NoE s₃
           else ∃m,m<n/\I m s₃) NoE s₂) NoE s₁') NoE s₁) NoE s) (n:Nat) (h:I n s) :
   codeAny (model prog w) A (.compLoop (.ListComp elt [⟨target,j5,ifs,0⟩] scope pos) 0 it acc env) R s:=by
 refine codeAny_loop rfl I (λn s hI=>?_) n h;refine wpAny_noted (m:=compTurn (.ListComp elt [⟨target,j5,ifs,0⟩] scope pos) 0 it acc env) ?_;rw[compTurn_list];refine wAq (wpAny_standAt (wAq (wpAny_mono (turn n s hI) (λr s₁ h₁=>?_) λ_ _ f=>f.elim)));cases r with
 | none=>exact wBq h₁
 | some v =>
   refine wAq (wpAny_mono h₁ (λ_ s₁' h₁'=>?_) λ_ _ f=>f.elim);refine wAq (wpAny_mono h₁' (λ_ s₂ h₂=>wAq (wpAny_mono h₂ (λok s₃ h₃=>?_) λ_ _ f=>f.elim)) λ_ _ f=>f.elim);cases ok with
   | false=>exact wBq ⟨rfl,h₃⟩
   | true =>
     exact wAq (wAq (wpAny_mono h₃ (λx s₄ h₄=>wAq (wpAny_mono h₄ (λ_ s₅ h₅=>wBq (wBq ⟨rfl,h₅⟩)) λ_ _ f=>f.elim)) λ_ _ f=>f.elim))
end
noncomputable def nN(cl cells:List (Str×Addr)):List (Str×NameKind)->Prop
 | []=>True
 | (n,k)::r=>(k= .free->∃c,cl.lookup n=some c/\cells.lookup n=some c)/\nN cl cells r
noncomputable def xS(cells:List (Str×Addr)):List (Str×Addr)->Prop
 | []=>True
 | (n,c)::r=>cells.lookup n=some c/\xS cells r
theorem xS.look:∀{cl:List (Str×Addr)} {x:Str} {c:Addr},xS cells cl->cl.lookup x=some c->cells.lookup x=some c
 | [],_,_,_,h=>by cases h
 | (n,c')::r,x,c,ok,h=>by
   cases hx:x==n with
   | true =>
     rw[List.lookup_cons,hx] at h;cases h;rw[beq_iff_eq.mp hx];exact ok.1
   | false =>
     rw[List.lookup_cons,hx] at h;exact xS.look ok.2 h
theorem nN.look{cl cells:List (Str×Addr)}{f:Str×NameKind->Str×NameKind}(hf:∀y,(f y).1=y.1/\((f y).2= .cell∨(f y).2= .free->y.2= .cell∨y.2= .free)):∀{names:List (Str×NameKind)} {x:Str},nN cl cells names->
   ((names.map f).lookup x=some .cell∨(names.map f).lookup x=some .free)->(∃c,cl.lookup x=some c)∨(x,NameKind.cell)∈names
 | [],_,_,h=>by rcases h with h|h<;>cases h
 | (n,k)::r,x,ok,h=>by
   have h1:=hf (n,k);rw[List.map_cons] at h;cases hx:x==(f (n,k)).1 with
   | true =>
     have e:List.lookup x (f (n,k)::r.map f)=some (f (n,k)).2:=by rw[List.lookup_cons,hx]
     rw[e] at h;have hk:k= .cell∨k= .free:=h1.2 (h.imp Option.some.inj Option.some.inj);rcases hk with hk|hk
     . subst hk;rw[beq_iff_eq.mp hx,h1.1];exact .inr (wDq ..)
     . obtain⟨c,q,_⟩:=ok.1 hk;rw[beq_iff_eq.mp hx,h1.1];exact .inl ⟨c,q⟩
   | false =>
     have e:List.lookup x (f (n,k)::r.map f)=List.lookup x (r.map f):=by rw[List.lookup_cons,hx]
     rw[e] at h;exact(nN.look hf ok.2 h).imp_right λz=>wCq _ z
theorem cN:∀(names:List (Str×NameKind)) (n:Nat) (acc:List (Str×Addr)),cellsFrom n names acc=cellsFrom n names []++acc
 | [],_,_=>rfl
 | (y,k)::r,n,acc=>by
   unfold cellsFrom;split
   . rw[cN r (n+1) ((y,n)::acc),cN r (n+1) [(y,n)],List.append_assoc];rfl
   . exact cN r n acc
theorem dR:∀{names:List (Str×NameKind)} {n:Nat} {acc:List (Str×Addr)} {x:Str} {c:Addr},(x,c)∈cellsFrom n names acc->(x,c)∈acc∨((x,NameKind.cell)∈names/\n<=c)
 | [],_,_,_,_,h=>.inl h
 | (y,k)::r,n,acc,x,c,h=>by
   unfold cellsFrom at h;split at h
   . rename_i hk;rcases dR h with z|⟨z,l⟩
     . rcases List.mem_cons.mp z with e|z
       . cases e;rw[beq_iff_eq.mp hk];exact .inr ⟨wDq ..,Nat.le_refl _⟩
       . exact .inl z
     . exact .inr ⟨wCq _ z,Nat.le_of_succ_le l⟩
   . rcases dR h with z|⟨z,l⟩
     . exact .inl z
     . exact .inr ⟨wCq _ z,l⟩
theorem iG:∀{names:List (Str×NameKind)} {n:Nat} {acc:List (Str×Addr)} {x:Str},(x,NameKind.cell)∈names∨(∃c,(x,c)∈acc)->∃c,(x,c)∈cellsFrom n names acc
 | [],_,_,_,h=>by
   rcases h with h|h
   . cases h
   . exact h
 | (y,k)::r,n,acc,x,h=>by
   unfold cellsFrom;split
   . refine iG ?_;rcases h with h|⟨c,h⟩
     . rcases List.mem_cons.mp h with e|h
       . cases e;exact .inr ⟨n,wDq ..⟩
       . exact .inl h
     . exact .inr ⟨c,wCq _ h⟩
   . rename_i hk;refine iG (h.imp_left λh=>?_);rcases List.mem_cons.mp h with e|h
     . cases e;exact absurd rfl hk
     . exact h
theorem DY{l:List (Str×Addr)}:(∃c,(x,c)∈l)->∃c,l.lookup x=some c:=by
 induction l with
 | nil=>rintro⟨_,h⟩;cases h
 | cons p r ih =>
   rintro⟨c,h⟩;rw[List.lookup_cons];cases hb:x==p.1 with
   | true=>exact⟨p.2,rfl⟩
   | false =>
     rcases List.mem_cons.mp h with e|h
     . rw[<-e] at hb;rw[beq_self_eq_true] at hb;cases hb
     . exact ih ⟨c,h⟩
theorem eE(h:(cellsFrom n names cl).lookup x=some c):((x,c)∈cellsFrom n names []/\(x,NameKind.cell)∈names/\n<=c)∨cl.lookup x=some c:=by
 rw[cN,List.lookup_append] at h;cases e:(cellsFrom n names []).lookup x with
 | none=>rw[e] at h;exact .inr h
 | some d =>
   rw[e] at h;cases h;have m:=PySem.mem_of_lookup e;rcases dR m with z|z
   . cases z
   . exact .inl ⟨m,z⟩
theorem sJ(hx:(x,NameKind.cell)∉names)(h:cl.lookup x=some c):(cellsFrom n names cl).lookup x=some c:=by
 rw[cN,List.lookup_append];cases e:(cellsFrom n names []).lookup x with
 | none=>exact h
 | some d =>
   rcases dR (PySem.mem_of_lookup e) with z|z
   . cases z
   . exact absurd z.1 hx
theorem yV(h:(x,NameKind.cell)∈names):∃c,(cellsFrom n names cl).lookup x=some c/\n<=c:=by
 obtain⟨c,e⟩:=DY (iG (n:=n) (acc:=[]) (.inl h));refine⟨c,by rw[cN,List.lookup_append,e];rfl,?_⟩;rcases dR (PySem.mem_of_lookup e) with z|z
 . cases z
 . exact z.2
noncomputable def aLw(scope:Scope)(x:Str):Bool:=scope.names.contains (x,NameKind.cell)
theorem EK
   (hQ:Q (newEnv scope s.heap.objs.size globals (cellsFrom (s.heap.objs.size+1) scope.names cl) qual none .none (some env) builtinsNs) {s with heap:=pushCells (s.heap.push {cls:=.type "dict",data:=.dict #[]}) scope.names}) :
   wpAny M A (newFunctionEnv scope globals cl [] qual none .none (some env)) Q E s:=by
 simp only[newFunctionEnv,Option.isSome_some,if_true];refine wAq (wpAny_alloc ?_);refine wAq (wpAny_layCells _ (λname kind cells=>by cases hkc:kind==NameKind.cell<;>simp[hkc]) _ _ _ _ ?_);rw[show({s with heap:=s.heap.push {cls:=.type "dict",data:=.dict #[]}}:J7).heap.objs.size=s.heap.objs.size+1 from Heap.size_push ..];rw[List.forIn_nil];exact wAq (wBq (wBq hQ))
noncomputable def cxC(X:Cx)(N:List Str)(scope:Scope)(cl:List (Str×Addr))(C:Addr)(s₀:J7)(H₀:Hp)(ex:List Addr):Cx :=
 {X with N:=N,s₀:=s₀,H₀:=H₀,env:=compEnvC scope (cellsFrom (C+1) scope.names cl) C X.env,outer:=X.stack,stack:=X.stack,ex:=ex,fn:=aLw scope,pn:=[],xe:=NoE}
noncomputable def UI(js:List (Option Nat))(σ:St):St:=js.map λo=>match o with|none=>none|some j=>(σ[j]?).getD none
noncomputable def gR(X:Cx)(scope:Scope)(cl:List (Str×Addr)):List Str->List (Option Nat)->Prop
 | [],[]=>True
 | _::N,none::J=>gR X scope cl N J
 | x::N,some j::J=>(X.N[j]? =some x/\X.env.kindOf x=some .cell/\(relabel scope X.env).names.lookup x=some .cell/\∃c,cl.lookup x=some c/\X.env.cells.lookup x=some c)/\gR X scope cl N J
 | _,_=>False
theorem gR.len:∀{N:List Str} {J:List (Option Nat)},gR X scope cl N J->N.length=J.length
 | [],[],_=>rfl
 | _::_,none::_,h=>congrArg (· + 1) (gR.len (show gR X scope cl _ _ from h))
 | _::_,some _::_,h=>congrArg (· + 1) (gR.len h.2)
 | [],_::_,h=>h.elim
 | _::_,[],h=>h.elim
theorem gR.at:∀{N:List Str} {J:List (Option Nat)} {i:Nat} {x:Str} {σ:St} {v:V},gR X scope cl N J->N[i]? =some x->(UI J σ)[i]? =some (some v)->
   ∃(j:Nat),σ[j]? =some (some v)/\X.N[j]? =some x/\X.env.kindOf x=some .cell/\(relabel scope X.env).names.lookup x=some .cell/\∃c,cl.lookup x=some c/\X.env.cells.lookup x=some c
 | [],[],_,_,_,_,_,h,_=>by cases h
 | y::N,none::J,i,x,σ,v,ok,h,q=>by
   cases i with
   | zero=>cases q
   | succ i=>exact gR.at (show gR X scope cl N J from ok) h q
 | y::N,some j::J,i,x,σ,v,ok,h,q=>by
   cases i with
   | zero =>
     cases h;refine⟨j,?_,ok.1⟩;have q':some ((σ[j]?).getD none)=some (some v):=q;have q2:=Option.some.inj q';cases e:σ[j]? with
     | none=>rw[e] at q2;cases q2
     | some o=>rw[e] at q2;exact congrArg some q2
   | succ i=>exact gR.at ok.2 h q
 | [],_::_,_,_,_,_,ok,_,_=>ok.elim
 | _::_,[],_,_,_,_,ok,_,_=>ok.elim
section
variable{X:Cx}{j4:List (Addr×Obj)}{σ:St}{H:Hp}{s:J7}{N:List Str}{scope:Scope}{cl:List (Str×Addr)}{js:List (Option Nat)}{fp:List Addr}
structure jO(X:Cx)(N:List Str)(scope:Scope)(cl:List (Str×Addr))(js:List (Option Nat)):Prop where
 clos:closureFor scope X.env=pure cl
 own:∀x,(x,NameKind.cell)∈scope.names->cl.lookup x=none
 kind:scope.kind= .function
 names:∀y∈scope.names,y.2= .local->scope.names.lookup y.1=some .local
 free:nN cl X.env.cells scope.names
 cls:xS X.env.cells cl
 cap:gR X scope cl N js
theorem EF(S:jO X N scope cl js)(I:Inv X j4 σ H s)(hf:∀b∈fp,xD X j4 H b)(he:∀b∈fp,b<s.heap.objs.size)(hn:h'.Ns s.heap.objs.size m)
   (k:∀b o,s.heap.get? b=some o->h'.get? b=some o) (hc:CellsOk h' (s.heap.objs.size+1) (cellsFrom (s.heap.objs.size+1) scope.names [])):Inv (cxC X N scope cl s.heap.objs.size s H fp) [] (UI js σ) H {s with heap:=h',toks:=t'}:=by
 have hcl:∀x c,cl.lookup x=some c->X.env.cells.lookup x=some c:=λx c h=>S.cls.look h;have lo:∀x c,cl.lookup x=some c->c<s.heap.objs.size:=λx c h=>let ⟨_,q⟩:=I.cell x c (hcl x c h);q.lt
 refine⟨⟨I.mod,?_,I.ok.glob,I.ok.blt,Nat.le_refl _,λx y c a b=>?_,λx hx=>?_,λx c z e=>?_,I.ok.hd,I.ok.frames,.inl rfl,λb hb=>⟨Nat.ne_of_lt (he b hb),λx c e=>?_⟩,
   I.bs,Nat.le_trans I.ok.bsz I.sz,λb o e hb=>?_,λb hb z=>?_,I.stack,I.stkFree⟩,rfl,I.bare,⟨λb o q _ _ _=>k b o q,λb o q _ _ _=>⟨o.slots,k b o q⟩,λ_ _ _ n _=>n,λb o q _=>⟨o,k b o q⟩,λ_ _ q=>q,λ_ _ _ q=>q,λb ps q=>⟨#[],by rw[show H b=_ from q];simp⟩⟩,?_,λx c e=>?_,?_,λx c e=>?_,(λp hp=>nomatch hp),I.hok.kept k,?_⟩
 . exact S.kind
 . rcases eE a with ⟨m1,_,l1⟩|a1<;>rcases eE b with ⟨m2,_,l2⟩|b1
   . exact name_of_addr hc.apart m1 m2
   . exact absurd (wFq (lo y c b1) (Nat.le_of_succ_le l1)) (Nat.lt_irrefl _)
   . exact absurd (wFq (lo x c a1) (Nat.le_of_succ_le l2)) (Nat.lt_irrefl _)
   . exact I.ok.inj x y c (hcl x c a1) (hcl y c b1)
 . have q:=nN.look (f:=λy=>if (y.2==.free&&X.env.scope.kind==.function&&X.env.kindOf y.1==some .cell) then(y.1,.cell) else(y.1,y.2)) (λy=>by
     by_cases hc:(y.2==.free&&X.env.scope.kind==.function&&X.env.kindOf y.1==some .cell)=true
     . rw[jd hc];refine⟨rfl,λ_=>.inr ?_⟩;rw[Bool.and_eq_true,Bool.and_eq_true] at hc;exact beq_iff_eq.mp hc.1.1
     . rw[jb hc];exact⟨rfl,λz=>z⟩) S.free hx
   rcases q with ⟨c,q⟩|q
   . refine⟨c,sJ (λz=>?_) q⟩;rw[S.own x z] at q;cases q
   . obtain⟨c,e,_⟩:=yV (n:=s.heap.objs.size+1) (cl:=cl) q;exact⟨c,e⟩
 . have z':(x,NameKind.cell)∈scope.names:=List.contains_iff_mem.mp z;rcases eE e with ⟨_,_,l⟩|q
   . exact Nat.le_of_succ_le l
   . rw[S.own x z'] at q;cases q
 . rcases eE e with ⟨_,_,l⟩|q
   . exact Nat.ne_of_gt (wFq (he b hb) (Nat.le_of_succ_le l))
   . exact(hf b hb).2.2.2.2.1 x c (hcl x c q)
 . obtain⟨_,n2⟩:=I.bs b o e;rcases(hf b hb).2.2.2.1 with z|z
   . exact I.ok.noex b o e z
   . exact absurd (wFq (Heap.lt_size (I.ok.bs b o e).1) z) (Nat.lt_irrefl _)
 . obtain⟨_,f1,f2,_⟩:=hf b hb;exact(List.mem_cons.mp (I.stkSub b z)).elim f1 f2
 . obtain⟨mX,hnX,hl⟩:=I.loc;refine⟨m,hn,λi x v e1 e2 e3=>?_⟩;obtain⟨j,q1,q2,q3,q4,c,q5,q6⟩:=S.cap.at e1 e2;obtain⟨u,r,l⟩:=hl j x v q2 q1 (.inr (.inl q3));refine⟨u,r,.inr ⟨.inl q4,c,sJ (λz=>?_) q5,?_⟩⟩
   . rw[S.own x z] at q5;cases q5
   rcases l with ⟨l,_⟩|⟨_,c',e',z⟩
   . rw[q3] at l;cases l
   . rw[q6] at e';cases e';obtain⟨o,ho,hd⟩:=z;exact⟨o,k _ _ ho,hd⟩
 . rcases eE e with ⟨m1,_,_⟩|q
   . exact⟨none,(hc.empty x c m1).1⟩
   . obtain⟨v,o,ho,hd⟩:=I.cell x c (hcl x c q);exact⟨v,o,k _ _ ho,hd⟩
 . exact I.hok.fresh (Nat.le_refl _)
 . rcases eE e with ⟨_,_,l⟩|q
   . exact I.hok.fresh (Nat.le_of_succ_le l)
   . exact I.freeC x c (hcl x c q)
 . show(js.map _).length=N.length;rw[List.length_map];exact S.cap.len.symm
end
noncomputable def PTs(X:Cx)(ifs:List Expr)(t:TT):Prop :=
 ∀(j4:List (Addr×Obj)) (s:J7) (σ:St) (H:Hp) (Q:Bool->Hp->Prop),Inv X j4 σ H s->t σ H Q->
   wpAny (model X.prog X.w) X.A (forIn ifs true λc r=>if r=true then do let ok <-isTrue c X.env (eval c X.env);pure (ForInStep.yield ok) else pure (ForInStep.yield r)) (TP X j4 σ Q) X.xe s
theorem aCo:PTs X [] (λ_ H Q=>Q true H):=λj4 s σ H Q I h=>wpAny_tests_nil ⟨H,I,h⟩
theorem aA5(h:PT X c t):PTs X [c] t:=λj4 s σ H Q I q=>wpAny_tests_one (h j4 s σ H Q I q)
def ZL(J:It)(D:Addr)(g:TG)(ts:TT)(te:TE)(Q:VK)(σ:St)(H:Hp):Prop:= ∃W:Nat->Nat->St->Hp->Prop,(∃m,W 0 m σ H)/\∀i m σ' H',W i m σ' H'->
 (J.stop i H'/\Q (.ref D) H')∨(J.go i H'/\∃N:St->Hp->Prop,(∀σ2 H2,N σ2 H2->∃m',m'<m/\W (i+1) m' σ2 H2)/\∀x H2,J.yld i H' x H2->g x σ' H2 λσ3 H3=>ts σ3 H3 λok H4=>if ok=true then te σ3 H4 λy H5 =>
   ∃ys,H5 D=some (.lst ys)/\ys.length<sizeLine/\N σ3 (upd H5 D (.lst (ys++[y]))) else N σ3 H4)
def XO(wi:TI)(g:TG)(ts:TT)(te:TE)(js:List (Option Nat)):TE:=λσ H Q=>wi σ H λJ H1=>∀D,H1 D=none->ZL J D g ts te Q (UI js σ) (upd H1 D (.lst []))
section
variable{X:Cx}{j4:List (Addr×Obj)}{σ:St}{H:Hp}{s:J7}{N:List Str}{scope:Scope}{cl:List (Str×Addr)}{js:List (Option Nat)}{fp:List Addr}{tg elt j5:Expr}{ifs:List Expr}{pos:Pos}{J:It}{it:Addr}{tn:Nat->Heap->Prop}
 {g:TG} {ts:TT} {te:TE}
structure aG6(X:Cx)(j4:List (Addr×Obj))(σ:St)(Q:VK)(D C:Addr)(s':J7):Prop where
 ex:∃H' m,Inv X j4 σ H' s'/\s'.heap.Ns C m/\H' C=none/\C≠X.env.locals/\C∉X.fs/\X.s₀.heap.objs.size<=C/\(∀x c,X.env.cells.lookup x=some c->c≠C)/\(∀p∈X.pn++j4,p.1≠C)/\Q (.ref D) H'
theorem EZ(S:jO X N scope cl js)(hc:X.calm=true)(I:Inv X j4 σ H s)(T:FT X.prog X.w X.K tg J fp it tn)(st:tn 0 s.heap)(hf:∀b∈fp,xD X j4 H b)
   (hg:∀C s₀ H₀ ex,PG (cxC X N scope cl C s₀ H₀ ex) tg g) (ht:∀C s₀ H₀ ex,PTs (cxC X N scope cl C s₀ H₀ ex) ifs ts) (he:∀C s₀ H₀ ex,PE (cxC X N scope cl C s₀ H₀ ex) elt te)
   (q:∀D,H D=none->ZL J D g ts te Q (UI js σ) (upd H D (.lst [])))
   {RR:Value->Addr->Result->J7->Prop} (hR:∀D C s',aG6 X j4 σ Q D C s'->RR (.ref D) C (.ok .next) s') {E:Value->J7->Prop} :
   wpAny (model X.prog X.w) X.A (newList []) (λacc s₃=>wpAny (model X.prog X.w) X.A (newFunctionEnv scope X.env.globals cl [] X.env.qual none .none (some X.env)) (λcenv s₄ =>
     codeAny (model X.prog X.w) X.A (.compStart (.ListComp elt [⟨tg,j5,ifs,0⟩] scope pos) 0 (.ref it) acc {cenv with scope:=relabel scope X.env}) (RR acc cenv.locals) s₄) E s₃) E s:=by
 refine wpAny_newObj_type (EK ?_);have fD:H s.heap.objs.size=none:=I.hok.fresh (Nat.le_refl _);have I3:Inv X j4 σ (upd H s.heap.objs.size (.lst [])) {s with heap:=s.heap.push {cls:=.type "list",dict:=none,data:=.seq ([]:List Value).toArray},toks:=s.toks} :=
   I.laid (t':=s.toks) (λb u e=>wEq _ e) (Nat.le_refl _) ⟨Nat.zero_le _,[],0,.nil,wGq _ rfl⟩
 have lt:∀b∈fp,b<s.heap.objs.size:=λb hb=>let ⟨o,e,_⟩:=T.obj _ _ st b hb;Heap.lt_size e
 have hf3:∀b∈fp,xD X j4 (upd H s.heap.objs.size (.lst [])) b:=λb hb=>⟨by rw[aG (Nat.ne_of_lt (lt b hb))];exact(hf b hb).1,(hf b hb).2⟩;dsimp only;generalize hH2:s.heap.push {cls:=.type "list",dict:=none,data:=.seq ([]:List Value).toArray}=H2 at I3 ⊢;have hns₁:(pushCells (H2.push {cls:=.type "dict",data:=.dict #[]}) scope.names).Ns H2.objs.size (λ_=>none):=(Heap.Ns.new H2 (.type "dict")).keeps (pushCells_keeps _ _);have hco:CellsOk (pushCells (H2.push {cls:=.type "dict",data:=.dict #[]}) scope.names) (H2.objs.size+1) (cellsFrom (H2.objs.size+1) scope.names []):=by
   have ok:=cellsFrom_ok scope.names (H2.push {cls:=.type "dict",data:=.dict #[]}) (H2.objs.size+1) [] ⟨λ_ _ hm=>(nomatch hm),List.Pairwise.nil⟩ (by rw[Heap.size_push];exact Nat.le_refl _);rw[Heap.size_push] at ok;exact ok
 have keep:∀b o,H2.get? b=some o->(pushCells (H2.push {cls:=.type "dict",data:=.dict #[]}) scope.names).get? b=some o:=λb o e=>pushCells_keeps _ _ b o (wEq _ e);generalize pushCells (H2.push {cls:=.type "dict",data:=.dict #[]}) scope.names=h₁ at hns₁ hco keep ⊢;have hC:H2.objs.size=s.heap.objs.size+1:=by rw[<-hH2,Heap.size_push]
 have Ic:=EF (t':=s.toks) S I3 hf3 (λb hb=>by show b<H2.objs.size;rw[hC];exact Nat.lt_succ_of_lt (lt b hb)) hns₁ keep hco;obtain⟨W,⟨m0,w0⟩,turn⟩:=q _ fD;have stat:∀{H':Hp},(∀b∈fp,H' b=none)->∀b∈fp,xD (cxC X N scope cl H2.objs.size {s with heap:=H2,toks:=s.toks} (upd H s.heap.objs.size (.lst [])) fp) [] H' b:=λhn b hb =>
   ⟨hn b hb,Nat.ne_of_lt (by rw[hC];exact Nat.lt_succ_of_lt (lt b hb)),λz=>(List.mem_cons.mp (I.stkSub b z)).elim (hf b hb).2.1 (hf b hb).2.2.1,.inl hb,λx c e=>(eE e).elim (λz=>Nat.ne_of_gt (wFq (lt b hb) (Nat.le_trans (by rw[hC];omega) z.2.2))) λq=>(hf b hb).2.2.2.2.1 x c (S.cls.look q),(λp hp=>nomatch hp)⟩
 have st1:tn 0 h₁:=T.keep _ _ _ st λb hb o e=>keep b o (by rw[<-hH2];exact wEq _ e);have loop:codeAny (model X.prog X.w) X.A (.compLoop (.ListComp elt [⟨tg,j5,ifs,0⟩] scope pos) 0 (.ref it) (.ref s.heap.objs.size) (compEnvC scope (cellsFrom (H2.objs.size+1) scope.names cl) H2.objs.size X.env)) (RR (.ref s.heap.objs.size) H2.objs.size)
     {s with heap:=h₁,toks:=s.toks}:=by
   refine NE (λn s'=>∃i σ' H',Inv (cxC X N scope cl H2.objs.size {s with heap:=H2,toks:=s.toks} (upd H s.heap.objs.size (.lst [])) fp) [] σ' H' s'/\tn i s'.heap/\(∀b∈fp,H' b=none)/\W i n σ' H') ?_ m0
     ⟨0,_,_,Ic,st1,λb hb=>(hf3 b hb).1,w0⟩
   rintro n s3 ⟨i,σ3,H3,I3',st3,fr3,w3⟩;rcases turn i n σ3 H3 w3 with ⟨stop,qn⟩|⟨go,Nx,hN,step⟩
   . refine thn (T.done (cxC X N scope cl H2.objs.size {s with heap:=H2,toks:=s.toks} (upd H s.heap.objs.size (.lst [])) fp) rfl rfl rfl hc i [] s3 σ3 H3 NoE I3' (stat fr3) st3 stop) λr s4 zz=>?_;obtain⟨hr,I4⟩:=zz;subst hr;obtain⟨mC,hnC,_⟩:=I4.loc;have IX:Inv X j4 σ H3 s4:=I3.call' (ch:=fp) I4.os I4.base I4.hok I4.bare λb hb=>by
       obtain⟨_,f1,_,f3,f4,f5⟩:=hf3 b hb;exact⟨f3,f1,f4,f5⟩
     have up:s.heap.objs.size<=H2.objs.size:=by rw[hC];exact Nat.le_succ _
     have fp0:=I.fpOk (H':=H3) up I4.free;exact hR _ _ s4 ⟨⟨H3,mC,IX,hnC,I4.free,fp0.2.1,fp0.2.2.1,Nat.le_trans I.sz up,fp0.2.2.2.2.1,fp0.2.2.2.2.2,qn⟩⟩
   . refine thn (T.item (cxC X N scope cl H2.objs.size {s with heap:=H2,toks:=s.toks} (upd H s.heap.objs.size (.lst [])) fp) rfl rfl rfl hc i [] s3 σ3 H3 NoE I3' (stat fr3) st3 go) λr s4 zz=>?_;obtain⟨u,hr,h4⟩:=zz;subst hr;refine thn h4 λ_ s5 zz=>?_;obtain⟨x,H5,I5,r5,y5,st5,fr5⟩:=zz;have I5':=I5.pinned (stat fr5) (T.obj _ _ st5);refine thn (hg _ _ _ _ _ s5 σ3 H5 x u _ I5' r5 (step x H5 y5)) λ_ s6 zz=>?_;obtain⟨σ6,H6,I6,q6⟩:=zz;refine thn (ht _ _ _ _ _ s6 σ6 H6 _ I6 q6) λok s7 zz=>?_;obtain⟨H7,I7,q7⟩:=zz;have again:∀{σ8:St} {H8:Hp} {s8:J7},Inv (cxC X N scope cl H2.objs.size {s with heap:=H2,toks:=s.toks} (upd H s.heap.objs.size (.lst [])) fp) ([]++uU fp s5.heap) σ8 H8 s8->Nx σ8 H8->
         ∃m,m<n/\∃i σ' H',Inv (cxC X N scope cl H2.objs.size {s with heap:=H2,toks:=s.toks} (upd H s.heap.objs.size (.lst [])) fp) [] σ' H' s8/\tn i s8.heap/\(∀b∈fp,H' b=none)/\W i m σ' H':=λ{σ8 H8 s8} I8 n8=>by
       obtain⟨m',hm,w8⟩:=hN σ8 H8 n8;refine⟨m',hm,i+1,σ8,H8,I8.unpinned,T.keep _ _ _ st5 λb hb o e=>(I8.pin (b,o) (List.mem_append_right _ (List.mem_append_right _ (kB hb e)))).1,λb hb=>?_,w8⟩;obtain⟨o,e,d⟩:=T.obj _ _ st5 b hb;exact(I8.pin (b,o) (List.mem_append_right _ (List.mem_append_right _ (kB hb e)))).2.1
     cases ok with
     | false=>exact again I7 q7
     | true =>
       refine thn (he _ _ _ _ _ s7 σ6 H7 _ I7 q7) λv s8 zz=>?_;obtain⟨y,H8,I8,r8,ys,e8,l8,q8⟩:=zz;exact thn (xZ _ s8 σ6 H8 (.ref s.heap.objs.size) [y] (.ref s.heap.objs.size) [v] (λ_ H9=>Nx σ6 H9) I8 rfl (.cons r8 .nil) ⟨_,ys,y,rfl,rfl,e8,l8,q8⟩)<|by rintro _ s9 ⟨_,H9,I9,_,q9⟩;exact again I9 q9
 exact codeAny_compStart_list loop (T.self _ 0 _ _ _ st1 loop)
theorem aA9(S:jO X N scope cl js)(hc:X.calm=true)(hi:PI X tg j5 wi)(hg:∀C s₀ H₀ ex,PG (cxC X N scope cl C s₀ H₀ ex) tg g)(ht:∀C s₀ H₀ ex,PTs (cxC X N scope cl C s₀ H₀ ex) ifs ts)(he:∀C s₀ H₀ ex,PE (cxC X N scope cl C s₀ H₀ ex) elt te)
   (hs:∀x,foldedSetIterable j5 X.env x=pure x:=by intro _;rfl):PE X (.ListComp elt [⟨tg,j5,ifs,0⟩] scope pos) (XO wi g ts te js):=by
 intro j4 s σ H Q I h;rw[eval_ListComp];refine wpAny_comprehension_free (use:=none) (g:=⟨tg,j5,ifs,0⟩) (gs:=[]) rfl hs S.clos S.kind S.names (thn (hi j4 s σ H _ I h) λv s1 h1=>thn h1 λitv s2 h2=>?_);obtain⟨it,fp,tn,J,H2,e,I2,T,st2,f2,q⟩:=h2;subst e;refine EZ (RR:=λacc C=>compPost (model X.prog X.w) X.A X.xe none (EP X j4 σ Q) acc C) S hc I2 T st2 f2 hg ht he q ?_;rintro D C s' ⟨H',m,I',hn,f0,f1,_,f3,f4,f5,q'⟩;exact⟨m,hn,λh' sb=>⟨.ref D,H',I'.turned (t':=s'.toks) (λb o hb e=>(sb.2 b hb).trans e) f0 f1 (.inr f3) f4 f5,rfl,q'⟩⟩
theorem aBY(S:jO X N scope cl js)(hc:X.calm=true)(hN:X.N.Nodup)(hi':X.N[i]? =some y)(hy:X.env.scope.names.lookup y=some .local)(hi:PI X tg j5 wi)
   (hg:∀C s₀ H₀ ex,PG (cxC X N scope cl C s₀ H₀ ex) tg g) (ht:∀C s₀ H₀ ex,PTs (cxC X N scope cl C s₀ H₀ ex) ifs ts) (he:∀C s₀ H₀ ex,PE (cxC X N scope cl C s₀ H₀ ex) elt te)
   (hsw:swapsWith (.ListComp elt [⟨tg,j5,ifs,0⟩] scope pos) (some (.Name y py)) spos.line X.env=pure true:=by rfl)
   (hs:∀x,foldedSetIterable j5 X.env x=pure x:=by intro _;rfl):PS X (.Assign [.Name y py] (.ListComp elt [⟨tg,j5,ifs,0⟩] scope pos) spos) (YW (XO wi g ts te js) (RU i)):=by
 intro j4 s σ H D' I h;rw[exec_Assign_Name_used _ _ _ _ hsw];refine wAq (wpAny_standAt (wAq ?_));show wpAny _ X.A (do let _ <-comprehension (.ListComp elt [⟨tg,j5,ifs,0⟩] scope pos) scope X.env _ (newList []) false (eval j5 X.env) (some (assign (.Name y py) X.env))) _ _ s;refine wAq (wpAny_mono (wpAny_comprehension_free (use:=some (assign (.Name y py) X.env)) (g:=⟨tg,j5,ifs,0⟩) (gs:=[]) (Q:=λ_ s'=>SP X j4 D' .next s') rfl hs S.clos S.kind S.names
   (thn (hi j4 s σ H _ I h) λv s1 h1=>thn h1 λitv s2 h2=>?_)) (λ_ s' hq=>wBq (wBq hq)) λ_ _ e=>e)
 obtain⟨it,fp,tn,J,H2,e,I2,T,st2,f2,q⟩:=h2;subst e;refine EZ (Q:=λx H1=>RU i x σ H1 D'.nx) (RR:=λacc C=>compPost (model X.prog X.w) X.A X.xe (some (assign (.Name y py) X.env)) (λ_ s'=>SP X j4 D' .next s') acc C) S hc I2 T st2 f2 hg ht he q ?_;rintro D C s' ⟨H',m,I',hn,f0,f1,f2',f3,f4,f5,q'⟩;obtain⟨oC,es,ep,hoC,hdC,hrC⟩:=hn;have Ip:Inv X (j4++[(C,oC)]) σ H' s':=I'.pins_of λp hp=>(List.mem_append.mp hp).elim (λz=>I'.pin p (List.mem_append_right _ z)) λz=>by
   rw[List.mem_singleton.mp z];exact⟨hoC,f0,f1,f2',λv z=>by rw[hdC] at z;cases z⟩
 show wpAny _ X.A (assign (.Name y py) X.env (.ref D)) _ _ _;refine thn (KN (i:=i) hN hi' (.inl hy) (.inr hy) _ s' σ H' (.ref D) (.ref D) _ Ip rfl q') λ_ s'' zz=>?_;obtain⟨σ',H'',I'',q''⟩:=zz;have pc:=I''.pin (C,oC) (List.mem_append_right _ (List.mem_append_right _ (List.mem_singleton.mpr rfl)));refine⟨m,⟨oC,es,ep,pc.1,hdC,hrC⟩,λh' sb=>⟨σ',H'',?_,q''⟩⟩;exact(I''.unpinned).turned (t':=s''.toks) (λb o hb e=>(sb.2 b hb).trans e) pc.2.1 f1 (.inr f3) f4 f5
end
mutual
inductive RdD(H:Hp):V->PyData->Prop
 | non:RdD H .non .none
 | bl (b:Bool):RdD H (.bl b) (.bool b)
 | int (i:Int):RdD H (.int i) (.int i)
 | str (x:Str):RdD H (.str x) (.str x)
 | tup {a:Addr} {xs:List V} {ds:List PyData}:H a=some (.tup xs)->RdDs H xs ds->RdD H (.ref a) (.tuple ds)
 | lst {a:Addr} {xs:List V} {ds:List PyData}:H a=some (.lst xs)->RdDs H xs ds->RdD H (.ref a) (.list ds)
inductive RdDs(H:Hp):List V->List PyData->Prop
 | nil:RdDs H [] []
 | cons {x:V} {xs:List V} {d:PyData} {ds:List PyData}:RdD H x d->RdDs H xs ds->RdDs H (x::xs) (d::ds)
end
section
variable{P:J9}{w:World}{H H':Hp}{h:Heap}
mutual
theorem RdD.reads(ok:HOk P w H h):∀{x:V} {d:PyData} {u:Value},RdD H x d->aN x u->∃as,Reads h u d as
 | _,_,_,.non,r=>⟨[],by cases r;exact .none⟩
 | _,_,_,.bl b,r=>⟨[],by cases r;exact .bool b⟩
 | _,_,_,.int i,r=>⟨[],by obtain⟨t,rfl⟩:=r;exact .int i t⟩
 | _,_,_,.str x,r=>⟨[],by obtain⟨t,rfl⟩:=r;exact .str x t⟩
 | _,_,_,.tup e rs,r=>by
   cases r;obtain⟨_,its,rv,⟨o,ho,hc,n,hd⟩,_⟩:=ok _ _ e;obtain⟨as,q⟩:=RdDs.reads ok rs rv;exact⟨as,.tuple ho hc hd (by simpa using q)⟩
 | _,_,_,.lst e rs,r=>by
   cases r;obtain⟨_,its,n,rv,ho⟩:=ok _ _ e;obtain⟨as,q⟩:=RdDs.reads ok rs rv;exact⟨_::as,.list ho rfl rfl (by simpa using q)⟩
theorem RdDs.reads(ok:HOk P w H h):∀{xs:List V} {ds:List PyData} {us:List Value},RdDs H xs ds->aI xs us->∃as,ReadsAll h us ds as
 | _,_,_,.nil,r=>⟨[],by cases r;exact .nil⟩
 | _,_,_,.cons a b,r=>by
   cases r with
   | cons r1 r2 =>
     obtain⟨as,q⟩:=RdD.reads ok a r1;obtain⟨bs,q2⟩:=RdDs.reads ok b r2;exact⟨as++bs,.cons q q2⟩
end
mutual
theorem RdD.same(s:aJ H H'):∀{x:V} {d:PyData},RdD H x d->RdD H' x d
 | _,_,.non=>.non
 | _,_,.bl b=>.bl b
 | _,_,.int i=>.int i
 | _,_,.str x=>.str x
 | _,_,.tup e rs=>.tup (s _ _ e) (RdDs.same s rs)
 | _,_,.lst e rs=>.lst (s _ _ e) (RdDs.same s rs)
theorem RdDs.same(s:aJ H H'):∀{xs:List V} {ds:List PyData},RdDs H xs ds->RdDs H' xs ds
 | _,_,.nil=>.nil
 | _,_,.cons a b=>.cons (RdD.same s a) (RdDs.same s b)
end
end
section
variable{X:Cx}
end
section
variable{X:Cx}{CX:CXT}{k:Nat}{f C:Addr}{fd:Ja}{ps ks:List Str}{sp:Sp}{E:XK}{j4:List (Addr×Obj)}{σ:St}{H:Hp}{s:J7}{Q:VK}{us:List Value}{vs:List V}{dvs:List V}{ds:List Value}
theorem eX(F:aW X.prog X.w X.K X.mg X.base CX k f fd ps sp)(hr:aR k A')(e0:rW X.prog X.w X.K X.mg X.base A' X.stack s H)(hb:aP X.K fd ps ds)(hd:aI dvs ds)(hx:jX CX X E)
   (I:Inv X j4 σ H s) (r:aI vs us) (h:sp (vs++dvs) H Q E):wpAny (model X.prog X.w) A' (call (.ref f) us) (EP X j4 σ Q) X.xe s:=by
 have r2:aI (vs++dvs) (us++ds):=r.append hd;have hl:(us++ds).length=ps.length:=by rw[<-r2.length];exact F.len _ _ _ _ h
 refine wpAny_call (codeAny_mono (F.run A' X.stack s H ⟨us,[]⟩ (us++ds) (vs++dvs) Q E hr e0 (hb s us I.kIn hl) r2 h) λr s' hq=>?_);cases r with
 | error e=>exact hx j4 σ H s e s' I hq
 | ok fl =>
   cases fl with
   | ret u=>exact I.after hq
   | next=>exact False.elim hq
   | brk=>exact False.elim hq
   | cont=>exact False.elim hq
theorem aR.in2(r:aR (k+2) A):aR k A.in1.in1:=(aR.in1 (aR.in1 r))
end
structure VP(K:W.Frag)(C:Addr):Prop where
 cl:Cls K C
 ha:W.findIn K (.ref C) "__class__"=some (some (.builtin "object.__class__"))
 hn:W.specialIn K (.builtin "object.__class__") "__get__"=some (some (.builtin "getset_descriptor.__get__"))
 htk:W.takesIn K (.builtin "object.__class__")=some true
 hm:W.mroIn K C (.type "object")=some true
theorem bB{j4:List (Addr×Obj)}{σ:St}{s:J7}{fs:List (Str×V)}(I:Inv X j4 σ H s)(e:H p=some (.ins C dx fs)):∃od,W.InstAt s.heap p (W.instObj C dx) C (some od):=by
 obtain⟨mA,O,_⟩:=pB I.hok e;obtain⟨od,J,_⟩:=O.look;exact⟨od,J⟩
section
variable{X:Cx}{CX:CXT}{k:Nat}{f C:Addr}{fd:Ja}{sp:Sp}
noncomputable def aII(C:Addr)(sp:Sp):List V->Hp->VK->Prop:=λxs H Q=>∃p dx fs,xs=[.ref p]/\H p=some (.ins C dx fs)/\sp [.ref p] H (λv H'=>∃n,v= .int n/\0<=n/\n<2^63/\Q (.int n) H') E0
theorem NQ(M:cR X.K C "__len__" f)(F:aW X.prog X.w X.K X.mg X.base CX0 k f fd ["self"] sp)(hr:aR (k+1) X.A)(hb:aP X.K fd ["self"] []):bC X (.builtin "len") (aII C sp):=by
 rintro j4 s σ H xs us Q I r ⟨p,dx,fs,e,ea,q⟩;subst e;obtain⟨u,rfl,ru⟩:=fS r;cases ru;obtain⟨od,J⟩:=bB I ea;obtain⟨m,Fm⟩:=I.fr;refine W.len_K Fm I.ok.mod.kin J M.at_ M.fn (thn (eX (dvs:=[]) (ds:=[]) (vs:=[.ref p]) F hr.in1 I.env0.in1 hb .nil hV I (.cons rfl .nil) q) λv s' zz=>?_);obtain⟨x,H',I',rx,n,e,h0,h1,q'⟩:=zz;subst e;obtain⟨t,rfl⟩:=rx;exact⟨⟨h0,h1⟩,.int n,H',I'.tok _,⟨_,rfl⟩,q'⟩
noncomputable def aDX(C:Addr)(sp:Sp):List V->Hp->VK->Prop:=λxs H Q=>∃p dx fs,xs=[.ref p]/\H p=some (.ins C dx fs)/\sp [.ref p] H (λv H'=>∃x,v= .str x/\Q (.str x) H') E0
theorem IL(M:cR X.K C "__repr__" f)(F:aW X.prog X.w X.K X.mg X.base CX0 k f fd ["self"] sp)(hr:aR (k+1) X.A)(hb:aP X.K fd ["self"] []):bC X (.builtin "repr") (aDX C sp):=by
 rintro j4 s σ H xs us Q I r ⟨p,dx,fs,e,ea,q⟩;subst e;obtain⟨u,rfl,ru⟩:=fS r;cases ru;obtain⟨od,J⟩:=bB I ea;obtain⟨m,Fm⟩:=I.fr;refine W.repr_K hr.in1.units0 Fm I.ok.mod.kin J M.at_ M.fn (thn (eX (dvs:=[]) (ds:=[]) (vs:=[.ref p]) F hr.in1 I.env0.in1 hb .nil hV I (.cons rfl .nil) q) λv s' zz=>?_);obtain⟨x,H',I',rx,y,e,q'⟩:=zz;subst e;obtain⟨t,rfl⟩:=rx;exact⟨.str y,H',I',⟨_,rfl⟩,q'⟩
theorem NN(M:cR X.K C "__str__" f)(F:aW X.prog X.w X.K X.mg X.base CX0 k f fd ["self"] sp)(hr:aR (k+2) X.A)(hb:aP X.K fd ["self"] []):bC X (.type "str") (aDX C sp):=by
 rintro j4 s σ H xs us Q I r ⟨p,dx,fs,e,ea,q⟩;subst e;obtain⟨u,rfl,ru⟩:=fS r;cases ru;obtain⟨od,J⟩:=bB I ea;refine W.kso_call hr.in2.units0 I.kIn J M.at_ M.fn (thn (eX (dvs:=[]) (ds:=[]) (vs:=[.ref p]) F hr.in2 I.env0.in1.in1 hb .nil hV I (.cons rfl .nil) q) λv s' zz=>?_);obtain⟨x,H',I',rx,y,e,q'⟩:=zz;subst e;obtain⟨t,rfl⟩:=rx;exact⟨.str y,H',I',⟨_,rfl⟩,q'⟩
theorem aMq{A':Around}{j4:List (Addr×Obj)}{σ:St}{H:Hp}{s:J7}{p dx:Addr}{fs:List (Str×V)}{Q:Bool->Hp->Prop}(hB:W.findIn X.K (.ref C) "__bool__"=some none)(M:cR X.K C "__len__" f)
   (F:aW X.prog X.w X.K X.mg X.base CX0 k f fd ["self"] sp) (hr:aR k A'.in1) (e0:rW X.prog X.w X.K X.mg X.base A'.in1 X.stack s H) (hb:aP X.K fd ["self"] []) (I:Inv X j4 σ H s) (ea:H p=some (.ins C dx fs))
   (q:sp [.ref p] H (λv H'=>∃n,v= .int n/\0<=n/\n<2^63/\Q (n !=0) H') E0):wpAny (model X.prog X.w) A' (truthy (.ref p)) (TP X j4 σ Q) X.xe s:=by
 obtain⟨od,J⟩:=bB I ea;have XK:=I.kIn;unfold truthy;refine wAq (m:=callSpecial? (.ref p) (Str.ofString "__bool__")) (wAq (wAq (J.type.here ((W.looks_findIn XK hB).here (wBq ?_)))));refine wAq (wAq (J.type.here ((W.looks_findIn XK M.at_).here ?_)));show wpAny _ _ (if (some (Value.ref f)).isNone=true then _ else _) _ _ _;rw[jb (by simp)];refine wAq (wpAny_mono (Q:=λr s'=>∃n t,r=Value.int n t/\TP X j4 σ Q (n !=0) s') ?_ (λr s' h'=>?_) λ_ _ e=>e)
 . refine wpAny_runValue (codeAny_builtin entry_len ?_);rw[Around.under_plainId plain_len _];show wpAny _ _ (Builtin.«len» ⟨[.ref p],[]⟩) _ _ _;unfold Builtin.«len»;refine wAq (m:=oneArg "len" _) (wBq ?_);refine wAq (m:=callSpecial? (.ref p) (Str.ofString "__len__")) (W.special_fn XK J M.at_ (beq_iff_eq.mp M.fn) (thn (eX (dvs:=[]) (ds:=[]) (vs:=[.ref p]) F hr e0 hb .nil hV I (.cons rfl .nil) q) λv s' ⟨x,H',I',rx,n,e,h0,h1,q'⟩=>?_));subst e;obtain⟨t,rfl⟩:=rx;refine wAq (wpAny_holding (wBq ?_));refine wAq (wpAny_letGo ?_);show wpAny _ _ (if n<0 then _ else _) _ _ _;rw[jb ooq];show wpAny _ _ (if n≥2^63 then _ else _) _ _ _;rw[jb ooq];exact wAq (wpAny_mkInt (wBq ⟨n,_,rfl,H',I'.tok _,q'⟩))
 . obtain⟨n,t,rfl,q'⟩:=h';exact wBq q'
theorem CQ(p:Addr):MeetsIn prog w (Builtin.«bool.__new__» ⟨[.type "bool",.ref p],[]⟩) (λA R s=>wpAny (model prog w) A.in1 (truthy (.ref p)) (λb s'=>R (.ok (.ret (.bool b))) s') (λe s'=>R (.error e) s') s) :=
 λA R s h=>by
   obtain⟨hp,g,d,tk,os⟩:=s;have f1:=PySem.F.conv_sub_bool;have tr:∀(Q:Bool->J7->Prop),(∀b s',R (.ok (.ret (.bool b))) s'->Q b s')->wpAny (model prog w) A.in1 (truthy (.ref p)) Q (λe s'=>R (.error e) s') ⟨hp,g,d,tk,os⟩:=λQ hq=>wpAny_mono h hq λ_ _ e=>e
   repeat (any_goals (first|assumption|with_reducible apply tr|wp_step))
   all_goals (intro b s' q;repeat (any_goals (first|assumption|wp_step)))
theorem GE(hB:W.findIn X.K (.ref C) "__bool__"=some none)(M:cR X.K C "__len__" f)(F:aW X.prog X.w X.K X.mg X.base CX0 k f fd ["self"] sp)(hr:aR (k+3) X.A)(hb:aP X.K fd ["self"] []) :
   bC X (.type "bool") (λxs H Q=>∃p dx fs,xs=[.ref p]/\H p=some (.ins C dx fs)/\sp [.ref p] H (λv H'=>∃n,v= .int n/\0<=n/\n<2^63/\Q (.bl (n !=0)) H') E0):=by
 rintro j4 s σ H xs us Q I r ⟨p,dx,fs,e,ea,q⟩;subst e;obtain⟨u,rfl,ru⟩:=fS r;cases ru;refine callType_newIn PySem.F.called_bool PySem.F.newNe_bool (PySem.F.typeCall_bool_1 _) (PySem.F.newCall_bool_1 _) (λobj=>PySem.F.args_object_init_2 obj _) PySem.F.entry_bool_new (CQ p) ?_;refine thn (aMq (A':=X.A.in1.in1) (Q:=λb H'=>Q (.bl b) H') hB M F hr.in1.in1.in1 I.env0.in1.in1.in1 hb I ea q) λb s2 zz=>?_;obtain⟨H2,I2,q2⟩:=zz;exact⟨PySem.typeIs_bool _ _,.bl b,H2,I2,rfl,q2⟩
end
section
variable{X:Cx}{e:Expr}{es:List Expr}{te:TE}{pos:Pos}
noncomputable def PJ(X:Cx)(parts:List Expr)(t:Str->TE):Prop :=
 ∀(out:Str) (j4:List (Addr×Obj)) (s:J7) (σ:St) (H:Hp) (Q:VK),Inv X j4 σ H s->t out σ H Q->wpAny (model X.prog X.w) X.A (joinParts out (evalEach parts X.env)) (EP X j4 σ Q) X.xe s
noncomputable def tJ0:Str->TE:=λout _ H Q=>out.length<=sizeLine/\Q (.str out) H
noncomputable def tJ1(te:TE)(t:Str->TE):Str->TE:=λout σ H Q=>te σ H λx H1=>∃y,x= .str y/\(out++y).length<=sizeLine/\t (out++y) σ H1 Q
theorem aFB:PJ X [] tJ0:=λout j4 s σ H Q I h=>joinParts_nil ⟨.str out,H,I.tok _,⟨_,rfl⟩,h.2⟩ h.1
theorem MV(he:PE X e te)(hr:PJ X es t)(hs:evalEach (e::es) X.env=eval e X.env::evalEach es X.env:=by rfl):PJ X (e::es) (tJ1 te t):=by
 intro out j4 s σ H Q I h;rw[hs];refine joinParts_cons (thn (he j4 s σ H _ I h) λv s1 zz=>?_);obtain⟨x,H1,I1,r1,y,ex,hz,q⟩:=zz;subst ex;obtain⟨t',rfl⟩:=r1;exact⟨hz,hr (out++y) j4 s1 σ H1 Q I1 q⟩
def tFv(te:TE):TE:=λσ H Q=>te σ H λx H1=>∃y,x= .str y/\y.length<=sizeLine/\Q (.str y) H1
theorem aIR(he:PE X e te):PE X (.FormattedValue e (-1) none pos) (tFv te):=by
 intro j4 s σ H Q I h;refine FormattedValue_plain (thn (he j4 s σ H _ I h) λv s1 zz=>?_);obtain⟨x,H1,I1,r1,y,ex,hz,q⟩:=zz;subst ex;obtain⟨t',rfl⟩:=r1;exact formatField_str (λt2 tk=>⟨.str y,H1,I1.tok tk,⟨_,rfl⟩,q⟩) hz
theorem aBS{v₁ v₂:Expr}{aY:List Expr}{t:Str->TE}(h:PJ X (v₁::v₂::aY) t):PE X (.JoinedStr (v₁::v₂::aY) pos) (t Str.empty):=λj4 s σ H Q I q=>JoinedStr_many (h Str.empty j4 s σ H Q I q)
theorem LS:∀{ys:List Str} {us:List Value},aI (ys.map V.str) us->StrsAre us ys
 | [],_,r=>by cases r;exact .nil
 | y::ys,_,r=>by
   cases r with
   | cons r1 r2 =>
     obtain⟨t,rfl⟩:=r1;exact .cons _ _ (LS r2)
noncomputable def aKG:V->List V->Hp->VK->Prop:=λx xs H Q=>∃sep p ys,x= .str sep/\xs=[.ref p]/\H p=some (.lst (ys.map V.str))/\(ys.map (·.length)).sum+ys.length*sep.length<=16777216/\Q (.str (Txt.join sep ys)) H
theorem aCq:MtR X "str.join" aKG:=by
 rintro j4 s σ H x xs v us Q I r rs ⟨sep,p,ys,e1,e2,e3,hz,q⟩;subst e1 e2;obtain⟨t,rfl⟩:=r;obtain⟨u,rfl,ru⟩:=fS rs;cases ru;obtain⟨_,its,n,rv,hl⟩:=I.hok _ _ e3;exact join_list (items:=its.toArray) ⟨_,hl,rfl,n,rfl⟩ (by simpa using LS rv) hz λt' k=>⟨.str _,H,I.tok k,⟨_,rfl⟩,q⟩
theorem vL{α β:Type}{f g:α->Option β}:∀(l:List α),(∀x∈l,f x=g x)->l.filterMap f=l.filterMap g
 | [],_=>rfl
 | x::r,h=>by
   rw[List.filterMap_cons,List.filterMap_cons,h x (wDq ..),vL r λy hy=>h y (wCq _ hy)]
theorem oH{α:Type}:∀m:List α,(List.range m.length).filterMap (λk=>m[k]?)=m
 | []=>rfl
 | x::r=>by
   rw[List.length_cons,List.range_succ_eq_map,List.filterMap_cons];simp only[List.getElem?_cons_zero,List.filterMap_map];have e:((λk=>(x::r)[k]?)∘Nat.succ)=λk=>r[k]? :=by funext k;rfl
   rw[e,oH r]
theorem YU(its:List Value):slicePick its.toArray none none (some (-1))=its.reverse.toArray:=by
 unfold slicePick
 congr 1
 have e:sliceRange (sliceBounds none none (some (-1)) its.toArray.size).1 (sliceBounds none none (some (-1)) its.toArray.size).2.1 (sliceBounds none none (some (-1)) its.toArray.size).2.2=(List.range its.length).map λk=>its.length-1-k:=by
   simp only[sliceBounds,Option.getD_some,wIq];rw[jb ddq,jb ddq];unfold sliceRange;dsimp only;rw[jb ddq];have c:(if (its.length:Int)-1 > -1 then((its.length:Int)-1 - -1 - -1-1)/(- -1) else 0).toNat=its.length:=by
     rw[show(- -1:Int)=1 from rfl,Int.ediv_one];split<;>omega
   rw[c];refine List.map_congr_left λk hk=>?_;omega
 rw[e,List.filterMap_map];have e2:(List.range its.length).filterMap ((λx=>its.toArray[x]?)∘λk=>its.length-1-k)=(List.range its.reverse.length).filterMap (λk=>its.reverse[k]?):=by
   rw[List.length_reverse];refine vL _ λk hk=>?_;have hk':k<its.length:=List.mem_range.mp hk;show its.toArray[its.length-1-k]? =_;rw[List.getElem?_reverse hk'];simp
 rw[e2,oH]
end
end L2
namespace LE
open PySem PyProof.Rows
open AutoSeq1 (wpAny_loadPart')
end LE
namespace L2
open PySem PySem.Spec PyProof.Rows
section
variable{X:Cx}{CX:CXT}{k:Nat}{f C:Addr}{fd:Ja}{ps ks:List Str}{sp:Sp}{E:XK}{x:Str}{p pos:Pos}{kws:List Keyword}{tk:TA}{g:List Value->List Value->List Value}{gV:List V->List V->List V}
end
section
variable{X:Cx}{C:Addr}{f x:Str}{pos pos':Pos}{e o value:Expr}{ta tv:TE}{i:Int}
theorem PE.imp(h:PE X e t)(g:∀σ H Q,t' σ H Q->t σ H Q):PE X e t':=λj4 s σ H Q I q=>h j4 s σ H Q I (g _ _ _ q)
theorem PS.imp{st:Stmt}(h:PS X st t)(g:∀D σ H,t' D σ H->t D σ H):PS X st t':=λj4 s σ H D I q=>h j4 s σ H D I (g _ _ _ q)
end
section
variable{X:Cx}{es:List Expr}{te:TE}{t:TA}{pos:Pos}
end
end L2
namespace LZ
open PySem PyProof.Rows
open AutoSeq1 (wpAny_loadPart')
open Builtin
structure Zr where
 it:Addr
 l:Addr
 b:Bool
 xs:Array Value
def ZIt(h:Heap)(r:Zr)(k:Nat):Prop:=if r.b=true then h.IsTupleIter r.it r.l k else h.IsListIter r.it r.l k
def ZAt(h:Heap)(r:Zr):Prop:=if r.b=true then h.IsTuple r.l r.xs else h.IsList r.l r.xs
theorem ZIt.keep(a:ZIt h r k)(q:∀o,h.get? r.it=some o->h'.get? r.it=some o):ZIt h' r k:=by
 unfold ZIt at *;split
 . rename_i e;rw[jd e] at a;exact a.at λo z=>q o z
 . rename_i e;rw[jb e] at a;exact a.at λo z=>q o z
theorem ZAt.keep(a:ZAt h r)(q:∀o,h.get? r.l=some o->h'.get? r.l=some o):ZAt h' r:=by
 unfold ZAt at *;split
 . rename_i e;rw[jd e] at a;obtain⟨o,z,t⟩:=a;exact⟨o,q o z,t⟩
 . rename_i e;rw[jb e] at a;obtain⟨o,z,t⟩:=a;exact⟨o,q o z,t⟩
theorem ZIt.lt(a:ZIt h r k):∃o,h.get? r.it=some o:=by
 unfold ZIt at a;split at a
 . obtain⟨o,z,_⟩:=a;exact⟨o,z⟩
 . obtain⟨o,z,_⟩:=a;exact⟨o,z⟩
section
variable{prog:J9}{w:World}{A:Around}{E:Value->J7->Prop}{s:J7}
theorem aDj(a:ZIt s.heap r k)(b:ZAt s.heap r)(c:r.xs[k]? =some x)(q:∀h',ZIt h' r (k+1)->Heap.SameBut r.it s.heap h'->Q x {s with heap:=h'}) :
   wpAny (model prog w) A (SmallTypes.nextOf (.ref r.it)) Q E s:=by
 unfold ZIt at a q;unfold ZAt at b;cases e:r.b with
 | true =>
   rw[e,jd rfl] at a b;exact LE.aDb a b c λh' z t=>q h' (by rw[e,jd rfl];exact z) t
 | false =>
   rw[e,jb ddq] at a b;exact wpAny_nextOf_list_item a b c λh' z t=>q h' (by rw[e,jb ddq];exact z) t
theorem aI9(hh:A.handled=none)(a:ZIt s.heap r k)(b:ZAt s.heap r)(c:r.xs[k]? =none)
   (q:∀h' e,Heap.ExtBut r.it s.heap h'->(∃o,h'.get? e=some o/\o.cls= .type "StopIteration")->E (.ref e) {s with heap:=h'}):wpAny (model prog w) A (SmallTypes.nextOf (.ref r.it)) Q E s:=by
 unfold ZIt at a;unfold ZAt at b;cases e:r.b with
 | true=>rw[e,jd rfl] at a b;exact LE.aGR hh a b c q
 | false=>rw[e,jb ddq] at a b;exact wpAny_nextOf_list_end hh a b c q
theorem aJu(b:ZAt s.heap r)(q:∀h',ZIt h' {r with it:=s.heap.objs.size} 0->h'.objs.size=s.heap.objs.size+1->(∀c o,s.heap.get? c=some o->h'.get? c=some o)->Q (.ref s.heap.objs.size) {s with heap:=h'}) :
   wpAny (model prog w) A (pyIter (.ref r.l)) Q E s:=by
 unfold ZIt at q;unfold ZAt at b;cases e:r.b with
 | true =>
   rw[e,jd rfl] at b;refine wpAny_pyIter_tuple b (q _ ?_ (Heap.size_push ..) λc o z=>wEq _ z);rw[jd e];exact⟨_,wGq _ rfl,rfl,rfl⟩
 | false =>
   rw[e,jb ddq] at b;refine wpAny_pyIter_list b (q _ ?_ (Heap.size_push ..) λc o z=>wEq _ z);rw[jb (by rw[e];decide)];exact⟨_,wGq _ rfl,rfl,rfl⟩
end
theorem yA{M:Model}{A:Around}{E:Value->J7->Prop}{α β:Type}{f:α×Nat->β->Sem (ForInStep β)}{u:β}(I:Nat->J7->Prop):∀(xs:List α) (j:Nat) (s:J7) (Q:β->J7->Prop),I j s->
   (∀i x s,xs[i]? =some x->I (j+i) s->wpAny M A (f (x,j+i) u) (λst s'=>st= .yield u/\I (j+i+1) s') E s)->(∀s',I (j+xs.length) s'->Q u s')->wpAny M A (forIn (xs.zipIdx j) u f) Q E s
 | [],j,s,Q,h,_,q=>by
   rw[List.zipIdx_nil,List.forIn_nil];exact wBq (q s h)
 | x::r,j,s,Q,h,hs,q=>by
   rw[List.zipIdx_cons,List.forIn_cons];refine wAq (wpAny_mono (hs 0 x s rfl h) (λst s' zz=>?_) λ_ _ z=>z);obtain⟨e,h'⟩:=zz;subst e;exact yA I r (j+1) s' Q h' (λi y s hy hi=>by
     have:=hs (i+1) y s hy (by rw[show j+(i+1)=j+1+i by omega];exact hi);rw[show j+(i+1)=j+1+i by omega] at this;exact this) λs' z=>q s' (by rw[List.length_cons,show j+(r.length+1)=j+1+r.length by omega];exact z)
structure Ap(z TI TO:Addr)(rs:List Zr):Prop where
 nd:(rs.map Zr.it).Nodup
 zi:∀r∈rs,r.it≠z/\r.it≠TO/\r.it≠TI
 zl:∀r∈rs,r.l≠z/\r.l≠TO
 li:∀r∈rs,∀t∈rs,r.l≠t.it
 zo:TO≠z
 zt:TI≠z
 ot:TI≠TO
def IsT(h:Heap)(a:Addr)(ys:Array Value):Prop:=h.get? a=some {cls:=.type "tuple",data:=.seq ys}
structure Zs(h:Heap)(z TI TO:Addr)(rs:List Zr)(k:Nat):Prop where
 z:IsZip h z TI TO .none
 ti:IsT h TI (rs.map λr=>Value.ref r.it).toArray
 to_:∃ys,ys.size=rs.length/\IsT h TO ys
 it:∀r∈rs,ZIt h r k
end LZ
namespace LZ
open PySem PyProof.Rows
open Builtin
section
variable{prog:J9}{w:World}{A:Around}{E:Value->J7->Prop}{s:J7}
theorem upT(h:IsT s.heap a ys)(hz:ys.size<=64)(q:∀h',IsT h' a (ys.setIfInBounds k x)->Heap.SameBut a s.heap h'->Q () {s with heap:=h'}) :
   wpAny (model prog w) A (updateSeq a (·.setIfInBounds k x)) Q E s:=by
 have hz':ys.size<=sizeLine:=Nat.le_trans hz ddq;refine wpAny_updateSeq h rfl (q _ ?_ (Heap.SameBut.update ..)) hz' (by rw[Array.size_setIfInBounds];omega);unfold IsT at *;rw[Heap.get?_update_self _ h rfl];simp[Obj.mapSeq]
structure Mid(h:Heap)(z TI TO:Addr)(rs:List Zr)(k:Nat)(vs:List Value)(j:Nat)(g:Heap):Prop where
 zz:IsZip g z TI TO .ellipsis
 to_:∃ys,ys.size=rs.length/\IsT g TO ys/\∀i,i<j->ys[i]? =vs[i]?
 lo:∀i r,rs[i]? =some r->i<j->ZIt g r (k+1)
 hi:∀i r,rs[i]? =some r->j<=i->ZIt g r k
 at_:∀r∈rs,ZAt g r
 sz:g.objs.size=h.objs.size
 fr:∀c o,c≠z->c≠TO->(∀r∈rs,c≠r.it)->h.get? c=some o->g.get? c=some o
theorem SJ{rs:List Zr}(nd:(rs.map Zr.it).Nodup){i j:Nat}{r t:Zr}(hi:rs[i]? =some r)(hj:rs[j]? =some t)(ne:i≠j):r.it≠t.it:=by
 intro e;obtain⟨hi1,hi2⟩:=List.getElem?_eq_some_iff.mp hi;obtain⟨hj1,hj2⟩:=List.getElem?_eq_some_iff.mp hj;have hp:=List.pairwise_iff_getElem.mp nd;rcases Nat.lt_or_gt_of_ne ne with q|q
 . exact hp i j (by rw[List.length_map];exact hi1) (by rw[List.length_map];exact hj1) q (by simp only[List.getElem_map];rw[hi2,hj2];exact e)
 . exact hp j i (by rw[List.length_map];exact hj1) (by rw[List.length_map];exact hi1) q (by simp only[List.getElem_map];rw[hi2,hj2];exact e.symm)
theorem SM{rs:List Zr}{vs:List Value}{Q:Value->J7->Prop}(D:Ap z TI TO rs)(hn:rs≠[])(hl:rs.length<=8)(S:Zs s.heap z TI TO rs k)(at_:∀r∈rs,ZAt s.heap r)(hv:vs.length=rs.length)(hx:∀(i:Nat) (r:Zr),rs[i]? =some r->r.xs[k]? =vs[i]?)
   (hQ:∀h',IsZip h' z TI TO (rawInt s.heap.objs.size)->IsT h' TO vs.toArray->(∀r∈rs,ZIt h' r (k+1))->IsT h' s.heap.objs.size vs.toArray->h'.objs.size=s.heap.objs.size+1->
     (∀c o,c≠z->c≠TO->(∀r∈rs,c≠r.it)->s.heap.get? c=some o->h'.get? c=some o)->Q (.ref s.heap.objs.size) {s with heap:=h'}) :
   wpAny (model prog w) A (Builtin.«zip.__next__» ⟨[.ref z],[]⟩) (λfin s'=>∃v,fin= .done (.ret v)/\Q v s') E s:=by
 obtain⟨hz,hTI,⟨ys0,hy0,hTO⟩,hit⟩:=S;have hl64:rs.length<=64:=Nat.le_trans hl ddq;refine wAq (m:=field (.ref z) 2) (wpAny_field hz rfl (x:=.bool false) rfl ?_);refine wAq (m:=field (.ref z) 3) (wpAny_field hz rfl (x:=.ref TI) rfl ?_);refine wAq (wpAny_seqItems hTI rfl ?_);have ne:((rs.map λr=>Value.ref r.it).toArray.isEmpty)=false:=by cases rs with|nil=>exact absurd rfl hn|cons a b=>rfl
 simp only[ne,Bool.false_eq_true,if_false];refine wAq (m:=SmallTypes.ownedTupleIsFree (.ref z)) ?_;unfold SmallTypes.ownedTupleIsFree;refine wAq (wpAny_field hz rfl (x:=.none) rfl (wBq ?_));simp only[if_true];refine wAq (wpAny_rule (wAq (wpAny_field hz rfl (x:=.ref TO) rfl (wAq (wpAny_setField_rec hz (by simp) λh1 hz1 hs1=>?_)))))
 replace hz1:IsZip h1 z TI TO .ellipsis:=hz1
 have m0:Mid s.heap z TI TO rs k vs 0 h1:=⟨hz1,⟨ys0,hy0,hs1.extBut _ _ D.zo hTO,λi hi=>absurd hi (Nat.not_lt_zero _)⟩,λi r _ hi=>absurd hi (Nat.not_lt_zero _),
   λi r hr _=>(hit r (List.mem_of_getElem? hr)).keep λo q=>hs1.extBut _ _ (D.zi r (List.mem_of_getElem? hr)).1 q,λr hr=>(at_ r hr).keep λo q=>hs1.extBut _ _ (D.zl r hr).1 q,hs1.1,λc o c1 _ _ q=>hs1.extBut _ _ c1 q⟩
 refine wAq (yA (λj s'=>∃g,s'={s with heap:=g}/\Mid s.heap z TI TO rs k vs j g) _ 0 _ _ ⟨h1,rfl,m0⟩ ?_ ?_)
 . rintro i x _ hxi ⟨g,rfl,m⟩;rw[Nat.zero_add] at m ⊢;rw[List.getElem?_map] at hxi;cases hr:rs[i]? with
   | none=>rw[hr] at hxi;cases hxi
   | some r =>
     rw[hr] at hxi;have e:x= .ref r.it:=(Option.some.inj hxi).symm;subst e;have hm:=List.mem_of_getElem? hr;have hi:i<rs.length:=(List.getElem?_eq_some_iff.mp hr).1;have hvi:vs[i]? =some (vs[i]'ooq):=by simp
     refine wAq (wpAny_onRaise (wAq (m:=SmallTypes.nextOf (.ref r.it)) (aDj (m.hi i r hr (Nat.le_refl _)) (m.at_ r hm) ((hx i r hr).trans hvi) λh2 hi2 hs2=>wBq ?_)));obtain⟨ys,hy,hT,hlo⟩:=m.to_;have hT2:IsT h2 TO ys:=hs2.extBut _ _ (Ne.symm (D.zi r hm).2.1) hT;refine wAq (wpAny_seqItems hT2 rfl (wAq (upT hT2 ooq λh3 hT3 hs3=>wAq (wpAny_letGo (wBq ⟨rfl,h3,rfl,?_⟩)))));have fr3:∀c o,c≠TO->c≠r.it->g.get? c=some o->h3.get? c=some o:=λc o c1 c2 q=>hs3.extBut _ _ c1 (hs2.extBut _ _ c2 q);refine⟨fr3 _ _ (Ne.symm D.zo) (Ne.symm (D.zi r hm).1) m.zz,⟨_,by rw[Array.size_setIfInBounds];exact hy,hT3,λj hj=>?_⟩,λj t ht hj=>?_,λj t ht hj=>?_,λt ht=>(m.at_ t ht).keep λo q=>fr3 _ _ (D.zl t ht).2 (D.li t ht r hm) q,by rw[hs3.1,hs2.1];exact m.sz,λc o c1 c2 c3 q=>fr3 c o c2 (c3 r hm) (m.fr c o c1 c2 c3 q)⟩
     . rw[Array.getElem?_setIfInBounds];by_cases e:i=j
       . subst e;rw[jd rfl,jd ooq,hvi]
       . rw[jb e];exact hlo j ooq
     . by_cases e:j=i
       . subst e;rw[hr] at ht;cases ht;exact hi2.keep λo q=>hs3.extBut _ _ (D.zi r hm).2.1 q
       . exact(m.lo j t ht ooq).keep λo q=>fr3 _ _ (D.zi t (List.mem_of_getElem? ht)).2.1 (SJ D.nd ht hr e) q
     . exact(m.hi j t ht ooq).keep λo q=>fr3 _ _ (D.zi t (List.mem_of_getElem? ht)).2.1 (SJ D.nd ht hr ooq) q
 . rintro _ ⟨g,rfl,m⟩;rw[Nat.zero_add,List.length_map] at m;obtain⟨ys,hy,hT,hlo⟩:=m.to_;have ey:ys=vs.toArray:=by
     refine Array.ext' (List.ext_getElem? λj=>?_);by_cases hj:j<rs.length
     . have:=hlo j hj;rw[<-Array.getElem?_toList] at this;exact this
     . rw[List.getElem?_eq_none (by rw[Array.length_toList];omega),List.getElem?_eq_none (by rw[List.toList_toArray];omega)]
   subst ey;refine wAq (m:=seqItems? (.ref TO)) (wpAny_seqItems hT rfl ?_);refine wAq (m:=newTuple _) (wpAny_newTuple ?_ (by rw[List.toList_toArray];exact Nat.le_trans (by omega:vs.length<=8) ddq));have zlt:z<g.objs.size:=Heap.lt_size m.zz;refine wAq (m:=SmallTypes.ownedTupleHandOut (.ref z) (.ref g.objs.size)) ?_;unfold SmallTypes.ownedTupleHandOut;have hz6:IsZip (g.push {cls:=.type "tuple",data:=.seq vs.toArray.toList.toArray}) z TI TO .ellipsis:=wEq _ m.zz;refine wAq (wpAny_setField_rec hz6 (by simp) λh7 hz7 hs7=>wpAny_setField_rec hz7 (by simp) λh8 hz8 hs8=>wBq ⟨_,rfl,?_⟩);have up:∀c o,c≠z->g.get? c=some o->h8.get? c=some o:=λc o c1 q=>hs8.extBut _ _ c1 (hs7.extBut _ _ c1 (wEq _ q));have gz:g.objs.size=s.heap.objs.size:=m.sz;have hT8:IsT h8 g.objs.size vs.toArray:=hs8.extBut _ _ (Nat.ne_of_gt zlt) (hs7.extBut _ _ (Nat.ne_of_gt zlt) (wGq _ rfl));have z8:h8.objs.size=g.objs.size+1:=by rw[hs8.1,hs7.1,Heap.size_push]
   replace hz8:IsZip h8 z TI TO (rawInt g.objs.size):=hz8
   show Q (.ref g.objs.size) _;rw[gz] at hz8 hT8 z8;rw[gz];refine hQ h8 hz8 (up _ _ D.zo hT) (λr hr=>?_) hT8 z8 λc o c1 c2 c3 q=>up c o c1 (m.fr c o c1 c2 c3 q);obtain⟨i,hi,er⟩:=List.getElem_of_mem hr;exact(m.lo i r (by rw[wHq hi,er]) hi).keep λo q=>up _ o (D.zi r hr).1 q
theorem aA1(hh:A.handled=none)(D:Ap z TI TO (r::rs))(S:Zs s.heap z TI TO (r::rs) k)(at_:ZAt s.heap r)(hx:r.xs[k]? =none)
   (hE:∀h' e,(∀c o,c≠z->c≠r.it->s.heap.get? c=some o->h'.get? c=some o)->(∃o,h'.get? e=some o/\o.cls= .type "StopIteration")->E (.ref e) {s with heap:=h'}) :
   wpAny (model prog w) A (Builtin.«zip.__next__» ⟨[.ref z],[]⟩) Q E s:=by
 obtain⟨hz,hTI,⟨ys0,hy0,hTO⟩,hit⟩:=S;refine wAq (m:=field (.ref z) 2) (wpAny_field hz rfl (x:=.bool false) rfl ?_);refine wAq (m:=field (.ref z) 3) (wpAny_field hz rfl (x:=.ref TI) rfl ?_);refine wAq (wpAny_seqItems hTI rfl ?_);have ne:(((r::rs).map λr=>Value.ref r.it).toArray.isEmpty)=false:=rfl;simp only[ne,Bool.false_eq_true,if_false];refine wAq (m:=SmallTypes.ownedTupleIsFree (.ref z)) ?_;unfold SmallTypes.ownedTupleIsFree;refine wAq (wpAny_field hz rfl (x:=.none) rfl (wBq ?_));simp only[if_true];refine wAq (wpAny_rule (wAq (wpAny_field hz rfl (x:=.ref TO) rfl (wAq (wpAny_setField_rec hz (by simp) λh1 hz1 hs1=>?_)))))
 replace hz1:IsZip h1 z TI TO .ellipsis:=hz1
 refine wAq ?_;simp only[List.map_cons,List.zipIdx_cons,List.forIn_cons];refine wAq (wAq (wpAny_onRaise (wAq (m:=SmallTypes.nextOf (.ref r.it)) (aI9 hh ((hit r (wDq ..)).keep λo q=>hs1.extBut _ _ (D.zi r (wDq ..)).1 q) (at_.keep λo q=>hs1.extBut _ _ (D.zl r (wDq ..)).1 q) hx λh2 e hs2 he=>?_))));obtain⟨oe,hoe,hce⟩:=he;have hz2:IsZip h2 z TI TO .ellipsis:=hs2 _ _ (Ne.symm (D.zi r (wDq ..)).1) hz1;have hez:e≠z:=λx=>by subst x;rw[hz2] at hoe;cases hoe;simp at hce
 exact wpAny_setField_rec hz2 (by simp) λh3 _ hs3=>hE h3 e (λc o c1 c3 x=>hs3.extBut _ _ c1 (hs2 _ _ c3 (hs1.extBut _ _ c1 x))) ⟨oe,hs3.extBut _ _ hez hoe,hce⟩
theorem SC(hh:A.handled=none)(D:Ap z TI TO (r::t::rs))(hl:(r::t::rs).length<=8)(S:Zs s.heap z TI TO (r::t::rs) k)(ar:ZAt s.heap r)(at_:ZAt s.heap t)(hr:r.xs[k]? =some x)(hx:t.xs[k]? =none)
   (hE:∀h' e,(∀c o,c≠z->c≠TO->c≠r.it->c≠t.it->s.heap.get? c=some o->h'.get? c=some o)->(∃o,h'.get? e=some o/\o.cls= .type "StopIteration")->E (.ref e) {s with heap:=h'}) :
   wpAny (model prog w) A (Builtin.«zip.__next__» ⟨[.ref z],[]⟩) Q E s:=by
 obtain⟨hz,hTI,⟨ys0,hy0,hTO⟩,hit⟩:=S;have m0:r∈r::t::rs:=wDq ..;have m1:t∈r::t::rs:=wCq _ (wDq ..);have ne01:t.it≠r.it:=SJ D.nd (i:=1) (j:=0) rfl rfl ddq;refine wAq (m:=field (.ref z) 2) (wpAny_field hz rfl (x:=.bool false) rfl ?_);refine wAq (m:=field (.ref z) 3) (wpAny_field hz rfl (x:=.ref TI) rfl ?_);refine wAq (wpAny_seqItems hTI rfl ?_);have ne:(((r::t::rs).map λr=>Value.ref r.it).toArray.isEmpty)=false:=rfl;simp only[ne,Bool.false_eq_true,if_false];refine wAq (m:=SmallTypes.ownedTupleIsFree (.ref z)) ?_;unfold SmallTypes.ownedTupleIsFree;refine wAq (wpAny_field hz rfl (x:=.none) rfl (wBq ?_));simp only[if_true];refine wAq (wpAny_rule (wAq (wpAny_field hz rfl (x:=.ref TO) rfl (wAq (wpAny_setField_rec hz (by simp) λh1 hz1 hs1=>?_)))))
 replace hz1:IsZip h1 z TI TO .ellipsis:=hz1
 refine wAq ?_;simp only[List.map_cons,List.zipIdx_cons,List.forIn_cons];refine wAq (wAq (wpAny_onRaise (wAq (m:=SmallTypes.nextOf (.ref r.it)) (aDj ((hit r m0).keep λo q=>hs1.extBut _ _ (D.zi r m0).1 q) (ar.keep λo q=>hs1.extBut _ _ (D.zl r m0).1 q) hr λh2 hi2 hs2=>wBq ?_))));have hT2:IsT h2 TO ys0:=hs2.extBut _ _ (Ne.symm (D.zi r m0).2.1) (hs1.extBut _ _ D.zo hTO);refine wAq (wpAny_seqItems hT2 rfl (wAq (upT hT2 (by rw[hy0];exact Nat.le_trans hl ddq) λh3 hT3 hs3=>wAq (wpAny_letGo (wBq ?_)))));have fr3:∀c o,c≠z->c≠TO->c≠r.it->s.heap.get? c=some o->h3.get? c=some o:=λc o c0 c1 c2 q=>hs3.extBut _ _ c1 (hs2.extBut _ _ c2 (hs1.extBut _ _ c0 q));have hz3:IsZip h3 z TI TO .ellipsis:=hs3.extBut _ _ (Ne.symm D.zo) (hs2.extBut _ _ (Ne.symm (D.zi r m0).1) hz1);refine wAq (wAq (wpAny_onRaise (wAq (m:=SmallTypes.nextOf (.ref t.it)) (aI9 hh ((hit t m1).keep λo q=>fr3 _ _ (D.zi t m1).1 (D.zi t m1).2.1 ne01 q) (at_.keep λo q=>fr3 _ _ (D.zl t m1).1 (D.zl t m1).2 (D.li t m1 r m0) q) hx λh4 e hs4 he=>?_))));obtain⟨oe,hoe,hce⟩:=he;have hz4:IsZip h4 z TI TO .ellipsis:=hs4 _ _ (Ne.symm (D.zi t m1).1) hz3;have hez:e≠z:=λx=>by subst x;rw[hz4] at hoe;cases hoe;simp at hce
 exact wpAny_setField_rec hz4 (by simp) λh5 _ hs5=>hE h5 e (λc o c1 c2 c3 c4 x=>hs5.extBut _ _ c1 (hs4 _ _ c4 (fr3 c o c1 c2 c3 x))) ⟨oe,hs5.extBut _ _ hez hoe,hce⟩
theorem NC{rs:List Zr}{vs:List Value}(D:Ap z TI TO rs)(hn:rs≠[])(hl:rs.length<=8)(S:Zs s.heap z TI TO rs k)(at_:∀r∈rs,ZAt s.heap r)(hv:vs.length=rs.length)(hx:∀(i:Nat) (r:Zr),rs[i]? =some r->r.xs[k]? =vs[i]?)
   (hQ:∀h',IsZip h' z TI TO (rawInt s.heap.objs.size)->IsT h' TO vs.toArray->(∀r∈rs,ZIt h' r (k+1))->IsT h' s.heap.objs.size vs.toArray->h'.objs.size=s.heap.objs.size+1->
     (∀c o,c≠z->c≠TO->(∀r∈rs,c≠r.it)->s.heap.get? c=some o->h'.get? c=some o)->Q (some (.ref s.heap.objs.size)) {s with heap:=h'}) :
   wpAny (model prog w) A (pyNext (.ref z)) Q E s:=by
 have hT:s.TypeIs (.ref z) "zip":=⟨_,S.z,rfl⟩;unfold pyNext;exact wAq (wpAny_attempt (wpAny_callSpecial?_slot (name:=Str.ofString "__next__") hT F.slot_zip_next (wpAny_call_entry F.slot_zip_next hT F.entry_zip_next (SM D hn hl S at_ hv hx λh' a1 a2 a3 a4 a5 a6=>wBq (hQ h' a1 a2 a3 a4 a5 a6)) (F.args_zip_next_1 _))))
theorem UM(hh:A.handled=none)(D:Ap z TI TO (r::rs))(S:Zs s.heap z TI TO (r::rs) k)(at_:ZAt s.heap r)(hx:r.xs[k]? =none)
   (hQ:∀h',(∀c o,c≠z->c≠r.it->s.heap.get? c=some o->h'.get? c=some o)->Q none {s with heap:=h'}):wpAny (model prog w) A (pyNext (.ref z)) Q E s:=by
 have hT:s.TypeIs (.ref z) "zip":=⟨_,S.z,rfl⟩;unfold pyNext;refine wAq (wpAny_attempt (wpAny_callSpecial?_slot (name:=Str.ofString "__next__") hT F.slot_zip_next (wpAny_call_entry F.slot_zip_next hT F.entry_zip_next (aA1 hh D S at_ hx λh' e hk ⟨o,ho,hc⟩=>?_) (F.args_zip_next_1 _))));exact wAq (wpAny_isInstance (T:="StopIteration") (b:=true) ⟨o,ho,hc⟩ isSubtype_stop (wBq (hQ _ hk)))
theorem PQ(hh:A.handled=none)(D:Ap z TI TO (r::t::rs))(hl:(r::t::rs).length<=8)(S:Zs s.heap z TI TO (r::t::rs) k)(ar:ZAt s.heap r)(at_:ZAt s.heap t)(hr:r.xs[k]? =some x)(hx:t.xs[k]? =none)
   (hQ:∀h',(∀c o,c≠z->c≠TO->c≠r.it->c≠t.it->s.heap.get? c=some o->h'.get? c=some o)->Q none {s with heap:=h'}):wpAny (model prog w) A (pyNext (.ref z)) Q E s:=by
 have hT:s.TypeIs (.ref z) "zip":=⟨_,S.z,rfl⟩;unfold pyNext;refine wAq (wpAny_attempt (wpAny_callSpecial?_slot (name:=Str.ofString "__next__") hT F.slot_zip_next (wpAny_call_entry F.slot_zip_next hT F.entry_zip_next (SC hh D hl S ar at_ hr hx λh' e hk ⟨o,ho,hc⟩=>?_) (F.args_zip_next_1 _))));exact wAq (wpAny_isInstance (T:="StopIteration") (b:=true) ⟨o,ho,hc⟩ isSubtype_stop (wBq (hQ _ hk)))
end
end LZ
namespace LZ
open PySem PyProof.Rows
open Builtin
section
variable{prog:J9}{w:World}{A:Around}{E:Value->J7->Prop}
theorem EI(hf:∀x acc,f x acc=(do let v <-holding acc.toList (pyIter x);pure (.yield (acc.push v)))):∀(rs:List Zr) (acc:Array Value) (s:J7) (Q:Array Value->J7->Prop),
   (∀r∈rs,ZAt s.heap r)->(∀(j:Nat) (r:Zr),rs[j]? =some r->r.it=s.heap.objs.size+j)->
   (∀h',h'.objs.size=s.heap.objs.size+rs.length->(∀r∈rs,ZIt h' r 0)->(∀c o,s.heap.get? c=some o->h'.get? c=some o)->Q (acc++(rs.map λr=>Value.ref r.it).toArray) {s with heap:=h'})->
   wpAny (model prog w) A (forIn (rs.map λr=>Value.ref r.l) acc f) Q E s
 | [],acc,s,Q,_,_,q=>by
   rw[List.map_nil,List.forIn_nil];refine wBq ?_;have:=q s.heap rfl (λ_ z=>nomatch z) (λ_ _ z=>z);simpa using this
 | r::rs,acc,s,Q,hat,hid,q=>by
   rw[List.map_cons,List.forIn_cons,hf];have e0:r.it=s.heap.objs.size:=hid 0 r rfl;refine wAq (wAq (wpAny_holding (aJu (r:=r) (hat r (wDq ..)) λh' hi hz hk=>wBq ?_)));have e1:({r with it:=s.heap.objs.size}:Zr)=r:=by rw[<-e0]
   rw[e1] at hi;refine EI hf rs _ _ Q (λt ht=>(hat t (wCq _ ht)).keep λo z=>hk _ o z) (λj t ht=>?_) λh2 hz2 hi2 hk2=>?_
   . rw[hid (j+1) t ht];show _=h'.objs.size+j;rw[hz];omega
   . have:=q h2 (by rw[List.length_cons,hz2];show h'.objs.size+_=_;rw[hz];omega) (λt ht=>?_) (λc o z=>hk2 c o (hk c o z))
     . rw[<-e0];simpa using this
     . rcases List.mem_cons.mp ht with z|z
       . subst z;exact hi.keep λo z=>hk2 _ o z
       . exact hi2 t z
theorem QS(rs:List Zr)(hl:rs.length<=8):Meets (Builtin.«zip.__new__» ⟨.type "zip"::(rs.map λr=>Value.ref r.l),[]⟩) (λ_ R s=>(∀r∈rs,ZAt s.heap r)/\(∀(j:Nat) (r:Zr),rs[j]? =some r->r.it=s.heap.objs.size+j)/\
     ∀h',IsZip h' (s.heap.objs.size+rs.length+2) (s.heap.objs.size+rs.length) (s.heap.objs.size+rs.length+1) .none->IsT h' (s.heap.objs.size+rs.length) (rs.map λr=>Value.ref r.it).toArray->IsT h' (s.heap.objs.size+rs.length+1) (rs.map λ_=>Value.none).toArray->
       (∀r∈rs,ZIt h' r 0)->h'.objs.size=s.heap.objs.size+rs.length+3->(∀c o,s.heap.get? c=some o->h'.get? c=some o)->R (.ok (.ret (.ref (s.heap.objs.size+rs.length+2)))) {s with heap:=h'}) :=
 .of_wp<|by
   rintro prog w A R s ⟨hat,hid,h⟩;have hl':rs.length<=sizeLine:=Nat.le_trans hl ddq;have fin:∀h1,h1.objs.size=s.heap.objs.size+rs.length->(∀r∈rs,ZIt h1 r 0)->(∀c o,s.heap.get? c=some o->h1.get? c=some o)->
       R (.ok (.ret (.ref ((h1.push {cls:=.type "tuple",data:=.seq (rs.map λr=>Value.ref r.it).toArray}).push {cls:=.type "tuple",data:=.seq (rs.map λ_=>Value.none).toArray}).objs.size)))
         {s with heap:=((h1.push {cls:=.type "tuple",data:=.seq (rs.map λr=>Value.ref r.it).toArray}).push {cls:=.type "tuple",data:=.seq (rs.map λ_=>Value.none).toArray}).push {cls:=.type "zip",data:=.fields #[.none,.bool false,.bool false,.ref h1.objs.size,.ref (h1.push {cls:=.type "tuple",data:=.seq (rs.map λr=>Value.ref r.it).toArray}).objs.size]}}:=by
     intro h1 hz1 hi1 hk1;have z2:(h1.push {cls:=.type "tuple",data:=.seq (rs.map λr=>Value.ref r.it).toArray}).objs.size=s.heap.objs.size+rs.length+1:=by rw[Heap.size_push,hz1]
     have z3:((h1.push {cls:=.type "tuple",data:=.seq (rs.map λr=>Value.ref r.it).toArray}).push {cls:=.type "tuple",data:=.seq (rs.map λ_=>Value.none).toArray}).objs.size=s.heap.objs.size+rs.length+2:=by rw[Heap.size_push,z2]
     rw[z3];refine h _ ?_ ?_ ?_ (λr hr=>(hi1 r hr).keep λo z=>wEq _ (wEq _ (wEq _ z))) (by rw[Heap.size_push,z3]) λc o z=>wEq _ (wEq _ (wEq _ (hk1 c o z)))
     . rw[<-z3,z2,hz1];exact wGq _ rfl
     . unfold IsT;rw[<-hz1];exact wEq _ (wEq _ (wGq _ rfl))
     . unfold IsT;rw[<-z2];exact wEq _ (wGq _ rfl)
   have e0:∀xs,SmallTypes.newClass "zip" ⟨.type "zip"::xs,[]⟩=pure (.type "zip",xs):=λxs=>by
     unfold SmallTypes.newClass;show(isType (.type "zip")>>=_)=_;have e1:isType (.type "zip")=pure true:=rfl;rw[e1,pure_bind];show(isSubtype (.type "zip") (.type "zip")>>=_)=_;rw[sub_zip,pure_bind];rfl
   unfold Builtin.«zip.__new__»;rw[e0,pure_bind];show wpAny _ _ (SmallTypes.iterAll _>>=_) _ _ _;refine wAq (wAq (EI (λ_ _=>rfl) rs #[] s _ hat hid λh1 hz1 hi1 hk1=>wBq ?_));have en:(#[]++(rs.map λr=>Value.ref r.it).toArray:Array Value).toList=rs.map λr=>Value.ref r.it:=by simp
   rw[en];refine wAq (wpAny_newTuple (wAq (wpAny_newTuple ?_ (by simpa using hl'))) (by simpa using hl'));have em:(List.map (λ_=>Value.none) (rs.map λr=>Value.ref r.it))=rs.map λ_=>Value.none:=by rw[List.map_map];rfl
   rw[em];show wpAny _ _ (newObj (.type "zip") (.fields #[.none,.bool false,.bool false,.ref h1.objs.size,.ref (h1.push {cls:=.type "tuple",data:=.seq (rs.map λr=>Value.ref r.it).toArray}).objs.size]) none>>=_) _ _ _;refine wAq (wpAny_newObj_type ?_ (by size_fits));exact wBq ⟨_,rfl,fin h1 hz1 hi1 hk1⟩
theorem OL(a b c:Value):checkTypeCall "zip" ⟨[a,b,c],[]⟩=pure ():=by kernel_rfl
theorem XU(a b c:Value):checkBuiltinCall "zip.__new__" ⟨[.type "zip",a,b,c],[]⟩=pure ():=by kernel_rfl
theorem aJl(a b c d:Value):argsOk "object.__init__" ⟨[a,b,c,d],[]⟩:=by
 unfold argsOk;rw[signature?_of (id:="object.__init__") (n:="__tini__".toList) (o:="tcejbo".toList) (by kernel_rfl) F.owner_object];kernel_rfl
theorem LY(hl:rs.length<=8)(hat:∀r∈rs,ZAt s.heap r)(hid:∀(j:Nat) (r:Zr),rs[j]? =some r->r.it=s.heap.objs.size+j)
   (ct:checkTypeCall "zip" ⟨rs.map λr=>Value.ref r.l,[]⟩=pure ()) (cn:checkBuiltinCall "zip.__new__" ⟨.type "zip"::(rs.map λr=>Value.ref r.l),[]⟩=pure ()) (ok:∀obj,argsOk "object.__init__" ⟨obj::(rs.map λr=>Value.ref r.l),[]⟩)
   (h:∀h',Zs h' (s.heap.objs.size+rs.length+2) (s.heap.objs.size+rs.length) (s.heap.objs.size+rs.length+1) rs 0->h'.objs.size=s.heap.objs.size+rs.length+3->(∀c o,s.heap.get? c=some o->h'.get? c=some o)->Q (.ref (s.heap.objs.size+rs.length+2)) {s with heap:=h'}) :
   wpAny (model prog w) A (call (.type "zip") (rs.map λr=>Value.ref r.l)) Q E s:=by
 refine callType_new F.called_zip ddq ct cn ok F.entry_zip_new (QS rs hl) ⟨hat,hid,λh' a b c d e f=>?_⟩;exact⟨⟨_,a,rfl⟩,h h' ⟨a,b,⟨_,by simp,c⟩,d⟩ e f⟩
theorem RH(hl:rs.length=2∨rs.length=3)(hat:∀r∈rs,ZAt s.heap r)(hid:∀(j:Nat) (r:Zr),rs[j]? =some r->r.it=s.heap.objs.size+j)
   (h:∀h',Zs h' (s.heap.objs.size+rs.length+2) (s.heap.objs.size+rs.length) (s.heap.objs.size+rs.length+1) rs 0->h'.objs.size=s.heap.objs.size+rs.length+3->(∀c o,s.heap.get? c=some o->h'.get? c=some o)->Q (.ref (s.heap.objs.size+rs.length+2)) {s with heap:=h'}) :
   wpAny (model prog w) A (call (.type "zip") (rs.map λr=>Value.ref r.l)) Q E s:=by
 match rs,hl,hat,hid,h with
 | [a,b],_,hat,hid,h =>
   have ct:=F.typeCall_zip_2 (.ref a.l) (.ref b.l);have cn:=F.newCall_zip_2 (.ref a.l) (.ref b.l);have ok:=λobj=>F.args_object_init_3 obj (.ref a.l) (.ref b.l);exact LY (rs:=[a,b]) (by show 2<=8;decide) hat hid ct cn ok h
 | [a,b,c],_,hat,hid,h =>
   have ct:=OL (.ref a.l) (.ref b.l) (.ref c.l);have cn:=XU (.ref a.l) (.ref b.l) (.ref c.l);have ok:=λobj=>aJl obj (.ref a.l) (.ref b.l) (.ref c.l);exact LY (rs:=[a,b,c]) (by show 3<=8;decide) hat hid ct cn ok h
end
end LZ
namespace L2
open PySem PySem.Spec PyProof.Rows LZ
section
variable{X:Cx}{j4:List (Addr×Obj)}{σ:St}{H:Hp}{s:J7}{h':Heap}
theorem Inv.turns{t':Nat}{ch:List Addr}(I:Inv X j4 σ H s)
   (hch:∀b∈ch,(b∈X.ex∨X.s₀.heap.objs.size<=b)/\b≠X.env.locals/\(∀x c,X.env.cells.lookup x=some c->c≠b)/\∀p∈X.pn++j4,p.1≠b) (hn:∀b∈ch,H b=none)
   (k:∀b o,b∉ch->s.heap.get? b=some o->h'.get? b=some o):Inv X j4 σ H {s with heap:=h',toks:=t'}:=by
 have nit:∀b u,H b=some u->b∉ch:=λb u e z=>by rw[hn b z] at e;cases e
 refine I.step (g':=s.gens) (d':=s.drawn) (ch:=ch) hch (λb o _ _ hc e _=>k b o hc e) (λb o _ _ hc e _=>⟨o.slots,k b o hc e⟩) (λ_ _ _ _ n=>n) (λb o hc e=>⟨o,k b o hc e⟩) (λ_ _ e=>e) (λ_ _ _ e=>e) (λb ps e=>⟨#[],by rw[e];simp⟩) (λm hm=>?_) (λb u e=>?_) I.bare
 . obtain⟨o,es,ep,ho,r⟩:=hm;exact⟨o,es,ep,k _ o (λz=>(hch _ z).2.1 rfl) ho,r⟩
 . refine(I.hok b u e).stay (λc v hc q=>k c v ?_ q) (λc q=>q) λc xs q=>q;rcases hc with z|z
   . rw[z];exact nit b _ e
   . exact nit c _ z
noncomputable def iE(h:Heap)(l:Addr):Array Value:=match h.get? l with
 | some o=>(match o.data with|.seq a _=>a|_=> #[])
 | none=> #[]
theorem aAf(q:h.IsTuple l a):iE h l=a:=by
 obtain⟨o,ho,_,n,hd⟩:=q;unfold iE;rw[ho];dsimp only;rw[hd]
theorem ZI(q:h.IsList l a):iE h l=a:=by
 obtain⟨o,ho,_,n,hd⟩:=q;unfold iE;rw[ho];dsimp only;rw[hd]
def tD(K:W.Frag)(H:Hp)(b:Bool)(l:Addr)(xs:List V):Prop:=if b=true then SqT K H l xs else SqL K H l xs
def vZ(K:W.Frag)(H:Hp)(rs:List Zr)(xss:List (List V)):Prop:=xss.length=rs.length/\∀(j:Nat) (r:Zr) (xs:List V),rs[j]? =some r->xss[j]? =some xs->tD K H r.b r.l xs
theorem lK(I:Inv X j4 σ H s)(h:tD X.K H b l xs):∃its:List Value,aI xs its/\iE s.heap l=its.toArray/\∀it,ZAt s.heap ⟨it,l,b,its.toArray⟩:=by
 unfold tD at h;cases b with
 | true =>
   rw[jd rfl] at h;obtain⟨its,rv,p,_⟩:=I.tuple h;have p':s.heap.IsTuple l its.toArray:=p;exact⟨its,rv,aAf p',λit=>by unfold ZAt;rw[jd rfl];exact p'⟩
 | false =>
   rw[jb ddq] at h;obtain⟨its,rv,p,_⟩:=I.list h;exact⟨its,rv,ZI p.isList,λit=>by unfold ZAt;rw[jb Bool.false_ne_true];exact p.isList⟩
noncomputable def mR(h:Heap)(rs:List Zr):List Zr:=rs.map λr=>{r with xs:=iE h r.l}
theorem HA{h g:Heap}{z TI TO:Addr}{rs:List Zr}{k:Nat}(S:Zs h z TI TO rs k):Zs h z TI TO (mR g rs) k:=by
 refine⟨S.z,?_,?_,λr hr=>?_⟩
 . unfold mR;rw[List.map_map];exact S.ti
 . obtain⟨ys,a,b⟩:=S.to_;exact⟨ys,by unfold mR;rw[List.length_map];exact a,b⟩
 . obtain⟨t,ht,rfl⟩:=List.mem_map.mp hr;exact S.it t ht
theorem HU{z TI TO:Addr}{rs:List Zr}(D:Ap z TI TO rs):Ap z TI TO (mR g rs):=by
 refine⟨by unfold mR;rw[List.map_map];exact D.nd,λr hr=>?_,λr hr=>?_,λr hr t ht=>?_,D.zo,D.zt,D.ot⟩
 . obtain⟨t,ht,rfl⟩:=List.mem_map.mp hr;exact D.zi t ht
 . obtain⟨t,ht,rfl⟩:=List.mem_map.mp hr;exact D.zl t ht
 . obtain⟨u,hu,rfl⟩:=List.mem_map.mp hr;obtain⟨v,hv,rfl⟩:=List.mem_map.mp ht;exact D.li u hu v hv
noncomputable def Itz(K:W.Frag)(rs:List Zr):It :=
 ⟨λi H=>∃(xss:List (List V)) (vs:List V),vZ K H rs xss/\vs.length=rs.length/\∀(j:Nat) (xs:List V),xss[j]? =some xs->xs[i]? =vs[j]?,
  λi H x H'=>∃(T:Addr) (vs:List V),x= .ref T/\H T=none/\H'=upd H T (.tup vs)/\vs.length=rs.length/\∀xss,vZ K H rs xss->∀(j:Nat) (xs:List V),xss[j]? =some xs->xs[i]? =vs[j]?,
  λi H=>(∃xs t,vZ K H rs (xs::t)/\xs.length<=i)∨∃xs ys t,vZ K H rs (xs::ys::t)/\i<xs.length/\ys.length<=i⟩
theorem aI.mk{f:Nat->Option Value}:∀{vs:List V},(∀(j:Nat) (v:V),vs[j]? =some v->∃u,f j=some u/\aN v u)->∃us,aI vs us/\us.length=vs.length/\∀(j:Nat),j<vs.length->us[j]? =f j
 | [],_=>⟨[],.nil,rfl,λj hj=>absurd hj (Nat.not_lt_zero _)⟩
 | v::vs,h=>by
   obtain⟨u,e,r⟩:=h 0 v rfl;obtain⟨us,a,b,c⟩:=aI.mk (f:=λj=>f (j+1)) (vs:=vs) λj w hw=>h (j+1) w hw;refine⟨u::us,.cons r a,by rw[List.length_cons,List.length_cons,b],λj hj=>?_⟩;cases j with
   | zero=>exact e.symm
   | succ j=>exact c j (by simpa using hj)
theorem NV(I:Inv X j4 σ H s)(h:tD X.K H b l xs)(h2:tD X.K H b l ys):xs=ys:=by
 obtain⟨a1,r1,e1,_⟩:=lK I h;obtain⟨a2,r2,e2,_⟩:=lK I h2;have:a1=a2:=by have:=e1.symm.trans e2;simpa using this
 subst this;exact r1.inj r2
theorem TV{P:J9}{w:World}{K:W.Frag}{es:List Expr}{x1}{tp:Pos}{z TI TO:Addr}{rs:List Zr}(D:Ap z TI TO rs)(hn:rs≠[])(hl:rs.length<=8) :
   FT P w K (.Tuple es x1 tp) (Itz K rs) (z::TO::TI::rs.map Zr.it) z (λi h=>Zs h z TI TO rs i) where
 mem:=by simp
 obj :=λi h st b hb=>by
   rcases List.mem_cons.mp hb with rfl|hb
   . exact⟨_,st.z,λv q=>by have q':Data.fields _=Data.cell v:=q;cases q'⟩
   rcases List.mem_cons.mp hb with rfl|hb
   . obtain⟨ys,_,q⟩:=st.to_;exact⟨_,q,λv q=>by have q':Data.seq _ _=Data.cell v:=q;cases q'⟩
   rcases List.mem_cons.mp hb with rfl|hb
   . exact⟨_,st.ti,λv q=>by have q':Data.seq _ _=Data.cell v:=q;cases q'⟩
   . obtain⟨r,hr,rfl⟩:=List.mem_map.mp hb;have q:=st.it r hr;unfold ZIt at q;split at q
     . obtain⟨o,a,_,d⟩:=q;exact⟨o,a,λv z=>by rw[d] at z;cases z⟩
     . obtain⟨o,a,_,d⟩:=q;exact⟨o,a,λv z=>by rw[d] at z;cases z⟩
 keep:=λi h h' st k=>by
   refine⟨k z (by simp) _ st.z,k TI (by simp) _ st.ti,?_,λr hr=>(st.it r hr).keep λo q=>k r.it (by simp;exact .inr (.inr (.inr ⟨r,hr,rfl⟩))) o q⟩;obtain⟨ys,a,b⟩:=st.to_;exact⟨ys,a,k TO (by simp) _ b⟩
 item := by
   intro X hP hw hK hc i j4 s σ H E I hf st hg;subst hP hw hK;obtain⟨xss,vs,hr,hvl,hx⟩:=hg;have hxl:xss.length=rs.length:=hr.1;have at_:∀r∈mR s.heap rs,ZAt s.heap r:=λr hr'=>by
     obtain⟨t,ht,rfl⟩:=List.mem_map.mp hr';obtain⟨j,hj,ej⟩:=List.getElem_of_mem ht;obtain⟨its,_,e,q⟩:=lK I (hr.2 j t (xss[j]'ooq) (by rw[wHq hj,ej]) (by simp));have:=q t.it;rw[<-e] at this;exact this
   obtain⟨us,rv,ul,hu⟩:=aI.mk (f:=λj=>(rs[j]?).bind λr=>(iE s.heap r.l)[i]?) (vs:=vs) λj v hv=>by
     have hj:j<rs.length:=by have:=(List.getElem?_eq_some_iff.mp hv).1;omega
     have er:rs[j]? =some rs[j]:=wHq hj;have ex:xss[j]? =some (xss[j]'ooq):=by simp
     obtain⟨its,rvs,e,_⟩:=lK I (hr.2 j _ _ er ex);obtain⟨u,hu,ru⟩:=rvs.get ((hx j _ ex).trans hv);refine⟨u,?_,ru⟩;show(rs[j]?).bind _=_;rw[er,Option.bind_some,e];simpa using hu
   refine NC (vs:=us) (HU D) (by unfold mR;simpa using hn) (by unfold mR;rw[List.length_map];exact hl) (HA st) at_ (by unfold mR;rw[List.length_map,ul,hvl]) (λj r hr'=>?_) λh1 hz1 hT1 hi1 hN hsz hk=>?_
   . unfold mR at hr';rw[List.getElem?_map] at hr';cases er:rs[j]? with
     | none=>rw[er] at hr';cases hr'
     | some t =>
       rw[er] at hr';have:r={t with xs:=iE s.heap t.l}:=(Option.some.inj hr').symm;subst this;have hj:j<rs.length:=(List.getElem?_eq_some_iff.mp er).1;rw[hu j ooq];show _=(rs[j]?).bind _;rw[er];rfl
   . refine⟨_,rfl,wpAny_letOwnedTupleGo_zip hz1 λh2 hz2 sb=>?_⟩;have mem_it:∀r∈rs,∃t∈mR s.heap rs,t.it=r.it:=λr hr=>⟨_,List.mem_map.mpr ⟨r,hr,rfl⟩,rfl⟩;have it_mem:∀t∈mR s.heap rs,∃r∈rs,r.it=t.it:=λt ht=>by obtain⟨r,hr,rfl⟩:=List.mem_map.mp ht;exact⟨r,hr,rfl⟩
     have hTz:s.heap.objs.size≠z:=Nat.ne_of_gt (Heap.lt_size st.z);have gT:IsT h2 s.heap.objs.size us.toArray:=(sb.2 _ hTz).trans hN;have lt:∀b∈z::TO::TI::rs.map Zr.it,b≠s.heap.objs.size:=λb hb=>by
       have:∃o,s.heap.get? b=some o:=by
         rcases List.mem_cons.mp hb with rfl|hb
         . exact⟨_,st.z⟩
         rcases List.mem_cons.mp hb with rfl|hb
         . obtain⟨ys,_,q⟩:=st.to_;exact⟨_,q⟩
         rcases List.mem_cons.mp hb with rfl|hb
         . exact⟨_,st.ti⟩
         . obtain⟨r,hr,rfl⟩:=List.mem_map.mp hb;exact(st.it r hr).lt
       obtain⟨o,q⟩:=this;exact Nat.ne_of_lt (Heap.lt_size q)
     refine⟨.ref s.heap.objs.size,upd H s.heap.objs.size (.tup vs),I.turnNew (ch:=z::TO::TI::rs.map Zr.it) (h':=h2) (λb hb=>?_) (λb hb=>(hf b hb).1) (λb o hb q=>?_) (Nat.le_refl _) ?_,rfl,⟨_,vs,rfl,I.hok.fresh (Nat.le_refl _),rfl,hvl,λyss hy j xs hxs=>?_⟩,?_,λb hb=>?_⟩
     . obtain⟨f0,f1,f2,f3,f4,f5⟩:=hf b hb;exact⟨f3,f1,f4,f5⟩
     . have n1:b≠z:=λe=>hb (by simp[e]);have n2:b≠TO:=λe=>hb (by simp[e]);exact(sb.2 b n1).trans (hk b o n1 n2 (λt ht e=>by obtain⟨r,hr,er⟩:=it_mem t ht;exact hb (by rw[e,<-er];simp;exact .inr (.inr (.inr ⟨r,hr,rfl⟩)))) q)
     . exact⟨by show vs.length<=sizeLine;rw[hvl];exact Nat.le_trans hl ddq,us,rv,fP.at gT⟩
     . have hj:j<rs.length:=by have:=(List.getElem?_eq_some_iff.mp hxs).1;have:=hy.1;omega
       have er:rs[j]? =some rs[j]:=wHq hj;have ex:xss[j]? =some (xss[j]'ooq):=by simp
       rw[NV I (hy.2 j _ _ er hxs) (hr.2 j _ _ er ex)];exact hx j _ ex
     . refine⟨hz2,(sb.2 _ D.zt).trans (hk _ _ D.zt D.ot (λt ht e=>?_) st.ti),⟨us.toArray,by simp;omega,(sb.2 _ D.zo).trans hT1⟩,λr hr=>?_⟩
       . obtain⟨r,hr,er⟩:=it_mem t ht;exact(D.zi r hr).2.2 (er.trans e.symm)
       . obtain⟨t,ht,et⟩:∃t∈mR s.heap rs,t={r with xs:=iE s.heap r.l}:=⟨_,List.mem_map.mpr ⟨r,hr,rfl⟩,rfl⟩;have q:=hi1 t ht;subst et;have q':ZIt h1 r (i+1):=q;exact q'.keep λo z=>(sb.2 _ (D.zi r hr).1).trans z
     . rw[aG (lt b hb)];exact(hf b hb).1
 done :=by
   intro X hP hw hK hc i j4 s σ H E I hf st hg;subst hP hw hK;rcases hg with ⟨xs,t,hr,hx⟩|⟨xs,ys,t,hr,hi,hy⟩
   rotate_left
   . match rs,hn,hl,D,st,hr,hf with
     | r::r2::aY,_,hl,D,st,hr,hf =>
       obtain⟨its,rv,e,q⟩:=lK I (hr.2 0 r xs rfl rfl);obtain⟨its2,rv2,e2,q2⟩:=lK I (hr.2 1 r2 ys rfl rfl);have l1:=rv.length;have l2:=rv2.length;have a0:ZAt s.heap {r with xs:=iE s.heap r.l}:=by have:=q r.it;rw[<-e] at this;exact this
       have a1:ZAt s.heap {r2 with xs:=iE s.heap r2.l}:=by have:=q2 r2.it;rw[<-e2] at this;exact this
       have hx1:(its.toArray)[i]? =some (its[i]'ooq):=by simp
       have hx2:(its2.toArray)[i]? =none:=by simp;omega
       have mb:∀b∈[z,TO,r.it,r2.it],b∈z::TO::TI::(r::r2::aY).map Zr.it:=λb hb=>by simp at hb ⊢;rcases hb with z|z|z|z<;>simp[z]
       refine PQ (r:={r with xs:=iE s.heap r.l}) (t:={r2 with xs:=iE s.heap r2.l}) (rs:=mR s.heap aY) (I.ok.hd hc) (HU (g:=s.heap) D) (by simpa [mR] using hl) (HA (g:=s.heap) st) a0 a1 (by show(iE s.heap r.l)[i]? =some _;rw[e];exact hx1) (by show(iE s.heap r2.l)[i]? =none;rw[e2];exact hx2) λh1 hk=>⟨rfl,I.turns (t':=s.toks) (ch:=[z,TO,r.it,r2.it]) (λb hb=>?_) (λb hb=>(hf b (mb b hb)).1) λb o hb q=>hk b o (λz=>hb (by simp[z])) (λz=>hb (by simp[z])) (λz=>hb (by simp[z])) (λz=>hb (by simp[z])) q⟩;obtain⟨f0,f1,f2,f3,f4,f5⟩:=hf b (mb b hb);exact⟨f3,f1,f4,f5⟩
     | [r],_,_,_,_,hr,_=>exact absurd hr.1 (by simp)
   match rs,hn,D,st,hr,hf with
   | r::aY,_,D,st,hr,hf =>
     obtain⟨its,rv,e,q⟩:=lK I (hr.2 0 r xs rfl rfl);have hl:=rv.length;have hx':(its.toArray)[i]? =none:=by simp;omega
     have a0:ZAt s.heap {r with xs:=iE s.heap r.l}:=by have:=q r.it;rw[<-e] at this;exact this
     refine UM (r:={r with xs:=iE s.heap r.l}) (rs:=mR s.heap aY) (I.ok.hd hc) (HU (g:=s.heap) D) (HA (g:=s.heap) st) a0 (by show(iE s.heap r.l)[i]? =none;rw[e];exact hx') λh1 hk=>⟨rfl,I.turns (t':=s.toks) (ch:=[z,r.it]) (λb hb=>?_) (λb hb=>?_) λb o hb q=>hk b o (λz=>hb (by simp[z])) (λz=>hb (by simp[z])) q⟩
     . have hb':b∈z::TO::TI::(r::aY).map Zr.it:=by simp at hb ⊢;rcases hb with z|z<;>simp[z]
       obtain⟨f0,f1,f2,f3,f4,f5⟩:=hf b hb';exact⟨f3,f1,f4,f5⟩
     . have hb':b∈z::TO::TI::(r::aY).map Zr.it:=by simp at hb ⊢;rcases hb with z|z<;>simp[z]
       exact(hf b hb').1
 self:=λ_ _ _ _ _ st h=>wpAny_pyIter_zip st.z h
end
section
variable{X:Cx}{j4:List (Addr×Obj)}{σ:St}{H:Hp}{s:J7}{h':Heap}
def aLE(K:W.Frag)(ta:TA):TI:=λσ H R=>ta σ H λvs H1=>∃ls:List (Bool×Addr),vs=ls.map (λp=>V.ref p.2)/\(ls.length=2∨ls.length=3)/\
 (∃xss:List (List V),xss.length=ls.length/\∀(j:Nat) (p:Bool×Addr) (xs:List V),ls[j]? =some p->xss[j]? =some xs->tD K H1 p.1 p.2 xs)/\∀rs:List Zr,rs.map (λr=>(r.b,r.l))=ls->R (Itz K rs) H1
theorem xW:∀{ls:List (Bool×Addr)} {us:List Value},aI (ls.map λp=>V.ref p.2) us->us=ls.map λp=>Value.ref p.2
 | [],_,.nil=>rfl
 | p::r,_,.cons a b=>by
   have e:=xW (ls:=r) b;cases a;rw[e];rfl
theorem aFQ(hg:Gl X "zip")(hm:X.mg "zip"=none)(ha:PA X (e::es) ta)(hs:starEach (e::es) X.env=(false,eval e X.env)::starEach es X.env)(hpl:(backTo pos (starEach es X.env)).any (·.1)=false) :
   PI X (.Tuple es0 x1 tp) (.Call (.Name "zip" p) (e::es) [] pos) (aLE X.K ta):=by
 intro j4 s σ H R I h;refine Call_ (nR I hg hm boot_zip (PyProof.Rows.callWith_type1 (thn (ha pos j4 s σ H _ I h) λus s1 zz=>?_) hs hpl));obtain⟨vs,H1,I1,r1,q1⟩:=zz;obtain⟨ls,e,hl,⟨xss,hxl,hx⟩,q⟩:=q1;subst e;have eu:=xW r1;subst eu;obtain⟨rs,ers⟩:∃rs:List Zr,rs=ls.zipIdx.map λp=>⟨s1.heap.objs.size+p.2,p.1.2,p.1.1,iE s1.heap p.1.2⟩:=⟨_,rfl⟩;have rlen:rs.length=ls.length:=by rw[ers,List.length_map,List.length_zipIdx]
 have rget:∀(j:Nat) (r:Zr),rs[j]? =some r->∃p,ls[j]? =some p/\r=⟨s1.heap.objs.size+j,p.2,p.1,iE s1.heap p.2⟩:=λj r hr=>by
   rw[ers,List.getElem?_map,List.getElem?_zipIdx] at hr;cases ep:ls[j]? with
   | none=>rw[ep] at hr;cases hr
   | some p =>
     rw[ep] at hr;have:=Option.some.inj hr;exact⟨p,rfl,by rw[<-this];simp⟩
 have rmem:∀r∈rs,∃(j:Nat) (p:Bool×Addr),ls[j]? =some p/\r=⟨s1.heap.objs.size+j,p.2,p.1,iE s1.heap p.2⟩/\j<ls.length:=λr hr=>by
   obtain⟨j,hj,ej⟩:=List.getElem_of_mem hr;obtain⟨p,a,b⟩:=rget j r (by rw[wHq hj,ej]);exact⟨j,p,a,b,by omega⟩
 have e1:rs.map (λr=>(r.b,r.l))=ls:=by
   refine List.ext_getElem? λj=>?_;rw[ers,List.map_map,List.getElem?_map,List.getElem?_zipIdx];cases ls[j]?<;>rfl
 have e2:(ls.map λp=>Value.ref p.2)=rs.map λr=>Value.ref r.l:=by rw[<-e1,List.map_map];rfl
 have at_:∀r∈rs,ZAt s1.heap r:=λr hr=>by
   obtain⟨j,p,a,rfl,hj⟩:=rmem r hr;obtain⟨its,_,e,q⟩:=lK I1 (hx j p (xss[j]'ooq) a (by simp));rw[e];exact q _
 have lt_:∀r∈rs,r.l<s1.heap.objs.size:=λr hr=>by
   have:=at_ r hr;unfold ZAt at this;split at this
   . obtain⟨o,z,_⟩:=this;exact Heap.lt_size z
   . obtain⟨o,z,_⟩:=this;exact Heap.lt_size z
 rw[e2];refine RH (by rw[rlen];exact hl) at_ (λj r hr=>by obtain⟨p,_,rfl⟩:=rget j r hr;rfl) λh2 S hsz hk=>?_;have I2:Inv X j4 σ H1 {s1 with heap:=h2}:=I1.kept (t':=s1.toks) hk;refine wpAny_pyIter_zip (s:={s1 with heap:=h2}) S.z ?_;have nn:∀{m n:Nat},m<n->m≠n:=λh=>Nat.ne_of_lt h;have D:Ap (s1.heap.objs.size+rs.length+2) (s1.heap.objs.size+rs.length) (s1.heap.objs.size+rs.length+1) rs:=by
   refine⟨?_,λr hr=>?_,λr hr=>?_,λr hr t ht=>?_,Nat.ne_of_lt ooq,Nat.ne_of_lt ooq,Nat.ne_of_lt ooq⟩
   . rw[ers,List.map_map];refine List.pairwise_iff_getElem.mpr λi j hi hj hij=>?_;simp only[List.getElem_map,Function.comp,List.getElem_zipIdx];exact Nat.ne_of_lt ooq
   . obtain⟨j,p,a,rfl,hj⟩:=rmem r hr;exact⟨Nat.ne_of_lt (by show s1.heap.objs.size+j<_;omega),Nat.ne_of_lt (by show s1.heap.objs.size+j<_;omega),Nat.ne_of_lt (by show s1.heap.objs.size+j<_;omega)⟩
   . have:=lt_ r hr;exact⟨Nat.ne_of_lt (wFq this ooq),Nat.ne_of_lt (wFq this ooq)⟩
   . have:=lt_ r hr;obtain⟨j,p,a,rfl,hj⟩:=rmem t ht;exact Nat.ne_of_lt (wFq this (Nat.le_add_right _ _))
 refine⟨s1.heap.objs.size+rs.length+2,_,_,_,H1,rfl,I2,TV D (by intro z;rw[z] at rlen;simp at rlen;omega) ooq,S,λb hb=>?_,q rs e1⟩;have hb':s1.heap.objs.size<=b:=by
   simp only[List.mem_cons,List.mem_map] at hb;rcases hb with rfl|rfl|rfl|⟨r,hr,rfl⟩
   . exact Nat.le_trans (Nat.le_add_right _ rs.length) (Nat.le_add_right _ 2)
   . exact Nat.le_trans (Nat.le_add_right _ rs.length) (Nat.le_add_right _ 1)
   . exact Nat.le_add_right _ _
   . obtain⟨j,p,a,rfl,hj⟩:=rmem r hr;exact Nat.le_add_right _ _
 exact I1.fpOk hb' (I1.hok.fresh hb')
end
end L2
namespace L2
open PySem PySem.Spec PyProof.Rows
section
variable{X:Cx}
theorem vK:∀{bs:List Bool} {us:List Value} {i:Nat} {v:Value},aI (bs.map V.bl) us->us[i]? =some v->∃b,bs[i]? =some b/\v= .bool b
 | [],_,_,_,r,h=>by cases r;simp at h
 | b::bs,_,0,v,r,h=>by
   cases r with
   | cons r1 r2 =>
     simp at h;subst h
     exact⟨b,rfl,r1⟩
 | b::bs,_,i+1,v,r,h=>by
   cases r with
   | cons r1 r2 =>
     obtain⟨c,e,q⟩:=vK (i:=i) r2 (by simpa using h);exact⟨c,by simpa using e,q⟩
theorem KY{s:J7}{h':Heap}(hk:∀b x,b∉[s.heap.objs.size]->(s.heap.push o).get? b=some x->h'.get? b=some x):∀b x,s.heap.get? b=some x->h'.get? b=some x :=
 λb x e=>hk b x (λhm=>by rw[List.mem_singleton.mp hm] at e;exact Nat.lt_irrefl _ (Heap.lt_size e)) (wEq _ e)
theorem PY(bs:List Bool):((List.range bs.length).all λi=>(bs[i]?).getD true)=bs.all id:=by
 rw[Bool.eq_iff_iff,List.all_eq_true,List.all_eq_true];constructor
 . intro h b hb;obtain⟨i,hi,rfl⟩:=List.getElem_of_mem hb;have:=h i (List.mem_range.mpr hi);simp only[wHq hi,Option.getD_some] at this;exact this
 . intro h i hi;have hi':=List.mem_range.mp hi;simp only[wHq hi',Option.getD_some];exact h _ (List.getElem_mem hi')
theorem PB(bs:List Bool):((List.range bs.length).any λi=>(bs[i]?).getD false)=bs.any id:=by
 rw[Bool.eq_iff_iff,List.any_eq_true,List.any_eq_true];constructor
 . rintro⟨i,hi,e⟩;have hi':=List.mem_range.mp hi;simp only[wHq hi',Option.getD_some] at e;exact⟨_,List.getElem_mem hi',e⟩
 . rintro⟨b,hb,e⟩;obtain⟨i,hi,rfl⟩:=List.getElem_of_mem hb;exact⟨i,List.mem_range.mpr hi,by simp only[wHq hi,Option.getD_some];exact e⟩
theorem OI(hc:X.calm=true):bC X (.builtin "all") (λxs H Q=>∃(p:Addr) (bs:List Bool),xs=[.ref p]/\H p=some (.lst (bs.map V.bl))/\Q (.bl (bs.all id)) H):=by
 rintro j4 s σ H xs us Q I r ⟨p,bs,e,hp,q⟩;subst e;obtain⟨u,rfl,ru⟩:=fS r;cases ru;obtain⟨_,its,n,rv,ho⟩:=I.hok _ _ hp;have hl:s.heap.IsList p its.toArray:=⟨_,ho,rfl,n,rfl⟩;have hlt:p<s.heap.objs.size:=Heap.lt_size ho;refine call_all_walk (wpAny_pyIter_list hl ?_);refine⟨s.heap.objs.size,[s.heap.objs.size,p],[s.heap.objs.size],its.toArray.size,_,_,λi=>(bs[i]?).getD true,rfl,Walks.list (A:=X.A.in1) (I.ok.hd hc) _ p (Nat.ne_of_lt hlt) its.toArray,
   ⟨⟨_,wGq _ rfl,rfl,rfl⟩,hl.push _⟩,λi v s' Q' E' hP hQ=>?_,λh' tk hk=>?_⟩
 . obtain⟨b,e,rfl⟩:=vK rv (i:=i) (v:=v) (by simpa using hP);simp only[e,Option.getD_some] at hQ;exact wpAny_truthy_bool hQ
 . have e:((List.range its.toArray.size).all λi=>(bs[i]?).getD true)=bs.all id:=by
     have:=rv.length;rw[List.length_map] at this;rw[wIq,<-this];exact PY bs
   rw[e];exact⟨.bl _,H,I.kept (t':=tk) (KY hk),rfl,q⟩
theorem QQ(hc:X.calm=true):bC X (.builtin "any") (λxs H Q=>∃(p:Addr) (bs:List Bool),xs=[.ref p]/\H p=some (.lst (bs.map V.bl))/\Q (.bl (bs.any id)) H):=by
 rintro j4 s σ H xs us Q I r ⟨p,bs,e,hp,q⟩;subst e;obtain⟨u,rfl,ru⟩:=fS r;cases ru;obtain⟨_,its,n,rv,ho⟩:=I.hok _ _ hp;have hl:s.heap.IsList p its.toArray:=⟨_,ho,rfl,n,rfl⟩;have hlt:p<s.heap.objs.size:=Heap.lt_size ho;refine call_any_walk (wpAny_pyIter_list hl ?_);refine⟨s.heap.objs.size,[s.heap.objs.size,p],[s.heap.objs.size],its.toArray.size,_,_,λi=>(bs[i]?).getD false,rfl,Walks.list (A:=X.A.in1) (I.ok.hd hc) _ p (Nat.ne_of_lt hlt) its.toArray,
   ⟨⟨_,wGq _ rfl,rfl,rfl⟩,hl.push _⟩,λi v s' Q' E' hP hQ=>?_,λh' tk hk=>?_⟩
 . obtain⟨b,e,rfl⟩:=vK rv (i:=i) (v:=v) (by simpa using hP);simp only[e,Option.getD_some] at hQ;exact wpAny_truthy_bool hQ
 . have e:((List.range its.toArray.size).any λi=>(bs[i]?).getD false)=bs.any id:=by
     have:=rv.length;rw[List.length_map] at this;rw[wIq,<-this];exact PB bs
   rw[e];exact⟨.bl _,H,I.kept (t':=tk) (KY hk),rfl,q⟩
end
end L2
namespace LX
open PySem PyProof.Rows
section
variable{prog:J9}{w:World}{A:Around}{E:Value->J7->Prop}{s:J7}
theorem aCW(hne:t≠it):∀(n i:Nat) (s:J7) (Q:List Value->J7->Prop),s.heap.IsListIter it t i->s.heap.IsList t items->i+n<=items.size->
   (∀h',h'.IsListIter it t (i+n)->Heap.SameBut it s.heap h'->Q ((items.toList.drop i).take n) {s with heap:=h'})->wpAny (model prog w) A (draw (.ref it) n) Q E s
 | 0,i,s,Q,hit,_,_,hQ=>by
   show wpAny _ _ (pure []) Q E s;exact wBq (by simpa using hQ s.heap hit (Heap.SameBut.refl ..))
 | n+1,i,s,Q,hit,ht,hle,hQ=>by
   have hlt:i<items.size:=by omega
   show wpAny _ _ (pyNext (.ref it)>>=_) Q E s;refine wAq (wpAny_pyNext_list_item hit ht (x:=items[i]) (by simp[hlt]) λh1 hit1 hs1=>?_);refine wAq (wpAny_holding (aCW hne n (i+1) _ _ hit1 (ht.extBut hs1.extBut hne) ooq λh2 hit2 hs2=>wBq ?_));have hd:items.toList.drop i=items[i]::items.toList.drop (i+1):=by simp[List.drop_eq_getElem_cons,hlt]
   have:=hQ h2 (by rw[show i+(n+1)=i+1+n by omega];exact hit2) (hs1.trans hs2);rw[hd,List.take_succ_cons] at this;exact this
theorem aCA(hh:A.handled=none)(ht:s.heap.IsList t items)
   (hQ:∀h',Heap.ExtBut s.heap.objs.size s.heap h'->Q items.toList {s with heap:=h'}):wpAny (model prog w) A (unpackItems (.ref t) items.size none) Q E s:=by
 have hlt:t≠s.heap.objs.size:=by obtain⟨o,ho,_⟩:=ht;exact Nat.ne_of_lt (Heap.lt_size ho)
 unfold unpackItems;refine wAq ?_;unfold notIterableAtAll;refine wAq (wpAny_specialOf ht.typeIs slot_list_iter.lookup ?_);refine wBq ?_;simp only[Bool.false_eq_true,if_false];refine wAq (wpAny_holding (wpAny_pyIter_list ht ?_));refine wAq (wpAny_holding (aCW hlt items.size 0 _ _ ⟨_,wGq _ rfl,rfl,rfl⟩ (ht.push _) ooq λh1 hit1 hs1=>?_));have hall:List.take items.size (List.drop 0 items.toList)=items.toList:=by
   rw[List.drop_zero];exact List.take_of_length_le (by simp)
 rw[hall];rw[jb (by simp)];have ht1:h1.IsList t items:=(ht.push _).extBut hs1.extBut hlt;refine wAq (wpAny_holding (wpAny_pyNext_list_end hh hit1 ht1 (by simp) λh2 he2=>?_));simp only[Option.isSome_none,Bool.false_eq_true,if_false];refine wBq (hQ h2 λb o hb e=>he2 b o hb (hs1.extBut b o hb (wEq _ e)))
theorem aL9(hh:A.handled=none)(ht:s.heap.IsList t items)
   (hn:(assignEach elts env).length=items.size) (hstar:(assignEach elts env).findIdx? (·.1)=none)
   (h:∀h',Heap.ExtBut s.heap.objs.size s.heap h'->wpAny (model prog w) A (assignInOrder ((assignEach elts env).map (·.2)) items.toList) Q E {s with heap:=h'}) :
   wpAny (model prog w) A (assign (.Tuple elts x1 pos) env (.ref t)) Q E s:=by
 rw[assign_Tuple];refine wAq (wpAny_standAt ?_);unfold unpack;rw[hn,hstar];exact wAq (wpAny_holding (aCA hh ht h))
end
end LX
namespace L2
open PySem PySem.Spec PyProof.Rows
section
variable{X:Cx}{pos:Pos}
def aMi(n:Nat)(t:TGs):TG:=λv σ H Q=>∃a xs,v= .ref a/\H a=some (.lst xs)/\xs.length=n/\t xs σ H Q
theorem aGq(hc:X.calm=true)(h:PGs X es t)
   (hn:(assignEach es X.env).length=n) (hst:(assignEach es X.env).findIdx? (·.1)=none):PG X (.Tuple es k pos) (aMi n t):=by
 intro j4 s σ H v u Q I r hw;obtain⟨a,xs,e1,hq,hl,hw⟩:=hw;subst e1;cases r;obtain⟨_,its,nn,rv,ho⟩:=I.hok _ _ hq;have ht:s.heap.IsList a its.toArray:=⟨_,ho,rfl,nn,rfl⟩;refine LX.aL9 (I.ok.hd hc) ht (by simp[hn,<-hl,rv.length]) hst λh' hx=>?_;have I1:Inv X j4 σ H {s with heap:=h'}:=I.kept (t':=s.toks) λb o e=>hx b o (Nat.ne_of_lt (Heap.lt_size e)) e;exact h j4 _ σ H xs _ Q I1 (by simpa using rv) hw
def aMt(C:Addr)(sp:Sp):R2:=λx y H Q=>∃p dx fs p' dx' fs',x= .ref p/\y= .ref p'/\H p=some (.ins C dx fs)/\H p'=some (.ins C dx' fs')/\sp [.ref p,.ref p'] H (λv H'=>∃b,v= .bl b/\Q (.bl b) H') E0
theorem aHm(M:cR X.K C "__eq__" f)(F:aW X.prog X.w X.K X.mg X.base CX0 k f fd ["self","other"] sp)(hr:aR k X.A)(hb:aP X.K fd ["self","other"] []) :
   OpR X (compareOp .Eq) (aMt C sp):=by
 rintro j4 s σ H x y v u Q I rx ry ⟨p,dx,fs,p',dx',fs',e1,e2,ea,eb,q⟩;subst e1 e2;cases rx;cases ry;obtain⟨od,J⟩:=bB I ea;obtain⟨od',J'⟩:=bB I eb;obtain⟨m,Fm⟩:=I.fr;refine W.cmp_ofEq (W.cmp_K hr.units0 Fm I.ok.mod.kin J J'.type (by unfold W.notFirst;simp) M.at_ M.fn
   (thn (eX (dvs:=[]) (ds:=[]) (vs:=[.ref p,.ref p']) F hr I.env0 hb .nil hV I (.cons rfl (.cons rfl .nil)) q) λv s' ⟨x,H',I',rx,b,e,q'⟩=>?_))
 subst e;cases rx;exact⟨.bl b,H',I',rfl,q'⟩
variable{a b c d:Expr}{ta tb tc td:TE}
end
section
variable{X:Cx}
end
section
variable{X:Cx}{pos:Pos}
theorem Inv.big1{j4:List (Addr×Obj)}{σ:St}{H:Hp}{s:J7}(I:Inv X j4 σ H s):sysModules<s.heap.objs.size:=by
 obtain⟨o,es,ep,ho,_⟩:=I.mod.glob;exact Nat.lt_trans (show sysModules<mainGlobals by decide) (Heap.lt_size (I.bk _ _ ho))
theorem aG7:PE X (.Dict [] [] pos) (λ_ H Q=>∀p,H p=none->Q (.ref p) (upd H p (.dK []))):=λj4 s σ H Q I h =>
 wpAny_Dict_empty ⟨.ref s.heap.objs.size,_,I.laid (a:=s.heap.objs.size) (o:=.dK []) (t':=s.toks) (λ_ _ q=>wEq _ q) (Nat.le_refl _)
   (show cC X.prog X.w _ _ _ (.dK []) from⟨Nat.zero_le _,beq_eq_false_iff_ne.mpr (Ne.symm (Nat.ne_of_lt I.big1)),[],.nil,Heap.DictOf.new s.heap⟩),rfl,h _ (I.hok.fresh (Nat.le_refl _))⟩
end
end L2
namespace LE
open PySem PyProof.Rows
open AutoSeq1 (wpAny_loadPart')
open MeetsSeq MeetsSeq2 MeetsSeq3 SeqRoads2
theorem vP{prog:J9}{w:World}{A:Around}{E:Value->J7->Prop}{s:J7}{T id:J8}{B:Builtin}{c x:Value}{S:PySem.Spec}{Q:Value->J7->Prop}(hT:s.TypeIs c T)(slot:Slot T "__contains__" id)
   (entry:entryFor table id=some B) (args:argsOk id ⟨[c,x],[]⟩) (g:MeetsIn prog w (B ⟨[c,x],[]⟩) S)
   (h:S A (wants (λv s'=>∃b,v= .bool b/\Q (.bool b) s') E) s):wpAny (model prog w) A (compareOp .In x c) Q E s:=by
 show wpAny _ A (do return .bool (<-contains c x)) Q E s;refine wAq (wpAny_contains_slot hT slot (wpAny_mono (call_meetsIn slot hT entry args g h) (λv s' hv=>?_) λ_ _ e=>e));obtain⟨b,rfl,hq⟩:=hv;exact wpAny_truthy_bool (wBq hq)
theorem xC{prog:J9}{w:World}{A:Around}{E:Value->J7->Prop}{s:J7}{T id:J8}{B:Builtin}{c x:Value}{S:PySem.Spec}{Q:Value->J7->Prop}(hT:s.TypeIs c T)(slot:Slot T "__contains__" id)
   (entry:entryFor table id=some B) (args:argsOk id ⟨[c,x],[]⟩) (g:MeetsIn prog w (B ⟨[c,x],[]⟩) S)
   (h:S A (wants (λv s'=>∃b,v= .bool b/\Q (.bool (!b)) s') E) s):wpAny (model prog w) A (compareOp .NotIn x c) Q E s:=by
 show wpAny _ A (do return .bool (!(<-contains c x))) Q E s;refine wAq (wpAny_contains_slot hT slot (wpAny_mono (call_meetsIn slot hT entry args g h) (λv s' hv=>?_) λ_ _ e=>e));obtain⟨b,rfl,hq⟩:=hv;exact wpAny_truthy_bool (wBq hq)
end LE
namespace L2
open PySem PySem.Spec PyProof.Rows
section
variable{X:Cx}
end
section
variable{κ:Type}[DecidableEq κ]
noncomputable def valV(kvs:List (κ×V))(k:κ):Option V:=(kvs.find? λkv=>decide (kv.1=k)).map (·.2)
theorem aJ4:valV ([]:List (κ×V)) k=none:=rfl
theorem wG{p:κ×V}(e:p.1=k):valV (p::r) k=some p.2:=by simp[valV,List.find?_cons,e]
theorem vN{r:List (κ×V)}(e:¬p.1=k):valV (p::r) k=valV r k:=by simp[valV,List.find?_cons,e]
theorem KV.val(r:KV kvs vs)(k:κ):oO (valV kvs k) (valueAt vs k):=by
 unfold KV at r;induction r with
 | nil=>exact True.intro
 | @cons p q ps qs h t ih =>
   obtain⟨h1,h2⟩:=h;by_cases e:p.1=k
   . have e':q.1=k:=h1.symm.trans e;have b:valueAt (q::qs) k=some q.2:=by simp[valueAt,List.find?_cons,e']
     rw[wG e,b];exact h2
   . have e':¬q.1=k:=λz=>e (h1.trans z);have b:valueAt (q::qs) k=valueAt qs k:=by simp[valueAt,List.find?_cons,e']
     rw[vN e,b];exact ih
end
theorem aDJ(r:aN (kV k) u):(dX P w).is k u=true:=by
 cases k with
 | inl i=>obtain⟨t,e⟩:=(show ∃t,u=Value.int i t from r);subst e;exact DM P w i t
 | inr x=>obtain⟨t,e⟩:=(show ∃t,u=Value.str x t from r);subst e;exact FA P w x t
theorem yO:∀{ks:List Key} {us:List Value},aI (ks.map kV) us->ItemsAre (dX P w) ks us
 | [],_,r=>by rw[List.map_nil] at r;cases r;exact .nil
 | k::ks,_,r=>by
   rw[List.map_cons] at r;cases r with
   | cons h t=>exact .cons (aDJ h) (yO t)
noncomputable abbrev KT(H:Hp):List (List Key×V)->List (List Key×Addr×Value)->Prop:=Paired λp q=>p.1=q.1/\H q.2.1=some (.tup (p.1.map kV))/\aN p.2 q.2.2
theorem KT.val(r:KT H kvs xs)(k:List Key):oO (valV kvs k) ((atKey xs k).map (·.2)):=by
 induction r with
 | nil=>exact True.intro
 | @cons p q ps qs h t ih =>
   obtain⟨h1,_,h2⟩:=h;by_cases e:p.1=k
   . have e':q.1=k:=h1.symm.trans e;have b:atKey (q::qs) k=some q.2:=by simp[atKey,List.find?_cons,e']
     rw[wG e,b];exact h2
   . have e':¬q.1=k:=λz=>e (h1.trans z);have b:atKey (q::qs) k=atKey qs k:=by simp[atKey,List.find?_cons,e']
     rw[vN e,b];exact ih
section
variable{P:J9}{w:World}{H:Hp}{h:Heap}{a:Addr}
theorem aDW(ok:HOk P w H h)(e:Rd H a u):cC P w H h a u:=e.ok ok
theorem aDf(ok:HOk P w H h)(e:Rd H a (.dK kvs)):kvs.length<=sizeLine/\(a==sysModules)=false/\∃vs,KV kvs vs/\h.DictOf (dX P w) a vs :=
 show cC P w H h a (.dK kvs) from aDW ok e
theorem ZV(ok:HOk P w H h)(e:H a=some (.tup (ks.map kV))):(tupleKind (dX P w)).is h ks a:=by
 obtain⟨_,its,r,⟨o,h1,h2,n,h3⟩,_⟩:=(show cC P w H h a (.tup (ks.map kV)) from ok a _ e);exact⟨o,its.toArray,n,h1,h2,h3,by simpa using yO r⟩
theorem aDL(ok:HOk P w H h)(e:Rd H a (.dT kvs)):kvs.length<=sizeLine/\(a==sysModules)=false/\
   ∃xs,KT H kvs xs/\h.DictOfH (tupleKind (dX P w)) a xs:=by
 obtain⟨z,y,xs,r,o,es,ep,h1,h2,h3,h4,h5⟩:=(show cC P w H h a (.dT kvs) from aDW ok e);refine⟨z,y,xs,r,o,es,ep,h1,h2,h3,h4,λx hx=>?_,h5⟩;have all:∀{l:List (List Key×V)} {m:List (List Key×Addr×Value)},KT H l m->∀x∈m,(tupleKind (dX P w)).is h x.1 x.2.1:=by
   intro l m q;induction q with
   | nil=>intro x hx;exact nomatch hx
   | @cons p q ps qs hq t ih =>
     intro x hx;rcases List.mem_cons.mp hx with e|hx
     . subst e;exact ZV ok (by rw[<-hq.1];exact hq.2.1)
     . exact ih x hx
 exact all r x hx
end
noncomputable def TQ(H:Hp)(a:Addr)(y:V)(r:Option V):Prop :=
 (∃kvs k,Rd H a (.dK kvs)/\y=kV k/\r=valV kvs k)∨∃kvs k b,Rd H a (.dT kvs)/\y= .ref b/\H b=some (.tup (k.map kV))/\r=valV kvs k
theorem TQ.k{H:Hp}{kvs:List (Key×V)}{k:Key}(e:H a=some (.dK kvs)):TQ H a (kV k) (valV kvs k):=.inl ⟨kvs,k,.inl e,rfl,rfl⟩
section
variable{X:Cx}{j4:List (Addr×Obj)}{σ:St}{H:Hp}{s:J7}{a:Addr}{y v:V}{u r:Value}{o:Option V}{A:Around}{E:Value->J7->Prop}
theorem MZ(hu:A.units+1<cLine)(I:Inv X j4 σ H s)(g:TQ H a y (some v))(ry:aN y u)(h:∀w' s',Inv X j4 σ H s'->aN v w'->Q w' s') :
   wpAny (model X.prog X.w) A (getItem (.ref a) u) Q E s:=by
 rcases g with ⟨kvs,k,e,ey,l⟩|⟨kvs,k,b,e,ey,eb,l⟩
 . subst ey;obtain⟨z,hd,vs,rel,dd⟩:=aDf I.hok e;obtain⟨w',hw,rw'⟩:=oO.some_of (v:=v) (o:=valueAt vs k) (by rw[l];exact rel.val k);exact wpAny_getItem_of (aDJ ry) dd.mapOf hw (h w' _ (I.tok _) rw')
 . subst ey;cases(show u=Value.ref b from ry);obtain⟨z,hd,xs,rel,dd⟩:=aDL I.hok e;obtain⟨w',hw,rw'⟩:=oO.some_of (v:=v) (o:=(atKey xs k).map (·.2)) (by rw[l];exact rel.val k);obtain⟨p,hp,hp2⟩:=Option.map_eq_some_iff.mp hw;refine wpAny_getItem_heap (tupleKind_room_in1 hu) (ZV I.hok eb) dd hp ?_;rw[hp2];exact h w' _ (I.tok _) rw'
end
section
variable{X:Cx}{j4:List (Addr×Obj)}{σ:St}{H:Hp}{s:J7}{a:Addr}{kvs:List (Key×V)}{k:Key}{u:Value}{A:Around}{E:Value->J7->Prop}
end
theorem CL{X:Cx}{j4:List (Addr×Obj)}{σ:St}{H:Hp}{s:J7}{a:Addr}{y:V}{o:Option V}(I:Inv X j4 σ H s)(g:TQ H a y o):s.TypeIs (.ref a) "dict":=by
 rcases g with ⟨kvs,k,e,_,_⟩|⟨kvs,k,b,e,_,_,_⟩
 . obtain⟨_,_,vs,_,dd⟩:=aDf I.hok e;exact dd.typeIs
 . obtain⟨_,_,xs,_,dd⟩:=aDL I.hok e;exact dd.typeIs
section
variable{X:Cx}{o i e value:Expr}{pos pos' tpos:Pos}{td ty tv:TE}
end
section
variable{X:Cx}{pos:Pos}
end
def aK2:R2:=λx y H Q=>∃a v,x= .ref a/\TQ H a y (some v)/\Q v H
theorem aCg(hr:aR k X.A):IxR X aK2:=by
 rintro value slice j4 s σ H x y v u Q I rx ry ⟨a,z,ex,g,q⟩ hs;subst ex;cases rx;exact tail_any (CL I g) slot_dict_getitem.lookup (MZ (by have:=hr.units;omega) I g ry λw' s' I' r'=>⟨z,H,I',r',q⟩) hs
end L2
namespace LE
open PySem PySem.W PySem.Calls PyProof.Rows Builtin
section
variable{prog:J9}{w:World}{A:Around}{E:Value->J7->Prop}{s:J7}{K:Frag}{x C L f:Addr}{h₀:Heap}{m:Str->Option Value}{ox:Obj}{od:Option Obj}{b tb:Value}
theorem NB{T id:J8}{args:List Value}{Q:Option Value->J7->Prop}(X:K.In s.heap)(I:InstAt s.heap x ox C od)(hs:findIn K (.ref C) name=some (some (.builtin id)))(S:Slot T name id)
   (h:wpAny M A (call (.builtin id) (.ref x::args)) (λv=>Q (some v)) E s):wpAny M A (callSpecialIfBound? (.ref x) name args) Q E s:=by
 simp only[callSpecialIfBound?,bindSpecialIfBound?];refine wpAny_holding (wAq (wAq (wAq (I.type.here ((looks_findIn X hs).here ?_)))));simp only[S.bind];refine wAq (wpAny_askSetting (wpAny_ite ?_));have fin:wpAny M A (call (.builtin id) ([.ref x]++args)>>=λv=>pure (some v)) Q E s:=wAq (wpAny_mono h (λv s' h'=>wBq h') λ_ _ h'=>h');split
 . exact wAq (wBq (wBq fin))
 . exact wpAny_tryCatch (wAq (wBq (wBq fin)))
theorem VR(X:K.In s.heap)(I:InstAt s.heap x ox C od)(hob:subIn K (.ref C) (.type "object")=some true)(hq:Q () s) :
   wpAny M A (checkBuiltinCall "object.__ne__" ⟨[.ref x,b],[]⟩) Q E s:=by
 have ha:=PySem.F.cmpArgs_ne (.ref x) b;simp only[checkBuiltinCall,PySem.F.cmpKind_ne,PySem.F.cmpSplit_ne];refine wAq ?_;unfold isInstance;refine wAq (I.type.here ((looks_subIn X hob).here ?_));simp only[Bool.not_true,Bool.false_eq_true,if_false];cases hsig:Manifest.signature? "object.__ne__" with
 | none=>exact wBq hq
 | some sig =>
   simp only[argsOk,hsig] at ha;have h2:Bind.checkArgs "object.__ne__" sig ⟨[.ref x,b],[]⟩=pure ():=ha;show wpAny M A (Bind.checkArgs "object.__ne__" sig ⟨[.ref x,b],[]⟩) Q E _;rw[h2];exact wBq hq
theorem aKF(hu:A.units+1<cLine)(X:K.In s.heap)(I:InstAt s.heap x ox C od)(hb:Looks (model prog w) s.heap (typeOf b) tb)(hn:notFirst K C tb=true)(hne:findIn K (.ref C) "__ne__"=some (some (.builtin "object.__ne__")))
   (hob:subIn K (.ref C) (.type "object")=some true) (hs:findIn K (.ref C) "__eq__"=some (some (.ref f))) (hf:isFn K (.ref f)=true)
   (h:wpAny (model prog w) A.in1 (call (.ref f) [.ref x,b]) (λv s'=>∃r,v= .bool r/\Q (.bool (!r)) s') E s):wpAny (model prog w) A (richCompare .NotEq (.ref x) b) Q E s:=by
 have one:wpAny (model prog w) A (tryCompare (.ref x) (cmpInfo .NotEq).2.1 b) (λr s'=>∃v,r=some v/\Q v s') E s:=by
   unfold tryCompare;refine wAq (NB (T:="object") X I hne PySem.F.cmp_object.ne ?_);refine wpAny_call (codeAny_call_builtin PySem.F.cmp_object.ne.plain PySem.F.cmpEntry_ne (VR X I hob ?_));unfold Builtin.«object.__ne__»;refine wAq (m:=slotArgs "__ne__" 1 _) (wBq ?_);refine wAq (wpAny_cRoomFor (by show A.units+1<cLine;exact hu) ?_);refine wAq (ifBound_K X I hs hf (wpAny_mono h (λv s' hv=>?_) λ_ _ e=>e));obtain⟨r,rfl,q⟩:=hv;refine wAq (wpAny_truthy_bool ?_);refine wBq ?_;exact wBq ⟨_,rfl,q⟩
 unfold richCompare;simp only[oneThing_ref];refine wpAny_holding (wAq (wpAny_cRoomFor ooq ?_));refine wAq (I.type.here (wAq (hb.here ?_)));split
 . rename_i q;have e:subIn K tb (.ref C)=some false:=by
     rcases Bool.or_eq_true_iff.mp hn with e|e
     . rw[beq_iff_eq.mp e] at q;simp at q
     . exact beq_iff_eq.mp e
   refine wAq ((looks_subIn X e).here ?_);simp only[Bool.false_eq_true,if_false];refine wAq (wpAny_mono one (λr s' z=>?_) λ_ _ e=>e);obtain⟨v,rfl,hq⟩:=z;exact wBq hq
 . refine wAq (wBq ?_);simp only[Bool.false_eq_true,if_false];refine wAq (wpAny_mono one (λr s' z=>?_) λ_ _ e=>e);obtain⟨v,rfl,hq⟩:=z;exact wBq hq
theorem IC(F:Fr h₀ L s.heap m)(X₀:K.In h₀)(I:InstAt s.heap x ox C od)(hb:findIn K (.ref C) "__bool__"=some none)(hs:findIn K (.ref C) "__len__"=some (some (.ref f)))(hf:isFn K (.ref f)=true)
   (h:wpAny (model prog w) A.in1 (call (.ref f) [.ref x]) (λv s'=>∃n t,v= .int n t/\0<=n/\n<2^63/\Q (n !=0) {s' with toks:=s'.toks+1}) E s):wpAny (model prog w) A (truthy (.ref x)) Q E s:=by
 have X:=X₀.keeps F.keep;unfold truthy;refine wAq (m:=callSpecial? (.ref x) (Str.ofString "__bool__")) (wAq (wAq (I.type.here ((looks_findIn X hb).here (wBq ?_)))));refine wAq (wAq (I.type.here ((looks_findIn X hs).here ?_)));simp only[Option.isNone_some,Bool.false_eq_true,if_false];refine wAq (runValue_entry entry_len ?_);rw[Around.under_plainId plain_len _];unfold Builtin.«len»;refine wAq (m:=oneArg "len" _) (wBq ?_);refine wAq (m:=callSpecial? (.ref x) (Str.ofString "__len__")) (special_fn X I hs (beq_iff_eq.mp hf) (wpAny_mono h (λr s' hr=>?_) λ_ _ y=>y));obtain⟨n,u,rfl,h0,h1,hq⟩:=hr;refine wAq (wpAny_holding (wBq ?_));refine wAq (wpAny_letGo ?_);show wpAny _ _ (if n<0 then _ else _) _ _ _;rw[jb ooq];show wpAny _ _ (if n≥2^63 then _ else _) _ _ _;rw[jb ooq];exact wAq (wpAny_mkInt (wBq ⟨_,rfl,wBq hq⟩))
end
end LE
namespace L2
open PySem PySem.Spec PyProof.Rows
section
variable{X:Cx}
structure NeC(K:W.Frag)(C:Addr):Prop where
 ne:W.findIn K (.ref C) "__ne__"=some (some (.builtin "object.__ne__"))
 ob:W.subIn K (.ref C) (.type "object")=some true
 bo:W.findIn K (.ref C) "__bool__"=some none
def aL8(C:Addr)(sp:Sp):R2:=λx y H Q=>∃p dx fs p' dx' fs',x= .ref p/\y= .ref p'/\H p=some (.ins C dx fs)/\H p'=some (.ins C dx' fs')/\sp [.ref p,.ref p'] H (λv H'=>∃b,v= .bl b/\Q (.bl (!b)) H') E0
theorem aEg(N:NeC X.K C)(M:cR X.K C "__eq__" f)(F:aW X.prog X.w X.K X.mg X.base CX0 k f fd ["self","other"] sp)(hr:aR (k+1) X.A)(hb:aP X.K fd ["self","other"] []) :
   OpR X (compareOp .NotEq) (aL8 C sp):=by
 rintro j4 s σ H x y v u Q I rx ry ⟨p,dx,fs,p',dx',fs',e1,e2,ea,eb,q⟩;subst e1 e2;cases rx;cases ry;obtain⟨od,J⟩:=bB I ea;obtain⟨od',J'⟩:=bB I eb;refine W.cmp_ofNotEq (LE.aKF (by have:=hr.units;omega) I.kIn J J'.type (by unfold W.notFirst;simp) N.ne N.ob M.at_ M.fn
   (thn (eX (dvs:=[]) (ds:=[]) (vs:=[.ref p,.ref p']) F hr.in1 I.env0.in1 hb .nil hV I (.cons rfl (.cons rfl .nil)) q) λv s' ⟨x,H',I',rx,b,e,q'⟩=>?_))
 subst e;cases rx;exact⟨b,rfl,.bl (!b),H',I',rfl,q'⟩
end
end L2
namespace LE
open PySem PyProof.Rows
open AutoSeq1 (wpAny_loadPart')
open MeetsSeq MeetsSeq2 MeetsSeq3 SeqRoads2 SeqAt
end LE
namespace HT
open PySem PySem.Spec PyProof.Rows
section
variable{prog:J9}{w:World}{A:Around}{E:Value->J7->Prop}{s:J7}
theorem sB{sl:Addr}{vs:Value}{n:Nat}{Q:Int×Int×Nat->J7->Prop}(hs:s.heap.IsSliceOf sl .none .none vs)(ps:IsPart vs (some (-1)))
   (h:Q ((n:Int)-1,-1,n) s):wpAny (model prog w) A (Builtin.Slice.sliceApplied (.ref sl) (pure (n:Int))) Q E s:=by
 obtain⟨os,hos,hcs,hds⟩:=id hs;unfold Builtin.Slice.sliceApplied Builtin.Slice.sliceFields;refine wAq (wAq (wpAny_field hos hds (x:=.none) rfl (wAq (wpAny_field hos hds (x:=.none) rfl (wAq (wpAny_field hos hds (x:=vs) rfl (wBq ?_)))))));refine wAq (nU ps ?_);show wpAny _ _ (if ((-1:Int)==0)=true then _ else _) _ _ s;rw[jb ddq];refine wAq (slicePart_none (wAq (slicePart_none (wAq (wBq ?_)))));have e1:Builtin.Slice.sliceAdjust none none (-1) (n:Int)=((n:Int)-1,-1):=rfl;have e2:Builtin.Slice.slicePlaces ((n:Int)-1) (-1) (-1)=n:=by
   unfold Builtin.Slice.slicePlaces;rw[jb ddq];split
   . rw[show(- -1:Int)=1 from rfl,Int.ediv_one];omega
   . omega
 show wpAny _ _ (match Builtin.Slice.sliceAdjust none none (-1) (n:Int) with|(lo,hi)=>pure (lo,(-1:Int),Builtin.Slice.slicePlaces lo hi (-1))) _ _ s;rw[e1];show wpAny _ _ (pure ((n:Int)-1,(-1:Int),Builtin.Slice.slicePlaces ((n:Int)-1) (-1) (-1))) _ _ s;rw[e2];exact wBq h
theorem OB(its:List Value):((List.range its.toArray.size).filterMap λ(m:Nat)=>its.toArray[((its.toArray.size:Int)-1+(m:Int) * -1).toNat]?).toArray=its.reverse.toArray:=by
 congr 1
 have e2:(List.range its.toArray.size).filterMap (λ(m:Nat)=>its.toArray[((its.toArray.size:Int)-1+(m:Int) * -1).toNat]?)=(List.range its.reverse.length).filterMap (λk=>its.reverse[k]?):=by
   rw[List.length_reverse,wIq];refine L2.vL _ λk hk=>?_;have hk':k<its.length:=List.mem_range.mp hk;rw[List.getElem?_reverse hk'];have:((its.length:Int)-1+(k:Int) * -1).toNat=its.length-1-k:=by omega
   rw[this];simp
 rw[e2,L2.oH]
theorem pY{its:List Value}(ht:IsTup s.heap t its.toArray)(hs:s.heap.IsSliceOf sl .none .none vs)(ps:IsPart vs (some (-1)))
   (h:Q (.ref s.heap.objs.size) {s with heap:=s.heap.push {cls:=.type "tuple",data:=.seq its.reverse.toArray}})
   (hsz:its.length<=sizeLine):wpAny (model prog w) A (getItem (.ref t) (.ref sl)) Q E s:=by
 have htake:sizeOk (.seq its.reverse.toArray):=by
   show its.reverse.toArray.size<=sizeLine;rw[wIq,List.length_reverse];exact hsz
 obtain⟨os,hos,hcs,hds⟩:=id hs;have hTs:s.TypeIs (.ref sl) "slice":=⟨os,hos,hcs⟩;unfold getItem
 try with_reducible refine wpAny_holding ?_
 first|refine wAq (wBq ?_)|skip
 refine wAq (wpAny_sequenceKey ht.typeIs ddq ?_);refine wAq (wpAny_callSpecial?_slot (name:=Str.ofString "__getitem__") ht.typeIs PyProof.Rows.slot_tuple_getitem
   (wpAny_call_entry PyProof.Rows.slot_tuple_getitem ht.typeIs entry_tuple_getitem ?_ (args_tuple_getitem _ _)))
 show wpAny _ _ (Builtin.Tuple.tupleItemsOf (.ref t)>>=_) _ _ s;refine wAq (tupleItemsOf_ ht ?_);refine wAq (wpAny_typeOf hTs ?_);rw[jd ddq];refine wAq (sB hs ps ?_);have hno:¬((((its.toArray.size:Int)-1==0)&&(-1:Int)==1&&its.toArray.size==its.toArray.size)=true):=by
   rw[show((-1:Int)==1)=false from rfl,Bool.and_false,Bool.false_and];exact Bool.false_ne_true
 show wpAny _ _ (if (((its.toArray.size:Int)-1==0)&&(-1:Int)==1&&its.toArray.size==its.toArray.size)=true then _ else _) _ _ s;rw[jb hno,OB];first
   | exact wAq (m:=Builtin.Tuple.tupleExact _) (wpAny_newObj_type (wBq ⟨_,rfl,wBq h⟩) htake)
   | exact wAq (m:=Builtin.Tuple.tupleExact _) (wpAny_newObj_type (wAq (wBq (wBq ⟨_,rfl,wBq h⟩))) htake)
   | exact wAq (wAq (m:=Builtin.Tuple.tupleExact _) (wpAny_newObj_type (wBq (wBq ⟨_,rfl,wBq h⟩)) htake))
   | exact wAq (wAq (m:=Builtin.Tuple.tupleExact _) (wpAny_newObj_type (wBq ⟨_,rfl,wBq h⟩) htake))
end
end HT
namespace L2
open PySem PySem.Spec PyProof.Rows
section
variable{X:Cx}{j4:List (Addr×Obj)}{σ:St}{H:Hp}{s:J7}{a:Addr}{xs:List V}
end
section
variable{X:Cx}{o e:Expr}{to te:TE}{pos j6:Pos}
def aJc(K:W.Frag)(te:TE):TE:=λσ H Q=>te σ H λx H1=>∃p xs,x= .ref p/\((H1 p=some (.lst xs)/\∀q,H1 q=none->Q (.ref q) (upd H1 q (.lst xs.reverse)))∨(SqT K H1 p xs/\∀q,H1 q=none->Q (.ref q) (upd H1 q (.tup xs.reverse))))
theorem aB0(he:PE X e te):PE X (.Subscript e (.Slice none none (some (.UnaryOp .USub (.Constant (.int 1) k1 p1) p2)) p3) pos) (aJc X.K te):=by
 intro j4 s σ H Q I h;refine Subscript_ (thn (he j4 s σ H _ I h) λv s1 zz=>?_);obtain⟨x,H1,I1,r1,p,xs,ex,hq⟩:=zz;subst ex;cases r1;refine wpAny_Slice ?_;rw[evalPart_none];refine wBq ?_;refine wBq ?_;refine thn ((KL (aC8 XR (UJ (X:=X)))) j4 s1 σ H1 (λo H2=>o=some (-1)/\H2=H1) I1 ⟨_,rfl,_,rfl,rfl,rfl⟩) λvs s2 zz=>?_;obtain⟨o,H2,I2,ps,eo,eH⟩:=zz;subst eo eH;have I3:Inv X j4 σ H2 {s2 with heap:=s2.heap.push {cls:=.type "slice",data:=.fields #[.none,.none,vs]}}:=I2.kept (t':=s2.toks) λb ob q=>wEq _ q;rcases hq with ⟨hp,q⟩|⟨hp,q⟩
 . obtain⟨its,rv,ht,hz⟩:=I3.list (SqL.of hp);have hlen:=rv.length;refine tail_any (ops:=[.ref p,.ref s2.heap.objs.size]) ht.isList.typeIs slot_list_getitem.lookup ?_ (by with_unfolding_all rfl);refine wpAny_getItem_list_slice (lo:=none) (hi:=none) ht.isList (Heap.IsSliceOf.new ..) .none .none ps ddq ?_ (by rw[wIq]<;>omega);rw[YU];refine⟨.ref _,_,I3.laid (t':=s2.toks) (o:=.lst xs.reverse) (λb ob q=>wEq _ q) (Nat.le_refl _) ?_,rfl,q _ (I3.hok.fresh (Nat.le_refl _))⟩;exact⟨by rw[List.length_reverse];exact hz,_,0,rv.reverse,wGq _ rfl⟩
 . obtain⟨its,rv,ht,hz⟩:=I3.tuple hp;have hlen:=rv.length;refine tail_any (ops:=[.ref p,.ref s2.heap.objs.size]) ht.typeIs PyProof.Rows.slot_tuple_getitem.lookup ?_ (by with_unfolding_all rfl);refine HT.pY ht (Heap.IsSliceOf.new ..) ps ?_ ooq;refine⟨.ref _,_,I3.laid (t':=s2.toks) (o:=.tup xs.reverse) (λb ob q=>wEq _ q) (Nat.le_refl _) ?_,rfl,q _ (I3.hok.fresh (Nat.le_refl _))⟩;exact⟨by rw[List.length_reverse];exact hz,_,rv.reverse,fP.new _ _⟩
end
section
variable{X:Cx}{a:Addr}{es:Array DictEntry}{n:Nat}
end
section
variable{X:Cx}{pos:Pos}
end
end L2
namespace HT
open PySem PySem.Spec PyProof PyProof.Rows
section
variable{prog:J9}{w:World}{A:Around}{E:Value->J7->Prop}{s:J7}
theorem mQ{t sl:Addr}{items:Array Value}{vl vu:Value}{lo hi:Option Int}{Q:Value->J7->Prop}(ht:IsTup s.heap t items)(hs:s.heap.IsSliceOf sl vl vu .none)(pl:IsPart vl lo)(pu:IsPart vu hi)
   (hw:sIx items.size 0 lo=0/\sIx items.size items.size hi=items.size)
   (h:Q (.ref t) s):wpAny (model prog w) A (getItem (.ref t) (.ref sl)) Q E s:=by
 obtain⟨os,hos,hcs,hds⟩:=id hs;have hTs:s.TypeIs (.ref sl) "slice":=⟨os,hos,hcs⟩;unfold getItem
 try with_reducible refine wpAny_holding ?_
 first|refine wAq (wBq ?_)|skip
 refine wAq (wpAny_sequenceKey ht.typeIs ddq ?_);refine wAq (wpAny_callSpecial?_slot (name:=Str.ofString "__getitem__") ht.typeIs PyProof.Rows.slot_tuple_getitem
   (wpAny_call_entry PyProof.Rows.slot_tuple_getitem ht.typeIs entry_tuple_getitem ?_ (args_tuple_getitem _ _)))
 show wpAny _ _ (Builtin.Tuple.tupleItemsOf (.ref t)>>=_) _ _ s;refine wAq (tupleItemsOf_ ht ?_);refine wAq (wpAny_typeOf hTs ?_);rw[jd ddq];refine wAq (iL hs pl pu ?_);have hno:(((sIx items.size 0 lo:Nat):Int)==0&&(1:Int)==1&&(sIx items.size items.size hi-sIx items.size 0 lo)==items.size)=true:=by
   rw[hw.1,hw.2];simp
 show wpAny _ _ (if (((sIx items.size 0 lo:Nat):Int)==0&&(1:Int)==1&&(sIx items.size items.size hi-sIx items.size 0 lo)==items.size)=true then _ else _) _ _ s;rw[jd hno];unfold Builtin.Tuple.tupleIsExact;refine wAq (wAq (wpAny_typeOf ht.typeIs (wBq ?_)));rw[jd ddq];refine wAq (wpAny_rule ?_);first
   | exact wAq (wBq ⟨_,rfl,wBq h⟩)
   | exact wAq (wBq (wBq ⟨_,rfl,wBq h⟩))
   | exact wBq ⟨_,rfl,wBq h⟩
end
end HT
namespace L2
open PySem PySem.Spec PyProof.Rows
section
variable{X:Cx}
noncomputable def aLJ(K:W.Frag):V->Option Int->Option Int->Hp->VK->Prop:=λx lo hi H Q=>∃a xs,x= .ref a/\SqT K H a xs/\
 (HT.sIx xs.length 0 lo=0/\HT.sIx xs.length xs.length hi=xs.length)/\Q (.ref a) H
theorem aBD:SlR X (aLJ X.K):=by
 intro j4 s σ H x v vl vu lo hi sl Q I rx hs pl pu h;obtain⟨a,xs,rfl,hx,hw,q⟩:=h;cases rx;obtain⟨its,r,ht,hz⟩:=I.tuple hx;have hlen:its.toArray.size=xs.length:=by rw[wIq];exact r.length.symm
 refine⟨"tuple",_,PyProof.Rows.slot_tuple_getitem.lookup,ht.typeIs,?_⟩;exact HT.mQ ht hs pl pu (by rw[hlen];exact hw) ⟨.ref a,_,I,rfl,q⟩
end
section
variable{X:Cx}{e:Expr}{te:TE}{pos:Pos}
end
end L2
namespace LR
open PySem PySem.W PyProof PyProof.Rows
section
variable{prog:J9}{w:World}{A:Around}{E:Value->J7->Prop}{s:J7}{K:Frag}{x C L f:Addr}{h₀:Heap}{m:Str->Option Value}{ox:Obj}{od:Option Obj}{a:Value}
theorem cmp_R{Ta id:J8}{Q:Value->J7->Prop}(hu:A.units<cLine)(F:Fr h₀ L s.heap m)(X₀:K.In h₀)(I:InstAt s.heap x ox C od)(ha:s.TypeIs a Ta)
   (hsl:Slot Ta "__eq__" id) (hsub:subIn K (.ref C) (.type Ta)=some false)
   (hc:∀Q':Value->J7->Prop,Q' .notImplemented s->wpAny (model prog w) A (call (.builtin id) [a,.ref x]) Q' E s)
   (hs:findIn K (.ref C) "__eq__"=some (some (.ref f))) (hf:isFn K (.ref f)=true)
   (h:wpAny (model prog w) A (call (.ref f) [.ref x,a]) (W.CmpBack Q) E s):wpAny (model prog w) A (richCompare .Eq a (.ref x)) Q E s:=by
 have X:=X₀.keeps F.keep;have one:wpAny (model prog w) A (tryCompare (.ref x) "__eq__" a) (λr s'=>∃v,r=some v/\Q v s') E s:=by
   unfold tryCompare;refine wAq (ifBound_K X I hs hf (wpAny_mono h (λv s' hv=>?_) λ_ _ e=>e));cases v<;>first|exact hv.elim|exact wBq ⟨_,rfl,hv⟩
 have hi:cmpInfo CmpOp.Eq=("==",("__eq__":Str),("__eq__":Str)):=rfl;simp only[richCompare,hi,ha.oneThing_none];refine wpAny_holding (wAq (wpAny_cRoomFor hu ?_));refine wAq (wpAny_typeOf ha (wAq (I.type.here ?_)));have hne:(Value.type Ta !=Value.ref C)=true:=rfl;simp only[hne,if_true];refine wAq ((looks_subIn X hsub).here ?_);simp only[Bool.false_eq_true,if_false,Bool.not_false,if_true];refine wAq (m:=tryCompare a _ (.ref x)) (wpAny_tryCompare_declines ha hsl (hc _ ⟨rfl,?_⟩));refine wAq (wpAny_mono one (λr s' z=>?_) λ_ _ e=>e);obtain⟨v,rfl,hq⟩:=z;exact wBq hq
theorem wL(X:K.In s.heap)(I:InstAt s.heap x ox C od)(hsub:subIn K (.ref C) (.type T)=some false)(q:Q' false s):wpAny M A (isInstance (.ref x) (.type T)) Q' E s:=by
 unfold isInstance;exact wAq (I.type.here ((looks_subIn X hsub).here q))
theorem dec_tuple(X:K.In s.heap)(ht:s.TypeIs (.ref t) "tuple")(I:InstAt s.heap x ox C od)(hsub:subIn K (.ref C) (.type "tuple")=some false)(q:Q' .notImplemented s) :
   wpAny (model prog w) A (call (.builtin "tuple.__eq__") [.ref t,.ref x]) Q' E s:=by
 refine wpAny_call_entry PySem.F.slot_tuple_eq ht PySem.F.entry_tuple_eq ?_ (PySem.F.args_tuple_eq_2 _ _);show wpAny _ _ (isInstance (.ref x) (.type "tuple")>>=_) _ _ s;refine wAq (wL X I hsub ?_);exact wAq (wBq (wBq ⟨_,rfl,q⟩))
theorem dec_list(X:K.In s.heap)(ht:s.TypeIs (.ref t) "list")(I:InstAt s.heap x ox C od)(hsub:subIn K (.ref C) (.type "list")=some false)(q:Q' .notImplemented s) :
   wpAny (model prog w) A (call (.builtin "list.__eq__") [.ref t,.ref x]) Q' E s:=by
 refine wpAny_call_entry PySem.F.slot_list_eq ht PySem.F.entry_list_eq ?_ (PySem.F.args_list_eq_2 _ _);show wpAny _ _ (isInstance (.ref x) (.type "list")>>=_) _ _ s;refine wAq (wL X I hsub ?_);exact wAq (wBq (wBq ⟨_,rfl,q⟩))
theorem dec_none(q:Q' .notImplemented s):wpAny (model prog w) A (call (.builtin "NoneType.__eq__") [.none,.ref x]) Q' E s:=by
 refine wpAny_call_entry PySem.F.slot_NoneType_eq (s:=s) rfl PySem.F.entry_NoneType_eq ?_ (PySem.F.args_NoneType_eq_2 _ _);exact wBq ⟨_,rfl,q⟩
open PySem.AutoSeq1 (wpAny_loadPart') in
theorem dec_int(ho:s.heap.get? x=some {cls:=.ref C,dict:=some dx,data:=.plain,slots:=sl})(q:Q' .notImplemented s) :
   wpAny (model prog w) A (call (.builtin "int.__eq__") [.int i u,.ref x]) Q' E s:=by
 refine wpAny_call_entry PySem.F.slot_int_eq (s:=s) rfl PySem.F.entry_int_eq ?_ (PySem.F.args_int_eq_2 _ _);obtain⟨hp,g,d,tk,os⟩:=s
 wp_walk using wpAny_loadPart' ho
 exact⟨_,rfl,q⟩
open PySem.AutoSeq1 (wpAny_loadPart') in
theorem dec_bool(ho:s.heap.get? x=some {cls:=.ref C,dict:=some dx,data:=.plain,slots:=sl})(q:Q' .notImplemented s) :
   wpAny (model prog w) A (call (.builtin "int.__eq__") [.bool b,.ref x]) Q' E s:=by
 refine wpAny_call_entry PySem.F.slot_bool_eq (s:=s) rfl PySem.F.entry_int_eq ?_ (PySem.F.args_int_eq_2 _ _);obtain⟨hp,g,d,tk,os⟩:=s
 wp_walk using wpAny_loadPart' ho
 exact⟨_,rfl,q⟩
open PySem.AutoSeq1 (wpAny_loadPart') in
theorem dec_str(ho:s.heap.get? x=some {cls:=.ref C,dict:=some dx,data:=.plain,slots:=sl})(q:Q' .notImplemented s) :
   wpAny (model prog w) A (call (.builtin "str.__eq__") [.str z u,.ref x]) Q' E s:=by
 refine wpAny_call_entry PySem.F.slot_str_eq (s:=s) rfl PySem.F.entry_str_eq ?_ (PySem.F.args_str_eq_2 _ _);obtain⟨hp,g,d,tk,os⟩:=s
 wp_walk using wpAny_loadPart' ho
 exact⟨_,rfl,q⟩
theorem dec_dict(X:K.In s.heap)(ht:s.heap.get? t=some od')(hc:od'.cls= .type "dict")(I:InstAt s.heap x ox C od)(hsub:subIn K (.ref C) (.type "dict")=some false)(q:Q' .notImplemented s) :
   wpAny (model prog w) A (call (.builtin "dict.__eq__") [.ref t,.ref x]) Q' E s:=by
 refine wpAny_call_entry PySem.F.slot_dict_eq ⟨od',ht,hc⟩ PySem.F.entry_dict_eq ?_ (PySem.F.args_dict_eq_2 _ _);obtain⟨hp,g,d,tk,os⟩:=s;obtain⟨cls,dd,data,sl⟩:=od';have hc:cls= .type "dict":=hc;subst hc
 wp_walk using PySem.AutoSeq1.wpAny_loadPart' ht,wL X I hsub
 exact⟨_,rfl,q⟩
variable{y D:Addr}{oy:Obj}{oyd:Option Obj}
end
end LR
namespace L2
open PySem PySem.Spec PyProof.Rows
section
variable{X:Cx}
noncomputable def aFa:List J8:=["NoneType","bool","int","str","list","tuple","dict"]
structure EqL(K:W.Frag)(C:Addr):Prop where
 nt:∀T∈aFa,W.subIn K (.ref C) (.type T)=some false
 tn:∀T∈aFa,W.subIn K (.type T) (.ref C)=some false
structure EqD(K:W.Frag)(C D:Addr):Prop where
 ne:D≠C
 cd:W.subIn K (.ref C) (.ref D)=some false
 dc:W.subIn K (.ref D) (.ref C)=some false
inductive BuV(K:W.Frag)(H:Hp):V->Prop
 | non:BuV K H .non
 | bl (b:Bool):BuV K H (.bl b)
 | int (i:Int):BuV K H (.int i)
 | str (z:Str):BuV K H (.str z)
 | tup {a:Addr} {xs:List V}:SqT K H a xs->BuV K H (.ref a)
 | lst {a:Addr} {xs:List V}:SqL K H a xs->BuV K H (.ref a)
 | dK {a:Addr} {kvs:List (Key×V)}:H a=some (.dK kvs)->BuV K H (.ref a)
def aLV(K:W.Frag)(C:Addr)(sp:Sp):R2:=λx y H Q=>∃p dx fs,y= .ref p/\H p=some (.ins C dx fs)/\BuV K H x/\sp [.ref p,x] H (λv H'=>∃b,v= .bl b/\Q (.bl b) H') E0
theorem aGA(L:EqL X.K C)(M:cR X.K C "__eq__" f)(F:aW X.prog X.w X.K X.mg X.base CX0 k f fd ["self","other"] sp)(hr:aR k X.A)(hb:aP X.K fd ["self","other"] []) :
   OpR X (compareOp .Eq) (aLV X.K C sp):=by
 rintro j4 s σ H x y v u Q I rx ry ⟨p,dx,fs,e2,eb,bu,q⟩;subst e2;cases ry;obtain⟨od,J⟩:=bB I eb;obtain⟨m,Fm⟩:=I.fr;have K0:=I.kIn;have hi:=J.at_;have fin:wpAny (model X.prog X.w) X.A (call (.ref f) [.ref p,v]) (W.CmpBack (EP X j4 σ Q)) X.xe s :=
   thn (eX (dvs:=[]) (ds:=[]) (vs:=[.ref p,x]) F hr I.env0 hb .nil hV I (.cons rfl (.cons rx .nil)) q)<|by
     rintro v s' ⟨x,H',I',rx,b,e,q'⟩;subst e;cases rx;exact⟨.bl b,H',I',rfl,q'⟩
 refine W.cmp_ofEq ?_;have nt:=L.nt;cases bu with
 | non=>cases rx;exact LR.cmp_R hr.units0 Fm I.ok.mod.kin J (typeIs_none s) PySem.F.slot_NoneType_eq (nt "NoneType" ddq) (λQ' q=>LR.dec_none q) M.at_ M.fn fin
 | bl b=>cases rx;exact LR.cmp_R hr.units0 Fm I.ok.mod.kin J (PySem.typeIs_bool s b) PySem.F.slot_bool_eq (nt "bool" ddq) (λQ' q=>LR.dec_bool hi q) M.at_ M.fn fin
 | int i=>obtain⟨t,rfl⟩:=rx;exact LR.cmp_R hr.units0 Fm I.ok.mod.kin J (typeIs_int s i t) PySem.F.slot_int_eq (nt "int" ddq) (λQ' q=>LR.dec_int hi q) M.at_ M.fn fin
 | str z=>obtain⟨t,rfl⟩:=rx;exact LR.cmp_R hr.units0 Fm I.ok.mod.kin J (typeIs_str s z t) PySem.F.slot_str_eq (nt "str" ddq) (λQ' q=>LR.dec_str hi q) M.at_ M.fn fin
 | tup h=>cases rx;obtain⟨its,_,ht,_⟩:=I.tuple h;exact LR.cmp_R hr.units0 Fm I.ok.mod.kin J ht.typeIs PySem.F.slot_tuple_eq (nt "tuple" ddq) (λQ' q=>LR.dec_tuple K0 ht.typeIs J (nt "tuple" ddq) q) M.at_ M.fn fin
 | lst h =>
   cases rx;obtain⟨its,_,⟨o,n,e,c,_⟩,_⟩:=I.list h;exact LR.cmp_R hr.units0 Fm I.ok.mod.kin J ⟨o,e,c⟩ PySem.F.slot_list_eq (nt "list" ddq) (λQ' q=>LR.dec_list K0 ⟨o,e,c⟩ J (nt "list" ddq) q) M.at_ M.fn fin
 | dK h =>
   cases rx;obtain⟨_,_,vs,_,hd⟩:=I.hok _ _ h;obtain⟨o,es,ep,e,xd,_⟩:=hd;exact LR.cmp_R hr.units0 Fm I.ok.mod.kin J ⟨o,e,xd.1⟩ PySem.F.slot_dict_eq (nt "dict" ddq) (λQ' q=>LR.dec_dict K0 e xd.1 J (nt "dict" ddq) q) M.at_ M.fn fin
theorem aEA{s:J7}(h:s.TypeIs v T):W.Looks M s.heap (typeOf v) (.type T):=by
 cases v with
 | ref a =>
   obtain⟨o,e,c⟩:=h;exact c▸(W.Looks.ld e).andThen .now
 | _=>rw[show typeOf _=pure (Value.type T) from h];exact .now
theorem BuV.ty{j4:List (Addr×Obj)}{σ:St}{H:Hp}{s:J7}{x:V}{v:Value}(I:Inv X j4 σ H s)(r:aN x v)(h:BuV X.K H x):∃T∈aFa,s.TypeIs v T:=by
 cases h with
 | non=>cases r;exact⟨"NoneType",by decide,typeIs_none s⟩
 | bl b=>cases r;exact⟨"bool",by decide,PySem.typeIs_bool s b⟩
 | int i=>obtain⟨t,rfl⟩:=r;exact⟨"int",by decide,typeIs_int s i t⟩
 | str z=>obtain⟨t,rfl⟩:=r;exact⟨"str",by decide,typeIs_str s z t⟩
 | tup h=>cases r;obtain⟨its,_,ht,_⟩:=I.tuple h;exact⟨"tuple",by decide,ht.typeIs⟩
 | lst h=>cases r;obtain⟨its,_,⟨o,n,e,c,_⟩,_⟩:=I.list h;exact⟨"list",by decide,⟨o,e,c⟩⟩
 | dK h=>cases r;obtain⟨_,_,vs,_,o,es,ep,e,xd,_⟩:=I.hok _ _ h;exact⟨"dict",by decide,⟨o,e,xd.1⟩⟩
def AnV(K:W.Frag)(C:Addr)(H:Hp)(y:V):Prop:=BuV K H y∨∃p' D dx' fs',y= .ref p'/\H p'=some (.ins D dx' fs')/\W.subIn K (.ref D) (.ref C)=some false
theorem AnV.looks{j4:List (Addr×Obj)}{σ:St}{H:Hp}{s:J7}{C:Addr}{y:V}{u:Value}{M:Model}(L:EqL X.K C)(I:Inv X j4 σ H s)(r:aN y u)(h:AnV X.K C H y):∃tb,W.Looks M s.heap (typeOf u) tb/\W.notFirst X.K C tb=true:=by
 rcases h with h|⟨p',D,dx',fs',rfl,e,hs⟩
 . obtain⟨T,hT,ty⟩:=h.ty I r;exact⟨_,aEA ty,by unfold W.notFirst;rw[L.tn T hT];simp⟩
 . cases r;obtain⟨od',J'⟩:=bB I e;exact⟨_,J'.type,by unfold W.notFirst;rw[hs];simp⟩
def aKk(neg:Bool)(K:W.Frag)(C:Addr)(sp:Sp):R2:=λx y H Q=>∃p dx fs,x= .ref p/\H p=some (.ins C dx fs)/\AnV K C H y/\sp [.ref p,y] H (λv H'=>∃b,v= .bl b/\Q (.bl (if neg=true then !b else b)) H') E0
theorem aGw(L:EqL X.K C)(M:cR X.K C "__eq__" f)(F:aW X.prog X.w X.K X.mg X.base CX0 k f fd ["self","other"] sp)(hr:aR k X.A)(hb:aP X.K fd ["self","other"] []) :
   OpR X (compareOp .Eq) (aKk false X.K C sp):=by
 rintro j4 s σ H x y v u Q I rx ry ⟨p,dx,fs,e1,ea,an,q⟩;subst e1;cases rx;obtain⟨od,J⟩:=bB I ea;obtain⟨m,Fm⟩:=I.fr;obtain⟨tb,lk,nf⟩:=an.looks (M:=model X.prog X.w) L I ry;refine W.cmp_ofEq (W.cmp_K hr.units0 Fm I.ok.mod.kin J lk nf M.at_ M.fn
   (thn (eX (dvs:=[]) (ds:=[]) (vs:=[.ref p,y]) F hr I.env0 hb .nil hV I (.cons rfl (.cons ry .nil)) q) λv s' ⟨x,H',I',rx,b,e,q'⟩=>?_))
 subst e;cases rx;exact⟨.bl b,H',I',rfl,q'⟩
theorem aF1(L:EqL X.K C)(N:NeC X.K C)(M:cR X.K C "__eq__" f)(F:aW X.prog X.w X.K X.mg X.base CX0 k f fd ["self","other"] sp)(hr:aR (k+1) X.A)(hb:aP X.K fd ["self","other"] []) :
   OpR X (compareOp .NotEq) (aKk true X.K C sp):=by
 rintro j4 s σ H x y v u Q I rx ry ⟨p,dx,fs,e1,ea,an,q⟩;subst e1;cases rx;obtain⟨od,J⟩:=bB I ea;obtain⟨tb,lk,nf⟩:=an.looks (M:=model X.prog X.w) L I ry;refine W.cmp_ofNotEq (LE.aKF (by have:=hr.units;omega) I.kIn J lk nf N.ne N.ob M.at_ M.fn
   (thn (eX (dvs:=[]) (ds:=[]) (vs:=[.ref p,y]) F hr.in1 I.env0.in1 hb .nil hV I (.cons rfl (.cons ry .nil)) q) λv s' ⟨x,H',I',rx,b,e,q'⟩=>?_))
 subst e;cases rx;exact⟨b,rfl,.bl (!b),H',I',rfl,q'⟩
end
end L2
namespace LR
open PySem PyProof.Rows
open AutoSeq1 (wpAny_loadPart')
open MeetsSeq MeetsSeq2 MeetsSeq3 SeqRoads2
theorem wQ(W:Nat->J7->Prop)
   (hW:∀i s,W i s->∃(items:Array Value) (n:Nat) (dd:Option Addr) (sl:Array (Option Value)),items.size=N/\s.heap.get? l=some {cls:=.type "list",dict:=dd,data:=.seq items n,slots:=sl}/\
     ∀h:i<items.size,wpAny (model prog w) A.in1 (eqBool items[i] x) (λb s'=>if b=true then R (.ok (.ret (.bool true))) s' else W (i+1) s') (λe s'=>R (.error e) s') s)
   (fin:∀s,W N s->R (.ok (.ret (.bool false))) s) (k:Nat) :
   ∀i:Nat,N-i=k->i<=N->MeetsIn prog w (Builtin.«list.__contains__.loop» ⟨[.ref l,x,rawInt i],[]⟩) (λA' R' s=>A'=A/\R'=R/\W i s):=by
 induction k with
 | zero =>
   rintro i hk hi A' R' s ⟨eA,eR,h⟩;subst eA eR;obtain⟨items,n,dd,sl,hz,hl,_⟩:=hW i s h;have e:i=N:=by omega
   subst e;obtain⟨hp,g,d,tk,os⟩:=s
   wp_walk using wpAny_loadPart' hl
   have hi:items[((i:Nat):Int).toNat]? =none:=by simp;omega
   rw[hi]
   wp_walk
   exact fin _ h
 | succ k ih =>
   rintro i hk hi A' R' s ⟨eA,eR,h⟩;subst eA eR;obtain⟨items,n,dd,sl,hz,hl,st⟩:=hW i s h;have hlt:i<items.size:=by omega
   have st:=st hlt;obtain⟨hp,g,d,tk,os⟩:=s
   wp_walk using wpAny_loadPart' hl
   have hi:items[((i:Nat):Int).toNat]? =some items[i]:=by simp[hlt]
   rw[hi];refine wAq (wpAny_mono st (λb s' hb=>?_) λ_ _ e=>e);cases b with
   | true =>
     rw[jd rfl] at hb
     wp_walk
     exact hb
   | false =>
     rw[jb Bool.false_ne_true] at hb;obtain⟨hp',g',d',tk',os'⟩:=s';have hc:((i:Int)+1)=((i+1:Nat):Int):=by push_cast;rfl
     wp_walk
     rw[hc];refine⟨plainId_quiet plain_contains_loop _,codeAny_builtin entry_contains_loop ?_⟩;rw[Around.under_plainId plain_contains_loop _];exact ih (i+1) ooq ooq _ _ _ ⟨rfl,rfl,hb⟩
theorem containsG(W:Nat->J7->Prop)
   (hW:∀i s,W i s->∃(items:Array Value) (n:Nat) (dd:Option Addr) (sl:Array (Option Value)),items.size=N/\s.heap.get? l=some {cls:=.type "list",dict:=dd,data:=.seq items n,slots:=sl}/\
     ∀h:i<items.size,wpAny (model prog w) A.in1 (eqBool items[i] x) (λb s'=>if b=true then R (.ok (.ret (.bool true))) s' else W (i+1) s') (λe s'=>R (.error e) s') s)
   (fin:∀s,W N s->R (.ok (.ret (.bool false))) s) :
   MeetsIn prog w (Builtin.«list.__contains__» ⟨[.ref l,x],[]⟩) (λA' R' s=>A'=A/\R'=R/\W 0 s):=by
 rintro A' R' s ⟨eA,eR,h⟩;subst eA eR;obtain⟨items,n,dd,sl,hz,hl,_⟩:=hW 0 s h;obtain⟨hp,g,d,tk,os⟩:=s
 wp_walk using wpAny_loadPart' hl
 refine⟨plainId_quiet plain_contains_loop _,codeAny_builtin entry_contains_loop ?_⟩;rw[Around.under_plainId plain_contains_loop _];exact wQ W hW fin _ 0 rfl (Nat.zero_le _) _ _ _ ⟨rfl,rfl,h⟩
end LR
namespace L2
open PySem PySem.Spec PyProof.Rows
section
variable{X:Cx}
inductive ItV(X:Cx)(k:Nat)(C p:Addr)(H:Hp):V->List V->Sp->Prop
 | bu {y:V} {f:Addr} {fd:Ja} {sp:Sp}:BuV X.K H y->EqL X.K C->cR X.K C "__eq__" f->aW X.prog X.w X.K X.mg X.base CX0 k f fd ["self","other"] sp->aP X.K fd ["self","other"] []->ItV X k C p H y [.ref p,y] sp
 | own {a D dx f:Addr} {fs:List (Str×V)} {fd:Ja} {sp:Sp}:a≠p->H a=some (.ins D dx fs)->(C=D∨W.subIn X.K (.ref C) (.ref D)=some false)->cR X.K D "__eq__" f->aW X.prog X.w X.K X.mg X.base CX0 k f fd ["self","other"] sp->aP X.K fd ["self","other"] []->ItV X k C p H (.ref a) [.ref a,.ref p] sp
theorem aFn{A:Around}{E Q:Value->J7->Prop}{j4:List (Addr×Obj)}{σ:St}{H:Hp}{s:J7}{f C p dx:Addr}{fs:List (Str×V)}{x:V}{v:Value}(L:EqL X.K C)(M:cR X.K C "__eq__" f)(I:Inv X j4 σ H s)
   (eb:H p=some (.ins C dx fs)) (bu:BuV X.K H x) (rx:aN x v) (hu:A.units<cLine) (fin:wpAny (model X.prog X.w) A (call (.ref f) [.ref p,v]) (W.CmpBack Q) E s):wpAny (model X.prog X.w) A (richCompare .Eq v (.ref p)) Q E s:=by
 obtain⟨od,J⟩:=bB I eb;obtain⟨m,Fm⟩:=I.fr;have K0:=I.kIn;have hi:=J.at_;have nt:=L.nt;cases bu with
 | non=>cases rx;exact LR.cmp_R hu Fm I.ok.mod.kin J (typeIs_none s) PySem.F.slot_NoneType_eq (nt "NoneType" ddq) (λQ' q=>LR.dec_none q) M.at_ M.fn fin
 | bl b=>cases rx;exact LR.cmp_R hu Fm I.ok.mod.kin J (PySem.typeIs_bool s b) PySem.F.slot_bool_eq (nt "bool" ddq) (λQ' q=>LR.dec_bool hi q) M.at_ M.fn fin
 | int i=>obtain⟨t,rfl⟩:=rx;exact LR.cmp_R hu Fm I.ok.mod.kin J (typeIs_int s i t) PySem.F.slot_int_eq (nt "int" ddq) (λQ' q=>LR.dec_int hi q) M.at_ M.fn fin
 | str z=>obtain⟨t,rfl⟩:=rx;exact LR.cmp_R hu Fm I.ok.mod.kin J (typeIs_str s z t) PySem.F.slot_str_eq (nt "str" ddq) (λQ' q=>LR.dec_str hi q) M.at_ M.fn fin
 | tup h=>cases rx;obtain⟨its,_,ht,_⟩:=I.tuple h;exact LR.cmp_R hu Fm I.ok.mod.kin J ht.typeIs PySem.F.slot_tuple_eq (nt "tuple" ddq) (λQ' q=>LR.dec_tuple K0 ht.typeIs J (nt "tuple" ddq) q) M.at_ M.fn fin
 | lst h =>
   cases rx;obtain⟨its,_,⟨o,n,e,c,_⟩,_⟩:=I.list h;exact LR.cmp_R hu Fm I.ok.mod.kin J ⟨o,e,c⟩ PySem.F.slot_list_eq (nt "list" ddq) (λQ' q=>LR.dec_list K0 ⟨o,e,c⟩ J (nt "list" ddq) q) M.at_ M.fn fin
 | dK h =>
   cases rx;obtain⟨_,_,vs,_,hd⟩:=I.hok _ _ h;obtain⟨o,es,ep,e,xd,_⟩:=hd;exact LR.cmp_R hu Fm I.ok.mod.kin J ⟨o,e,xd.1⟩ PySem.F.slot_dict_eq (nt "dict" ddq) (λQ' q=>LR.dec_dict K0 e xd.1 J (nt "dict" ddq) q) M.at_ M.fn fin
theorem aIM{k:Nat}{j4:List (Addr×Obj)}{σ:St}{s:J7}{fs:List (Str×V)}(I:Inv X j4 σ H s)(hp:H p=some (.ins C dx fs))(it:ItV X k C p H y vs sp):y≠.ref p:=by
 obtain⟨od,J⟩:=bB I hp;have jc:∀{o':Obj} {T:J8},s.heap.get? p=some o'->o'.cls= .type T->False:=λ{o' T} e c=>by
   have e1:=J.at_.symm.trans e;cases e1;cases c
 cases it with
 | own ne _ _ _ _ _=>intro e;cases e;exact ne rfl
 | bu b _ _ _ _ =>
   intro e;subst e;cases b with
   | tup t=>obtain⟨its,_,⟨o,ho,hc,_⟩,_⟩:=I.tuple t;exact jc ho hc
   | lst t=>obtain⟨its,_,⟨o,n,ho,hc,_⟩,_⟩:=I.list t;exact jc ho hc
   | dK t=>rw[hp] at t;cases t
theorem EO{C p dx:Addr}{fs:List (Str×V)}{σ:St}{s:J7}{Q1:Bool->Hp->Prop}{N:Hp->Prop}{R:Result->J7->Prop}(hr:aR (k+1) X.A)
   (I:Inv X j4 σ H s) (hp:H p=some (.ins C dx fs)) (ry:aN y u) (h:(y= .ref p/\Q1 true H)∨(∃vs sp,ItV X k C p H y vs sp/\sp vs H (λv H'=>∃b,v= .bl b/\if b=true then Q1 true H' else N H') E0))
   (hR:∀b s' H',Inv X j4 σ H' s'->Q1 b H'->R (.ok (.ret (.bool b))) s') (hE:∀e s',X.xe e s'->R (.error e) s') :
   wpAny (model X.prog X.w) X.A.in1 (eqBool u (.ref p)) (λb s'=>if b=true then R (.ok (.ret (.bool true))) s' else ∃H,Inv X j4 σ H s'/\N H) (λe s'=>R (.error e) s') s:=by
 unfold eqBool;rcases h with ⟨e,q⟩|⟨vs,sp,it,q⟩
 . rw[e] at ry;cases ry;refine wpAny_holding (wpAny_ite_split (λhab=>?_) (λhab=>absurd (beq_self_eq_true _) hab));refine wAq (wpAny_rule (wBq ?_));rw[jd rfl];exact hR true s H I q
 . have ne:y≠.ref p:=aIM I hp it;have hne:¬(u==Value.ref p)=true:=λz=>by
     have z:=eq_of_beq z;subst z;cases y<;>first|(cases ry;exact ne rfl)|(obtain⟨t,e⟩:=ry;cases e)|cases ry
   have bk:∀v s',(∃x H',Inv X j4 σ H' s'/\aN x v/\∃b,x= .bl b/\if b=true then Q1 true H' else N H')->∃b,v= .bool b/\if b=true then R (.ok (.ret (.bool true))) s' else ∃H,Inv X j4 σ H s'/\N H:=by
     rintro v s' ⟨x,H',I',rx,b,e,q'⟩;subst e;cases rx;refine⟨b,rfl,?_⟩;cases b with
     | true=>rw[jd rfl] at q' ⊢;exact hR true s' H' I' q'
     | false=>rw[jb Bool.false_ne_true] at q' ⊢;exact⟨H',I',q'⟩
   have cmp:wpAny (model X.prog X.w) X.A.in1 (richCompare .Eq u (.ref p)) (λv s'=>∃b,v= .bool b/\if b=true then R (.ok (.ret (.bool true))) s' else ∃H,Inv X j4 σ H s'/\N H) (λe s'=>R (.error e) s') s:=by
     rw[<-List.append_nil vs] at q;cases it with
     | bu bu L M F hb=>exact aFn L M I hp bu ry hr.in1.units0 (wpAny_mono (eX (vs:=[.ref p,y]) (dvs:=[]) (ds:=[]) F hr.in1 I.env0.in1 hb .nil hV I (.cons rfl (.cons ry .nil)) q) (λv s' h=>by obtain⟨x,H',I',rx,b,e,q'⟩:=h;subst e;cases rx;exact bk _ _ ⟨.bl b,H',I',rfl,b,rfl,q'⟩) λe s' h=>hE e s' h)
     | own hne hh hc M F hb =>
       cases ry;obtain⟨od,J⟩:=bB I hp;obtain⟨m,Fm⟩:=I.fr;obtain⟨od',J'⟩:=bB I hh;refine W.cmp_K hr.in1.units0 Fm I.ok.mod.kin J' J.type ?_ M.at_ M.fn (wpAny_mono (eX (vs:=[.ref _,.ref p]) (dvs:=[]) (ds:=[]) F hr.in1 I.env0.in1 hb .nil hV I (.cons rfl (.cons rfl .nil)) q) (λv s' h=>by obtain⟨x,H',I',rx,b,e,q'⟩:=h;subst e;cases rx;exact bk _ _ ⟨.bl b,H',I',rfl,b,rfl,q'⟩) λe s' h=>hE e s' h);unfold W.notFirst;rcases hc with rfl|hc
       . simp
       . rw[hc];simp
   have fin:wpAny (model X.prog X.w) X.A.in1 (richCompare .Eq u (.ref p)>>=λv=>truthOfDropped v) (λb s'=>if b=true then R (.ok (.ret (.bool true))) s' else ∃H,Inv X j4 σ H s'/\N H) (λe s'=>R (.error e) s') s:=by
     refine wAq (wpAny_mono cmp (λv s' hv=>?_) λ_ _ e=>e);obtain⟨b,rfl,hq⟩:=hv;exact wpAny_truthy_bool hq
   refine wpAny_holding (wpAny_ite_split (λhab=>absurd hab hne) (λhab=>?_));cases u<;>exact fin
noncomputable def inW(X:Cx)(k:Nat)(C:Addr)(l p:Addr)(ys:List V)(Q:Bool->Hp->Prop):List V->Hp->Prop
 | [],H=>H l=some (.lst ys)/\Q false H
 | y::r,H=>H l=some (.lst ys)/\(∃dx fs,H p=some (.ins C dx fs))/\((y= .ref p/\Q true H)∨(∃vs sp,ItV X k C p H y vs sp/\sp vs H (λv H'=>∃b,v= .bl b/\if b=true then Q true H' else inW X k C l p ys Q r H') E0))
theorem inW.l{k:Nat}{C:Addr}{l p:Addr}{ys r:List V}{Q:Bool->Hp->Prop}{H:Hp}(h:inW X k C l p ys Q r H):H l=some (.lst ys):=by
 cases r with
 | nil=>exact h.1
 | cons y r=>exact h.1
def aHY(neg:Bool)(X:Cx)(k:Nat)(C:Addr):R2:=λx y H Q=>∃p l ys,x= .ref p/\y= .ref l/\inW X k C l p ys (λb H'=>Q (.bl (if neg=true then !b else b)) H') ys H
theorem LF{k:Nat}{C p l:Addr}{j4:List (Addr×Obj)}{σ:St}{H:Hp}{s:J7}{ys:List V}{Q1:Bool->Hp->Prop}{R:Result->J7->Prop}(hr:aR (k+1) X.A)
   (I:Inv X j4 σ H s) (h:inW X k C l p ys Q1 ys H) (hR:∀b s' H',Inv X j4 σ H' s'->Q1 b H'->R (.ok (.ret (.bool b))) s') (hE:∀e s',X.xe e s'->R (.error e) s') :
   MeetsIn X.prog X.w (Builtin.«list.__contains__» ⟨[.ref l,.ref p],[]⟩) (λA' R' s=>A'=X.A/\R'=R/\∃H,Inv X j4 σ H s/\inW X k C l p ys Q1 (ys.drop 0) H):=by
 refine LR.containsG (N:=ys.length) (λi s=>∃H,Inv X j4 σ H s/\inW X k C l p ys Q1 (ys.drop i) H) ?_ ?_
 . rintro i s ⟨H,I,h⟩;obtain⟨_,its,n,rv,ho⟩:=I.hok _ _ h.l;have hl:=rv.length;refine⟨its.toArray,n,_,_,by rw[wIq];exact hl.symm,ho,λhi=>?_⟩;rw[wIq] at hi;have hi':i<ys.length:=by omega
   rw[List.drop_eq_getElem_cons hi'] at h;obtain⟨_,⟨dx,fs,hp⟩,h⟩:=h;obtain⟨u,eu,ry⟩:=rv.get (wHq hi');have e0:its.toArray[i]=u:=by
     have:its[i]? =some its[i]:=wHq hi;rw[this] at eu;exact Option.some.inj eu
   rw[e0];exact EO hr I hp ry h hR hE
 . rintro s ⟨H,I,h⟩;rw[List.drop_length] at h;exact hR false s H I h.2
theorem aEG(hr:aR (k+1) X.A) :
   OpR X (compareOp .In) (aHY false X k C):=by
 rintro j4 s σ H x y v u Q I rx ry ⟨p,l,ys,e1,e2,h⟩;subst e1 e2;cases rx;cases ry;obtain⟨_,its,n,rv,ho⟩:=I.hok _ _ h.l;exact LE.vP (T:="list") ⟨_,ho,rfl⟩ PySem.F.slot_list_contains PySem.F.entry_list_contains (PySem.F.args_list_contains_2 _ _)
   (LF hr I h (λb s' H' I' q'=>⟨b,rfl,.bl b,H',I',rfl,q'⟩) λe s' h=>h) ⟨rfl,rfl,H,I,h⟩
theorem QC(hr:aR (k+1) X.A) :
   OpR X (compareOp .NotIn) (aHY true X k C):=by
 rintro j4 s σ H x y v u Q I rx ry ⟨p,l,ys,e1,e2,h⟩;subst e1 e2;cases rx;cases ry;obtain⟨_,its,n,rv,ho⟩:=I.hok _ _ h.l;exact LE.xC (T:="list") ⟨_,ho,rfl⟩ PySem.F.slot_list_contains PySem.F.entry_list_contains (PySem.F.args_list_contains_2 _ _)
   (LF hr I h (λb s' H' I' q'=>⟨b,rfl,.bl (!b),H',I',rfl,q'⟩) λe s' h=>h) ⟨rfl,rfl,H,I,h⟩
end
end L2
namespace LR
open PySem PyProof.Rows
open AutoSeq1 (wpAny_loadPart')
open MeetsSeq MeetsSeq2 MeetsSeq3 SeqRoads2
theorem containsT(W:List Value->J7->Prop)
   (step:∀y r s,W (y::r) s->wpAny (model prog w) A.in1 (eqBool y x) (λb s'=>if b=true then R (.ok (.ret (.bool true))) s' else W r s') (λe s'=>R (.error e) s') s)
   (fin:∀s,W [] s->R (.ok (.ret (.bool false))) s) :
   MeetsIn prog w (Builtin.«tuple.__contains__» ⟨[.ref t,x],[]⟩) (λA' R' s=>A'=A/\R'=R/\s.heap.get? t=some {cls:=.type "tuple",dict:=dd,data:=.seq items n,slots:=sl}/\W items.toList s) :=
 .of_wp λA' R' s h=>by
   obtain⟨hp,g,d,tk,os⟩:=s;obtain⟨eA,eR,hl,h⟩:=h;subst eA eR
   wp_walk using wpAny_loadPart' hl,wpAny_forIn_array _ (λaY b s'=>b.1=none/\W aY s') _
   case turn =>
     rintro y aY b s' ⟨hb,h⟩;refine wAq (wpAny_mono (step y aY s' h) (λb s'' hb=>?_) λ_ _ e=>e);cases b with
     | true =>
       rw[jd rfl] at hb
       wp_walk
       exact⟨_,rfl,hb⟩
     | false =>
       rw[jb Bool.false_ne_true] at hb
       wp_walk
       exact⟨rfl,hb⟩
   case fin =>
     rintro⟨b1,b2⟩ s' ⟨hb,h⟩;simp only at hb;subst hb
     wp_walk
     exact⟨_,rfl,fin _ h⟩
   case h =>
     exact⟨rfl,h⟩
end LR
namespace L2
open PySem PySem.Spec PyProof.Rows
section
variable{X:Cx}
noncomputable def inT(X:Cx)(k:Nat)(C:Addr)(p:Addr)(Q:Bool->Hp->Prop):List V->Hp->Prop
 | [],H=>Q false H
 | y::r,H=>(∃dx fs,H p=some (.ins C dx fs))/\((y= .ref p/\Q true H)∨(∃vs sp,ItV X k C p H y vs sp/\sp vs H (λv H'=>∃b,v= .bl b/\if b=true then Q true H' else inT X k C p Q r H') E0))
def aLn(neg:Bool)(X:Cx)(k:Nat)(C:Addr):R2:=λx y H Q=>∃p t ys,x= .ref p/\y= .ref t/\SqT X.K H t ys/\inT X k C p (λb H'=>Q (.bl (if neg=true then !b else b)) H') ys H
theorem XI{k:Nat}{C p t:Addr}{j4:List (Addr×Obj)}{σ:St}{Q1:Bool->Hp->Prop}{R:Result->J7->Prop}{items:Array Value}{n:Nat}{dd:Option Addr}{sl:Array (Option Value)}(hr:aR (k+1) X.A)
   (hR:∀b s' H',Inv X j4 σ H' s'->Q1 b H'->R (.ok (.ret (.bool b))) s') (hE:∀e s',X.xe e s'->R (.error e) s') :
   MeetsIn X.prog X.w (Builtin.«tuple.__contains__» ⟨[.ref t,.ref p],[]⟩) (λA' R' s=>A'=X.A/\R'=R/\s.heap.get? t=some {cls:=.type "tuple",dict:=dd,data:=.seq items n,slots:=sl}/\
     ∃H r,Inv X j4 σ H s/\aI r items.toList/\inT X k C p Q1 r H):=by
 refine LR.containsT (λaY s=>∃H r,Inv X j4 σ H s/\aI r aY/\inT X k C p Q1 r H) ?_ ?_
 . rintro u aY s ⟨H,r,I,rv,h⟩;cases rv with
   | cons ry rr =>
     obtain⟨⟨dx,fs,hp⟩,h⟩:=h;refine wpAny_mono (EO hr I hp ry h hR hE) (λb s' hb=>?_) λ_ _ e=>e;cases b with
     | true=>rw[jd rfl] at hb ⊢;exact hb
     | false =>
       rw[jb Bool.false_ne_true] at hb ⊢;obtain⟨H',I',h'⟩:=hb;exact⟨H',_,I',rr,h'⟩
 . rintro s ⟨H,r,I,rv,h⟩;cases rv;exact hR false s H I h
theorem aGM(hr:aR (k+1) X.A) :
   OpR X (compareOp .In) (aLn false X k C):=by
 rintro j4 s σ H x y v u Q I rx ry ⟨p,t,ys,e1,e2,ht,h⟩;subst e1 e2;cases rx;cases ry;obtain⟨its,r,⟨⟨oc,od,dt,sl⟩,ho,hc,n,hd⟩,_⟩:=I.tuple ht
 replace hc:oc= .type "tuple":=hc
 replace hd:dt= .seq its.toArray n:=hd
 subst hc hd;exact LE.vP (T:="tuple") ⟨_,ho,rfl⟩ PySem.F.slot_tuple_contains PySem.F.entry_tuple_contains (PySem.F.args_tuple_contains_2 _ _)
   (XI hr (λb s' H' I' q'=>⟨b,rfl,.bl b,H',I',rfl,q'⟩) λe s' h=>h) ⟨rfl,rfl,ho,H,ys,I,r,h⟩
end
end L2
namespace LR
open PySem PyProof.Rows
open AutoSeq1 (wpAny_loadPart')
open MeetsSeq MeetsSeq2 MeetsSeq3 SeqRoads2
theorem tupEqG(W0:List (Value×Value)->J7->Prop)
   (step:∀y x r s,W0 ((y,x)::r) s->wpAny (model prog w) A.in1 (eqBool y x) (λb s'=>if b=true then W0 r s' else R (.ok (.ret (.bool false))) s') (λe s'=>R (.error e) s') s)
   (fin:∀s,W0 [] s->R (.ok (.ret (.bool (items.size==items2.size)))) s) :
   MeetsIn prog w (Builtin.«tuple.__eq__» ⟨[.ref t,.ref u],[]⟩) (λA' R' s=>A'=A/\R'=R/\s.heap.get? t=some {cls:=.type "tuple",dict:=dd,data:=.seq items n,slots:=sl}/\s.heap.get? u=some {cls:=.type "tuple",dict:=dd2,data:=.seq items2 n2,slots:=sl2}/\W0 (items.toList.zip items2.toList) s) :=
 .of_wp λA' R' s h=>by
   obtain⟨hp,g,d,tk,os⟩:=s;obtain⟨eA,eR,hl,hb,h⟩:=h;subst eA eR;have f2:=AutoSeq1.sub_tuple_tuple
   wp_walk using wpAny_loadPart' hl,wpAny_loadPart' hb,wpAny_forIn_list _ (λaY b s'=>b.1=none/\W0 aY s') _
   case turn =>
     rintro⟨y,x⟩ aY b s' ⟨hb',h⟩;refine wAq (wpAny_mono (step y x aY s' h) (λb s'' hb=>?_) λ_ _ e=>e);cases b with
     | true =>
       rw[jd rfl] at hb
       wp_walk
       exact⟨rfl,hb⟩
     | false =>
       rw[jb Bool.false_ne_true] at hb
       wp_walk
       exact⟨_,rfl,hb⟩
   case fin =>
     rintro⟨b1,b2⟩ s' ⟨hb',h⟩;simp only at hb';subst hb'
     wp_walk
     exact⟨_,rfl,by simpa [Builtin.Tuple.tupleCompareSizes] using fin _ h⟩
   case h =>
     exact⟨rfl,h⟩
end LR
namespace L2
open PySem PySem.Spec PyProof.Rows
section
variable{X:Cx}
noncomputable def tqW(C:Addr)(sp:Sp)(Q:Bool->Hp->Prop):List V->List V->Hp->Prop
 | [],[],H=>Q true H
 | [],_::_,H=>Q false H
 | _::_,[],H=>Q false H
 | u::us,v::vs,H=>∃p p' dx fs dx' fs',u= .ref p/\v= .ref p'/\H p=some (.ins C dx fs)/\H p'=some (.ins C dx' fs')/\(p=p'->tqW C sp Q us vs H)/\
     (p≠p'->sp [.ref p,.ref p'] H (λw H'=>∃b,w= .bl b/\if b=true then tqW C sp Q us vs H' else Q false H') E0)
def rTq(K:W.Frag)(C:Addr)(sp:Sp):R2:=λx y H Q=>∃a b xs ys,x= .ref a/\y= .ref b/\SqT K H a xs/\SqT K H b ys/\tqW C sp (λr H'=>Q (.bl r) H') xs ys H
theorem aCu{k:Nat}{f C:Addr}{fd:Ja}{sp:Sp}{j4:List (Addr×Obj)}{σ:St}{H:Hp}{s:J7}{p p' dx dx':Addr}{fs fs':List (Str×V)}{R:Result->J7->Prop}{W0:Hp->Prop}{N:Hp->Prop}(M:cR X.K C "__eq__" f)(F:aW X.prog X.w X.K X.mg X.base CX0 k f fd ["self","other"] sp)(hr:aR (k+1) X.A)
   (hb:aP X.K fd ["self","other"] []) (I:Inv X j4 σ H s) (ea:H p=some (.ins C dx fs)) (eb:H p'=some (.ins C dx' fs')) (q0:p=p'->W0 H) (q:p≠p'->sp [.ref p,.ref p'] H (λv H'=>∃b,v= .bl b/\if b=true then W0 H' else N H') E0)
   (hN:∀s' H',Inv X j4 σ H' s'->N H'->R (.ok (.ret (.bool false))) s') (hE:∀e s',X.xe e s'->R (.error e) s') :
   wpAny (model X.prog X.w) X.A.in1 (eqBool (.ref p) (.ref p')) (λb s'=>if b=true then ∃H',Inv X j4 σ H' s'/\W0 H' else R (.ok (.ret (.bool false))) s') (λe s'=>R (.error e) s') s:=by
 unfold eqBool;refine wpAny_holding (wpAny_ite_split (λhab=>?_) (λhab=>?_))
 . refine wAq (wpAny_rule (wBq ?_));rw[jd rfl];have e:=eq_of_beq hab;injection e with e;exact⟨H,I,q0 e⟩
 . have hne:p≠p':=λe=>hab (by rw[e];exact beq_self_eq_true _);obtain⟨od,J⟩:=bB I ea;obtain⟨od',J'⟩:=bB I eb;obtain⟨m,Fm⟩:=I.fr;refine wAq (W.cmp_K hr.in1.units0 Fm I.ok.mod.kin J J'.type (by unfold W.notFirst;simp) M.at_ M.fn
     (wpAny_mono (eX (dvs:=[]) (ds:=[]) (vs:=[.ref p,.ref p']) F hr.in1 I.env0.in1 hb .nil hV I (.cons rfl (.cons rfl .nil)) (q hne)) (λv s' ⟨x,H',I',rx,b,e,q'⟩=>?_) λe s' h=>hE e s' h))
   subst e;cases rx;refine wpAny_truthy_bool ?_;cases b with
   | true=>rw[jd rfl] at q' ⊢;exact⟨H',I',q'⟩
   | false=>rw[jb Bool.false_ne_true] at q' ⊢;exact hN s' H' I' q'
theorem aJD(M:cR X.K C "__eq__" f)(F:aW X.prog X.w X.K X.mg X.base CX0 k f fd ["self","other"] sp)(hr:aR (k+1) X.A)(hb:aP X.K fd ["self","other"] []):OpR X (compareOp .Eq) (rTq X.K C sp):=by
 rintro j4 s σ H x y v u Q I rx ry ⟨a,b,xs,ys,e1,e2,ha,hb2,h⟩;subst e1 e2;cases rx;cases ry;obtain⟨its,r,⟨⟨oc,od,dt,sl⟩,ho,hc,n,hd⟩,_⟩:=I.tuple ha;obtain⟨its2,r2,⟨⟨oc2,od2,dt2,sl2⟩,ho2,hc2,n2,hd2⟩,_⟩:=I.tuple hb2
 replace hc:oc= .type "tuple":=hc
 replace hd:dt= .seq its.toArray n:=hd
 replace hc2:oc2= .type "tuple":=hc2
 replace hd2:dt2= .seq its2.toArray n2:=hd2
 subst hc hd hc2 hd2;refine wpAny_richCompare_same_room (op:=.Eq) (T:="tuple") ⟨_,ho,rfl⟩ ⟨_,ho2,rfl⟩ PySem.F.slot_tuple_eq (call_meetsIn PySem.F.slot_tuple_eq ⟨_,ho,rfl⟩ PySem.F.entry_tuple_eq (PySem.F.args_tuple_eq_2 _ _)
   (LR.tupEqG (λaY s=>∃H us vs l1 l2,Inv X j4 σ H s/\aI us l1/\aI vs l2/\aY=l1.zip l2/\(l1.length==l2.length)=(its.toArray.size==its2.toArray.size)/\tqW C sp (λr H'=>Q (.bl r) H') us vs H) ?_ ?_) ⟨rfl,rfl,ho,ho2,H,xs,ys,its,its2,I,r,r2,by simp,by simp,h⟩) hr.units0
 . rintro y x aY s ⟨H,us,vs,l1,l2,I,q1,q2,e,hz,h⟩;cases q1 with
   | nil=>cases e
   | cons ra rr =>
     cases q2 with
     | nil=>cases e
     | cons rb rs =>
       rw[List.zip_cons_cons] at e;injection e with e1 e2;injection e1 with e3 e4;subst e3 e4 e2;obtain⟨p,p',dx,fs,dx',fs',ep,ep',h1,h2,c0,c1⟩:=h;subst ep ep';cases ra;cases rb;refine wpAny_mono (aCu (W0:=λH'=>tqW C sp (λr H'=>Q (.bl r) H') _ _ H') (N:=λH'=>Q (.bl false) H') M F hr hb I h1 h2 c0 c1 (λs' H' I' q=>⟨(λz=>nomatch z),.bl false,H',I',rfl,q⟩) λe s' h=>h) (λb s' hb=>?_) λ_ _ e=>e;cases b with
       | true =>
         rw[jd rfl] at hb ⊢;obtain⟨H',I',h'⟩:=hb;exact⟨H',_,_,_,_,I',rr,rs,rfl,by simpa using hz,h'⟩
       | false=>rw[jb Bool.false_ne_true] at hb ⊢;exact hb
 . rintro s ⟨H,us,vs,l1,l2,I,q1,q2,e,hz,h⟩;refine⟨(λz=>nomatch z),?_⟩;cases q1 with
   | nil =>
     cases q2 with
     | nil =>
       rw[<-hz];exact⟨.bl true,H,I,rfl,h⟩
     | cons _ _ =>
       rw[<-hz];exact⟨.bl false,H,I,rfl,h⟩
   | cons _ _ =>
     cases q2 with
     | nil =>
       rw[<-hz];exact⟨.bl false,H,I,rfl,h⟩
     | cons _ _=>cases e
end
end L2
namespace L2
open PySem PySem.Spec
open PyProof.Rows hiding St
noncomputable def VO(h:Heap)(lo:Nat)(H:Hp)(e:Addr)(C:Value)(d:Option Addr):Prop :=
 lo<=e/\H e=none/\∃oe vs,h.get? e=some oe/\oe.cls=C/\oe.dict=d/\oe.data= .fields vs/\1<vs.size/\
   ∃T oT ts fl,vs[1]? =some (.ref T)/\lo<=T/\H T=none/\T≠e/\h.get? T=some oT/\oT.data= .fields ts/\ts[3]? =some fl
noncomputable def aMJ(h:Heap)(lo:Nat)(H:Hp)(e:Addr)(C:Value)(d:Option Addr):Prop :=
 lo<=e/\H e=none/\∃oe vs,h.get? e=some oe/\oe.cls=C/\oe.dict=d/\oe.data= .fields vs/\1<vs.size/\vs[1]? =some .none
def aIC(h:Heap)(lo:Nat)(H:Hp)(e:Addr)(C:Value)(d:Option Addr):Prop:=aMJ h lo H e C d∨VO h lo H e C d
section
variable{M:Model}{A:Around}{E:Value->J7->Prop}{s:J7}{base:Heap}{env:Env}{outer:List Env}{L e:Addr}{C:Value}{d:Option Addr}{lo:Nat}{H:Hp}
end
noncomputable def Cx.lo(X:Cx):Nat:=X.pn.foldr (λp n=>max (p.1+1) n) X.s₀.heap.objs.size
section
variable{X:Cx}{j4:List (Addr×Obj)}{σ:St}{H:Hp}{s:J7}
theorem Inv.lo_le(I:Inv X j4 σ H s):X.lo<=s.heap.objs.size:=by
 have h:∀l:List (Addr×Obj),(∀p∈l,p.1<s.heap.objs.size)->l.foldr (λp n=>max (p.1+1) n) X.s₀.heap.objs.size<=s.heap.objs.size:=λl=>by
   induction l with
   | nil=>intro _;exact I.sz
   | cons p r ih=>intro h;exact Nat.max_le.mpr ⟨h p (wDq ..),ih λq hq=>h q (wCq _ hq)⟩
 exact h X.pn λp hp=>Heap.lt_size (I.pin p (List.mem_append_left _ hp)).1
theorem Inv.nopins(I:Inv X j4 σ H s):Inv X [] σ H s:=I.pins_of λ_ z=>nomatch z
end
noncomputable def CXo(P:J9)(w:World):CXT:=λouter H s E e s'=>∃a C d H',e= .ref a/\s'.os=s.os/\AllBare s'.gens/\Un (frs outer) [] H H' s.heap s'.heap/\HOk P w H' s'.heap/\VO s'.heap s.heap.objs.size H' a C d/\E C d H'
noncomputable def xeO(X:Cx)(E:XK):Value->J7->Prop:=λe s'=>∃a C d σ H',e= .ref a/\Inv X [] σ H' s'/\aIC s'.heap X.lo H' a C d/\E C d H'
structure Own(X:Cx):Prop where
 st:X.stack=X.env::X.outer
 fr:X.env.frame=some X.env.locals
theorem VO.mono{h:Heap}{lo lo':Nat}{H:Hp}{e:Addr}{C:Value}{d:Option Addr}(x:VO h lo H e C d)(hl:lo'<=lo):VO h lo' H e C d:=by
 obtain⟨le,he0,oe,vs,he,hc,hdd,hd,hsz,T,oT,ts,fl,h1,lT,r⟩:=x;exact⟨Nat.le_trans hl le,he0,oe,vs,he,hc,hdd,hd,hsz,T,oT,ts,fl,h1,Nat.le_trans hl lT,r⟩
section
variable{X:Cx}{E:XK}
end
end L2
namespace LX
open PySem PySem.W PyProof.Rows
open PySem.Builtin PySem.Builtin.ObjectAttr
noncomputable def vE:List Value:=[.type "ValueError",.type "Exception",.type "BaseException",.type "object"]
noncomputable def aE:List Value:=[.type "ArithmeticError",.type "Exception",.type "BaseException",.type "object"]
noncomputable def lE:List Value:=[.type "LookupError",.type "Exception",.type "BaseException",.type "object"]
noncomputable def WK:List Value->Bool
 | .ref _::r=>WK r
 | l=>l==vE||l==aE||l==lE
noncomputable def LH(K:Frag)(C:Addr):Bool:=(clsIn K C).any λcd=>WK cd.mro
section
variable{prog:J9}{w:World}{A:Around}{E:Value->J7->Prop}{s:J7}{K:Frag}{x C:Addr}{name:Str}{v:Value}{R:Result->J7->Prop}
end
end LX
namespace LX
open PySem PySem.W PyProof.Rows
open PySem.Builtin PySem.Builtin.ObjectAttr
noncomputable abbrev exO(C:Value)(d:Option Addr)(t:Addr):Obj:={cls:=C,dict:=d,data:=.fields #[.ref t,.none,.none,.none,.bool false,.none]}
section
variable{prog:J9}{w:World}{A:Around}{E:Value->J7->Prop}{h:Heap}{g:Array GenState}{d:Drawn}{t:Nat}{os:OsState}
variable{nm q:Str}{C N:Addr}{bs bm bmB:List Value}{hdct:Bool}{sn:List Str}{sub:List Value}{ab:Bool}{col:Option Bool}{dd:Option Addr}{k0 k1 k2 k3 k5:Option Value}{B newId initId:J8}
end
end LX
namespace LX
open PySem PySem.W PyProof.Rows
noncomputable def aG2(K:Frag)(C:Addr)(bmB:List Value)(newId:J8)(iv:Option Value):Bool:=match K.lookup C with
 | some ⟨.type "type",_,.cls cd,sl⟩=>(match cd.mro,sl.toList with
   | .ref C'::bm,[_,_,_,_,some (.builtin n),_]=>C'==C&&n==newId&&!cd.hasDel&&tailIn K bmB bm&&nsOkIn K cd.ns&&nsIn K cd.ns "__init__"==some iv
   | _,_=>false)
 | _=>false
end LX
namespace L2
open PySem PySem.Spec
open PyProof.Rows hiding St
noncomputable def XN(e C:Addr):Heap->Prop:=λh=>∃t,h.get? e=some (LX.exO (.ref C) none t)
noncomputable def XD(e C d:Addr):Heap->Prop:=λh=>∃t,h.get? e=some (LX.exO (.ref C) (some d) t)
section
variable{P:J9}{w:World}{H:Hp}{h:Heap}{e C d:Addr}
end
section
variable{X:Cx}{j4:List (Addr×Obj)}{σ:St}{H:Hp}{s:J7}
end
structure XIn(K:W.Frag)(mg:Str->Option Value)(C f:Addr)(Bn fld:Str):Prop where
 ex :∃B newId initId bmB BC,ExcBaseFacts B newId initId bmB/\LX.aG2 K C bmB newId (some (.ref f))=true/\mg Bn=some (.ref BC)/\W.readsIn K BC (.type "type")=true/\
   W.findCls K (.ref BC) (.type "type") "__init__"=some (.val (.builtin initId))/\W.handedIn (.builtin initId)=true/\W.specialIn K (.ref BC) "__getattribute__"=some (some (.builtin "type.__getattribute__"))
 sa:W.findIn K (.ref C) "__setattr__"=some (some (.builtin "object.__setattr__"))
 ov:LX.LH K C=true
 na:W.takerIn K C fld=some none
 hd:W.hasDictIn K C=true
 kp:W.keepIn K (.ref C)=true
 fn:W.isFn K (.ref f)=true
section
variable{X:Cx}{C f:Addr}{Bn fld self arg:Str}{p1 p2 p3 p4 p5 p6:Pos}{j:Nat}{t:Str}{i i2:Nat}
end
noncomputable def spI(C:Addr)(fld:Str):Sp:=λvs H Q _=>∃e v,vs=[.ref e,v]/\H e=some (.ext (XN e C))/\∀d,H d=none->Q .non (upd (upd H e (.ext (XD e C d))) d (.xd [(fld,v)]))
section
variable{X:Cx}{C f:Addr}{Bn fld x:Str}{np cpos pos:Pos}{e:Expr}{te:TE}{k:Nat}{fd:Ja}{ps:List Str}{EX:XK}
end
noncomputable def Cx.pin(X:Cx)(j4:List (Addr×Obj)):Cx:={X with pn:=X.pn++j4}
section
variable{X:Cx}{j4:List (Addr×Obj)}{σ:St}{H:Hp}{s:J7}{e:Value}
end
end L2
namespace LX
open PySem PySem.W PyProof.Rows
noncomputable def aGW(K:Frag)(c:Addr):Bool:=(clsIn K c).isSome
noncomputable def aH6(K:Frag)(c:Addr):Bool:=aGW K c&&subIn K (.ref c) (.type "BaseException")==some true
noncomputable def aCS(K:Frag)(Ca:Addr):List Addr->Option Bool
 | []=>some false
 | c::r=>match subIn K (.ref Ca) (.ref c) with
   | some true=>some true
   | some false=>aCS K Ca r
   | none=>none
section
variable{M:Model}{A:Around}{E:Value->J7->Prop}{s:J7}{K:Frag}
end
end LX
namespace L2
open PySem PySem.Spec
open PyProof.Rows hiding St
noncomputable def XC(a:Addr)(C:Value)(d:Option Addr):Heap->Prop:=λh=>∃oe vs,h.get? a=some oe/\oe.cls=C/\oe.dict=d/\oe.data= .fields vs
theorem aHq{q:Str×Pos×Addr}{l:List (Str×Pos×Addr)}:starEach (.Name q.1 q.2.1::l.map λq=>Expr.Name q.1 q.2.1) env=(false,eval (.Name q.1 q.2.1) env)::starEach (l.map λq=>Expr.Name q.1 q.2.1) env:=rfl
end L2
namespace LX
open PySem PySem.W PyProof.Rows
open PySem.Builtin PySem.Builtin.ObjectAttr
section
variable{prog:J9}{w:World}{A:Around}{E:Value->J7->Prop}{s:J7}{K:Frag}{x C:Addr}
end
end LX
namespace L2
open PySem PySem.Spec
open PyProof.Rows hiding St
structure XAt(K:W.Frag)(C:Addr):Prop where
 ga:W.findIn K (.ref C) "__getattribute__"=some (some (.builtin "BaseException.__getattribute__"))
 gh:W.findIn K (.ref C) "__getattr__"=some none
 ov:LX.LH K C=true
 hd:W.hasDictIn K C=true
 ha:W.findIn K (.ref C) "__class__"=some (some (.builtin "object.__class__"))
 hn:W.specialIn K (.builtin "object.__class__") "__get__"=some (some (.builtin "getset_descriptor.__get__"))
 ht:W.takesIn K (.builtin "object.__class__")=some true
 hm:W.mroIn K C (.type "object")=some true
section
variable{X:Cx}{j4:List (Addr×Obj)}{σ:St}{H:Hp}{s:J7}{a C:Addr}{A:Around}{E:Value->J7->Prop}
end
end L2
namespace L3
open PySem PySem.Spec
open PyProof.Rows hiding St
open L2
inductive PV where
 | non|bl (b:Bool)|int (i:Int)|str (x:Str)|tup (xs:List PV)|lst (xs:List PV)|scr (ns:List Int)
 | ob (c:J8) (ns:List Str) (xs:List PV)|ref (a:Addr)|ty (n:J8)|cl (c:J8)|fn (f:Str)|emp|dct (ks:List Key) (xs:List PV)|exc (c:J8) (ns:List Str) (xs:List PV)
structure Ev where
 K:W.Frag
 cls:J8->Addr
 fna:Str->Addr:=λ_=>0
 f0:Hp:=λ_=>none
 z0:Hp:=λ_=>none
mutual
noncomputable def RP(E:Ev)(Z:Hp):PV->V->Prop
 | .non=>λv=>v= .non
 | .bl b=>λv=>v= .bl b
 | .int i=>λv=>v= .int i
 | .str x=>λv=>v= .str x
 | .ty n=>λv=>v= .ty n
 | .ref a=>λv=>v= .ref a
 | .cl c=>λv=>v= .ref (E.cls c)
 | .fn f=>λv=>v= .ref (E.fna f)
 | .emp=>λv=>∃a,v= .ref a/\Z a=some (.dK [])
 | .scr ns=>λv=>∃a,v= .ref a/\SqL E.K Z a (ns.map V.int)
 | .tup xs=>λv=>∃a vs,v= .ref a/\SqT E.K Z a vs/\RPs E Z xs vs
 | .lst xs=>λv=>∃a vs,v= .ref a/\Z a=some (.lst vs)/\RPs E Z xs vs
 | .dct ks xs=>λv=>∃a vs,v= .ref a/\Z a=some (.dK (ks.zip vs))/\ks.length=vs.length/\RPs E Z xs vs
 | .ob c ns xs=>λv=>∃a dx vs,v= .ref a/\Z a=some (.ins (E.cls c) dx (ns.zip vs))/\ns.length=vs.length/\RPs E Z xs vs
 | .exc c ns xs=>λv=>∃a d vs,v= .ref a/\Z a=some (.ext (XC a (.ref (E.cls c)) d))/\ns.length=vs.length/\(∀dd,d=some dd->Z dd=some (.xd (ns.zip vs)))/\(d=none->ns=[])/\RPs E Z xs vs
noncomputable def RPs(E:Ev)(Z:Hp):List PV->List V->Prop
 | []=>λvs=>vs=[]
 | x::xs=>λvs=>∃v r,vs=v::r/\RP E Z x v/\RPs E Z xs r
end
theorem bM{K:W.Frag}{xs:List V}(e:aJ Z Z')(h:SqT K Z a xs):SqT K Z' a xs:=by
 rcases h with (h|⟨o,h⟩)|h
 . exact .inl (.inl (e _ _ h))
 . exact .inl (.inr ⟨o,e _ _ h⟩)
 . exact .inr h
section
variable{E:Ev}{Z Z' Z1 Z2 H H':Hp}
mutual
theorem RP.mono(e:aJ Z Z'):∀{x:PV} {v:V},RP E Z x v->RP E Z' x v
 | .non,_,h=>h
 | .bl _,_,h=>h
 | .int _,_,h=>h
 | .str _,_,h=>h
 | .ty _,_,h=>h
 | .ref _,_,h=>h
 | .cl _,_,h=>h
 | .fn _,_,h=>h
 | .emp,_,⟨a,e1,h⟩=>⟨a,e1,e _ _ h⟩
 | .scr _,_,⟨a,e1,h⟩=>⟨a,e1,e.seq h⟩
 | .tup _,_,⟨a,vs,e1,h,r⟩=>⟨a,vs,e1,bM e h,RPs.mono e r⟩
 | .lst _,_,⟨a,vs,e1,h,r⟩=>⟨a,vs,e1,e _ _ h,RPs.mono e r⟩
 | .dct _ _,_,⟨a,vs,e1,h,l,r⟩=>⟨a,vs,e1,e _ _ h,l,RPs.mono e r⟩
 | .ob _ _ _,_,⟨a,dx,vs,e1,h,l,r⟩=>⟨a,dx,vs,e1,e _ _ h,l,RPs.mono e r⟩
 | .exc _ _ _,_,⟨a,d,vs,e1,h,l,hd,hn,r⟩=>⟨a,d,vs,e1,e _ _ h,l,λdd q=>e _ _ (hd dd q),hn,RPs.mono e r⟩
theorem RPs.mono(e:aJ Z Z'):∀{xs:List PV} {vs:List V},RPs E Z xs vs->RPs E Z' xs vs
 | [],_,h=>h
 | _::_,_,⟨v,r,e1,h,t⟩=>⟨v,r,e1,RP.mono e h,RPs.mono e t⟩
end
theorem RPs.length:∀{xs:List PV} {vs:List V},RPs E Z xs vs->xs.length=vs.length
 | [],_,h=>by cases h;rfl
 | _::_,_,⟨v,r,e1,_,t⟩=>by subst e1;rw[List.length_cons,List.length_cons,RPs.length t]
theorem RPs.get:∀{xs:List PV} {vs:List V} {i:Nat} {x:PV},RPs E Z xs vs->xs[i]? =some x->∃v,vs[i]? =some v/\RP E Z x v
 | [],_,_,_,_,e=>by simp at e
 | y::_,_,0,x,⟨v,r,e1,h,t⟩,e=>by
   subst e1;have:y=x:=by simpa using e
   subst this;exact⟨v,rfl,h⟩
 | _::_,_,i+1,x,⟨v,r,e1,h,t⟩,e=>by
   subst e1;obtain⟨u,a,b⟩:=RPs.get (i:=i) t (by simpa using e);exact⟨u,by simpa using a,b⟩
theorem RPs.append:∀{xs ys:List PV} {vs us:List V},RPs E Z xs vs->RPs E Z ys us->RPs E Z (xs++ys) (vs++us)
 | [],_,_,_,h,q=>by cases h;exact q
 | _::_,_,_,us,⟨v,r,e1,h,t⟩,q=>by subst e1;exact⟨v,r++us,rfl,h,RPs.append t q⟩
theorem RPs.set{u:V}(q:RP E Z y u):∀{xs:List PV} {vs:List V} (i:Nat),RPs E Z xs vs->RPs E Z (xs.set i y) (vs.set i u)
 | [],_,_,h=>by cases h;exact rfl
 | _::_,_,0,⟨v,r,e1,h,t⟩=>by subst e1;exact⟨u,r,rfl,q,t⟩
 | _::_,_,i+1,⟨v,r,e1,h,t⟩=>by subst e1;exact⟨v,r.set i u,rfl,h,RPs.set q i t⟩
theorem RPs.take:∀{xs:List PV} {vs:List V} (n:Nat),RPs E Z xs vs->RPs E Z (xs.take n) (vs.take n)
 | _,_,0,_=>rfl
 | [],_,_+1,h=>by cases h;exact rfl
 | _::_,_,n+1,⟨v,r,e1,h,t⟩=>by subst e1;exact⟨v,r.take n,rfl,h,RPs.take n t⟩
theorem RPs.drop:∀{xs:List PV} {vs:List V} (n:Nat),RPs E Z xs vs->RPs E Z (xs.drop n) (vs.drop n)
 | _,_,0,h=>h
 | [],_,_+1,h=>by cases h;exact rfl
 | _::_,_,n+1,⟨v,r,e1,h,t⟩=>by subst e1;exact RPs.drop n t
theorem RPs.dropLast(h:RPs E Z xs vs):RPs E Z xs.dropLast vs.dropLast:=by
 rw[List.dropLast_eq_take,List.dropLast_eq_take,<-RPs.length h];exact RPs.take _ h
theorem RPs.ofInts:∀(ns:List Int),RPs E Z (ns.map PV.int) (ns.map V.int)
 | []=>rfl
 | n::r=>⟨.int n,r.map V.int,rfl,rfl,RPs.ofInts r⟩
theorem RPs.reverse:∀{xs:List PV} {vs:List V},RPs E Z xs vs->RPs E Z xs.reverse vs.reverse
 | [],_,h=>by cases h;exact rfl
 | x::xs,_,⟨v,r,e1,h,t⟩=>by
   subst e1;rw[List.reverse_cons,List.reverse_cons];exact RPs.append (RPs.reverse t) ⟨v,[],rfl,h,rfl⟩
end
inductive GO where
 | lst (xs:List PV)|ins (c:J8) (ns:List Str) (xs:List PV)
noncomputable abbrev Gh:=Addr->Option GO
noncomputable def gup(G:Gh)(a:Addr)(o:GO):Gh:=λb=>if b=a then some o else G b
noncomputable def QN(G:Gh)(a:Addr):Gh:=λb=>if b=a then none else G b
theorem aD:gup G a o a=some o:=jd rfl
theorem bQ(h:b≠a):gup G a o b=G b:=jb h
theorem cS:gup (gup G a o) a u=gup G a u:=by funext b;unfold gup;split<;>rfl
theorem uN(h:b≠a):QN G a b=G b:=jb h
theorem QR:QN G a a=none:=jd rfl
theorem FL(h:G a=none):QN (gup G a o) a=G:=by
 funext b;unfold QN gup
 split
 . rename_i e;rw[e];exact h.symm
 . rfl
noncomputable def RO(E:Ev)(Z:Hp):GO->HO->Prop
 | .lst xs,o=>∃vs,o= .lst vs/\RPs E Z xs vs
 | .ins c ns xs,o=>∃dx vs,o= .ins (E.cls c) dx (ns.zip vs)/\ns.length=vs.length/\RPs E Z xs vs
theorem RO.mono{E:Ev}{Z Z':Hp}(e:aJ Z Z'):∀{o:GO} {o':HO},RO E Z o o'->RO E Z' o o'
 | .lst _,_,⟨vs,a,b⟩=>⟨vs,a,b.mono e⟩
 | .ins _ _ _,_,⟨dx,vs,a,l,b⟩=>⟨dx,vs,a,l,b.mono e⟩
structure Sim(E:Ev)(F H Z:Hp)(G:Gh):Prop where
 z:aJ Z H
 f:∀a o,F a=some o->H a=some o/\Z a=none/\G a=none
 g:∀a o,G a=some o->Z a=none/\∃o',H a=some o'/\RO E Z o o'
 z0:aJ E.z0 Z
 ff:aJ E.f0 F
section
variable{E:Ev}{F H Z:Hp}{G G':Gh}{p:Addr}{o:HO}{go:GO}
theorem Sim.zn(S:Sim E F H Z G)(n:H p=none):Z p=none:=by
 cases e:Z p with
 | none=>rfl
 | some u=>rw[S.z _ _ e] at n;cases n
theorem Sim.gn(S:Sim E F H Z G)(n:H p=none):G p=none:=by
 cases e:G p with
 | none=>rfl
 | some u=>obtain⟨_,o',e',_⟩:=S.g _ _ e;rw[e'] at n;cases n
theorem Sim.fn(S:Sim E F H Z G)(n:H p=none):F p=none:=by
 cases e:F p with
 | none=>rfl
 | some u=>rw[(S.f _ _ e).1] at n;cases n
theorem Sim.fz(S:Sim E F H Z G)(n:H p=none):Sim E F (upd H p o) (upd Z p o) G:=by
 have zn:=S.zn n;have sub:aJ Z (upd Z p o):=bE zn o;refine⟨λa u q=>?_,λa u q=>?_,λa u q=>?_,S.z0.trans sub,S.ff⟩
 . by_cases e:a=p
   . subst e;rw[aS] at q ⊢;exact q
   . rw[aG e] at q ⊢;exact S.z _ _ q
 . obtain⟨h1,h2,h3⟩:=S.f a u q;have e:a≠p:=aM h1 n;exact⟨by rw[aG e];exact h1,by rw[aG e];exact h2,h3⟩
 . obtain⟨a1,o',a2,r⟩:=S.g a u q;have e:a≠p:=aM a2 n;exact⟨by rw[aG e];exact a1,o',by rw[aG e];exact a2,r.mono sub⟩
theorem Sim.new(S:Sim E F H Z G)(n:H p=none)(r:RO E Z go o):Sim E F (upd H p o) Z (gup G p go):=by
 refine⟨λa u q=>gP (S.z _ _ q) n,λa u q=>?_,λa u q=>?_,S.z0,S.ff⟩
 . obtain⟨h1,h2,h3⟩:=S.f a u q;have e:a≠p:=aM h1 n;exact⟨by rw[aG e];exact h1,h2,by rw[bQ e];exact h3⟩
 by_cases e:a=p
 . subst e;rw[aD] at q;cases q;exact⟨S.zn n,o,aS,r⟩
 . rw[bQ e] at q;obtain⟨a1,o',a2,r'⟩:=S.g a u q;exact⟨a1,o',by rw[aG e];exact a2,r'⟩
theorem Sim.other(S:Sim E F H Z G)(n:H p=none):Sim E F (upd H p o) Z G:=by
 refine⟨λa u q=>gP (S.z _ _ q) n,λa u q=>⟨gP (S.f a u q).1 n,(S.f a u q).2⟩,λa u q=>?_,S.z0,S.ff⟩;obtain⟨a1,o',a2,r'⟩:=S.g a u q;exact⟨a1,o',gP a2 n,r'⟩
theorem Sim.set(S:Sim E F H Z G)(n:G p=some u)(r:RO E Z go o):Sim E F (upd H p o) Z (gup G p go):=by
 obtain⟨z,_,_,_⟩:=S.g _ _ n;refine⟨λa u q=>?_,λa u' q=>?_,λa u q=>?_,S.z0,S.ff⟩
 . have e:a≠p:=aM q z;rw[aG e];exact S.z _ _ q
 . obtain⟨h1,h2,h3⟩:=S.f a u' q;have e:a≠p:=λe=>by subst e;rw[n] at h3;cases h3
   exact⟨by rw[aG e];exact h1,h2,by rw[bQ e];exact h3⟩
 . by_cases e:a=p
   . subst e;rw[aD] at q;cases q;exact⟨z,o,aS,r⟩
   . rw[bQ e] at q;obtain⟨a1,o',a2,r'⟩:=S.g a u q;exact⟨a1,o',by rw[aG e];exact a2,r'⟩
theorem Sim.frz(S:Sim E F H Z G)(n:G p=some u)(h:H p=some o):Sim E F H (upd Z p o) (QN G p):=by
 obtain⟨z,_,_,_⟩:=S.g _ _ n;refine⟨λa u q=>?_,λa u' q=>?_,λa u q=>?_,S.z0.trans (bE z o),S.ff⟩
 . by_cases e:a=p
   . subst e;rw[aS] at q;rw[<-q];exact h
   . rw[aG e] at q;exact S.z _ _ q
 . obtain⟨h1,h2,h3⟩:=S.f a u' q;have e:a≠p:=λe=>by subst e;rw[n] at h3;cases h3
   exact⟨h1,by rw[aG e];exact h2,by rw[uN e];exact h3⟩
 . by_cases e:a=p
   . subst e;rw[QR] at q;cases q
   . rw[uN e] at q;obtain⟨a1,o',a2,r'⟩:=S.g a u q;exact⟨by rw[aG e];exact a1,o',a2,r'.mono (bE z o)⟩
theorem Sim.weak(S:Sim E F H Z G)(h:∀a o,G' a=some o->G a=some o):Sim E F H Z G':=⟨S.z,λa o q=>⟨(S.f a o q).1,(S.f a o q).2.1,by
 cases e:G' a with
 | none=>rfl
 | some u=>exact absurd (h _ _ e) (by rw[(S.f a o q).2.2];intro z;cases z)⟩,λa o q=>S.g a o (h a o q),S.z0,S.ff⟩
theorem Sim.mine(S:Sim E F H Z G)(n:H p=none):Sim E (upd F p o) (upd H p o) Z G:=by
 refine⟨λa u q=>gP (S.z _ _ q) n,λa u q=>?_,λa u q=>?_,S.z0,S.ff.trans (bE (S.fn n) o)⟩
 . by_cases e:a=p
   . subst e;rw[aS] at q ⊢;exact⟨q,S.zn n,S.gn n⟩
   . rw[aG e] at q ⊢;exact S.f a u q
 . obtain⟨a1,o',a2,r'⟩:=S.g a u q;exact⟨a1,o',gP a2 n,r'⟩
theorem Sim.f0n(S:Sim E F H Z G)(n:H p=none):E.f0 p=none:=by
 cases e:E.f0 p with
 | none=>rfl
 | some u=>exact absurd (S.ff _ _ e) (by rw[S.fn n];intro z;cases z)
theorem WG{F':Hp}(h:aJ E.f0 (upd F p o))(n:E.f0 p=none):aJ E.f0 F:=λa u q=>by
 have e:a≠p:=aM q n;have:=h a u q
 rwa [aG e] at this
theorem Sim.turn(S:Sim E (upd F p u) H Z G)(nf:E.f0 p=none):Sim E (upd F p o) (upd H p o) Z G:=by
 obtain⟨h1,h2,h3⟩:=S.f p u aS;refine⟨λa v q=>?_,λa v q=>?_,λa v q=>?_,S.z0,λa v q=>by
   have e:a≠p:=aM q nf;have:=S.ff a v q;rw[aG e] at this ⊢;exact this⟩
 . have e:a≠p:=aM q h2;rw[aG e];exact S.z _ _ q
 . by_cases e:a=p
   . subst e;rw[aS] at q ⊢;exact⟨q,h2,h3⟩
   . rw[aG e] at q ⊢;exact S.f a v (by rw[aG e];exact q)
 . obtain⟨a1,o',a2,r'⟩:=S.g a v q;have e:a≠p:=λe=>by subst e;rw[h3] at q;cases q
   exact⟨a1,o',by rw[aG e];exact a2,r'⟩
theorem Sim.mineZ(S:Sim E (upd F p o) H Z G)(n:F p=none)(nf:E.f0 p=none):Sim E F H (upd Z p o) G:=by
 obtain⟨h1,h2,h3⟩:=S.f p o aS;have sub:aJ Z (upd Z p o):=bE h2 o;refine⟨λa v q=>?_,λa v q=>?_,λa v q=>?_,S.z0.trans sub,WG (F':=F) S.ff nf⟩
 . by_cases e:a=p
   . subst e;rw[aS] at q;rw[<-q];exact h1
   . rw[aG e] at q;exact S.z _ _ q
 . have e:a≠p:=aM q n;obtain⟨b1,b2,b3⟩:=S.f a v (by rw[aG e];exact q);exact⟨b1,by rw[aG e];exact b2,b3⟩
 . obtain⟨a1,o',a2,r'⟩:=S.g a v q;have e:a≠p:=λe=>by subst e;rw[h3] at q;cases q
   exact⟨by rw[aG e];exact a1,o',a2,r'.mono sub⟩
theorem Sim.mineG(S:Sim E (upd F p o) H Z G)(n:F p=none)(nf:E.f0 p=none)(r:RO E Z go o):Sim E F H Z (gup G p go):=by
 obtain⟨h1,h2,h3⟩:=S.f p o aS;refine⟨S.z,λa v q=>?_,λa v q=>?_,S.z0,WG (F':=F) S.ff nf⟩
 . have e:a≠p:=aM q n;obtain⟨b1,b2,b3⟩:=S.f a v (by rw[aG e];exact q);exact⟨b1,b2,by rw[bQ e];exact b3⟩
 . by_cases e:a=p
   . subst e;rw[aD] at q;cases q;exact⟨h2,o,h1,r⟩
   . rw[bQ e] at q;exact S.g a v q
theorem Sim.weakF(S:Sim E F H Z G):Sim E E.f0 H Z G:=⟨S.z,λa o q=>S.f a o (S.ff a o q),S.g,S.z0,aJ.refl _⟩
end
noncomputable abbrev Ev.at(E:Ev)(f z:Hp):Ev:={E with f0:=f,z0:=z}
section
variable{E:Ev}{f z Z:Hp}
mutual
theorem RP.at:∀{x:PV} {v:V},RP E Z x v->RP (E.at f z) Z x v
 | .non,_,h=>h
 | .bl _,_,h=>h
 | .int _,_,h=>h
 | .str _,_,h=>h
 | .ty _,_,h=>h
 | .ref _,_,h=>h
 | .cl _,_,h=>h
 | .fn _,_,h=>h
 | .emp,_,h=>h
 | .scr _,_,h=>h
 | .tup _,_,⟨a,vs,e1,h,r⟩=>⟨a,vs,e1,h,RPs.at r⟩
 | .lst _,_,⟨a,vs,e1,h,r⟩=>⟨a,vs,e1,h,RPs.at r⟩
 | .dct _ _,_,⟨a,vs,e1,h,l,r⟩=>⟨a,vs,e1,h,l,RPs.at r⟩
 | .ob _ _ _,_,⟨a,dx,vs,e1,h,l,r⟩=>⟨a,dx,vs,e1,h,l,RPs.at r⟩
 | .exc _ _ _,_,⟨a,d,vs,e1,h,l,hd,hn,r⟩=>⟨a,d,vs,e1,h,l,hd,hn,RPs.at r⟩
theorem RPs.at:∀{xs:List PV} {vs:List V},RPs E Z xs vs->RPs (E.at f z) Z xs vs
 | [],_,h=>h
 | _::_,_,⟨v,r,e1,h,t⟩=>⟨v,r,e1,RP.at h,RPs.at t⟩
end
mutual
theorem RP.un:∀{x:PV} {v:V},RP (E.at f z) Z x v->RP E Z x v
 | .non,_,h=>h
 | .bl _,_,h=>h
 | .int _,_,h=>h
 | .str _,_,h=>h
 | .ty _,_,h=>h
 | .ref _,_,h=>h
 | .cl _,_,h=>h
 | .fn _,_,h=>h
 | .emp,_,h=>h
 | .scr _,_,h=>h
 | .tup _,_,⟨a,vs,e1,h,r⟩=>⟨a,vs,e1,h,RPs.un r⟩
 | .lst _,_,⟨a,vs,e1,h,r⟩=>⟨a,vs,e1,h,RPs.un r⟩
 | .dct _ _,_,⟨a,vs,e1,h,l,r⟩=>⟨a,vs,e1,h,l,RPs.un r⟩
 | .ob _ _ _,_,⟨a,dx,vs,e1,h,l,r⟩=>⟨a,dx,vs,e1,h,l,RPs.un r⟩
 | .exc _ _ _,_,⟨a,d,vs,e1,h,l,hd,hn,r⟩=>⟨a,d,vs,e1,h,l,hd,hn,RPs.un r⟩
theorem RPs.un:∀{xs:List PV} {vs:List V},RPs (E.at f z) Z xs vs->RPs E Z xs vs
 | [],_,h=>h
 | _::_,_,⟨v,r,e1,h,t⟩=>⟨v,r,e1,RP.un h,RPs.un t⟩
end
variable{F H:Hp}{G:Gh}
end
noncomputable abbrev PX:=J8->List Str->List PV->Gh->Prop
noncomputable def WkX(x:PX):PX:=λc ns xs G=>∃G2:Gh,(∀a o,G2 a=some o->G a=some o)/\x c ns xs G2
def KX(E:Ev)(F Z:Hp)(x:PX)(EX:XK):Prop:= ∀c ns xs d vs Z1 G1 H1,aJ Z Z1->Sim E F H1 Z1 G1->ns.length=vs.length->RPs E Z1 xs vs->(∀dd,d=some dd->Z1 dd=some (.xd (ns.zip vs)))->(d=none->ns=[])->x c ns xs G1->EX (.ref (E.cls c)) d H1
noncomputable abbrev PSt:=List (Option PV)
noncomputable def RSl(E:Ev)(Z:Hp):Option PV->Option V->Prop
 | none,_=>True
 | some x,o=>∃v,o=some v/\RP E Z x v
inductive RSt(E:Ev)(Z:Hp):PSt->St->Prop
 | nil:RSt E Z [] []
 | cons {o:Option PV} {u:Option V} {σ':PSt} {σ:St}:RSl E Z o u->RSt E Z σ' σ->RSt E Z (o::σ') (u::σ)
section
variable{E:Ev}{Z Z':Hp}
theorem RSl.mono(e:aJ Z Z'):∀{o:Option PV} {u:Option V},RSl E Z o u->RSl E Z' o u
 | none,_,_=>trivial
 | some _,_,⟨v,a,r⟩=>⟨v,a,r.mono e⟩
theorem RSt.mono(e:aJ Z Z'):∀{σ':PSt} {σ:St},RSt E Z σ' σ->RSt E Z' σ' σ
 | _,_,.nil=>.nil
 | _,_,.cons a b=>.cons (a.mono e) (RSt.mono e b)
theorem RSt.get:∀{σ':PSt} {σ:St} {i:Nat} {x:PV},RSt E Z σ' σ->σ'[i]? =some (some x)->∃v,σ[i]? =some (some v)/\RP E Z x v
 | _,_,_,_,.nil,e=>by simp at e
 | _,_,0,x,.cons a _,e=>by
   simp at e;subst e
   obtain⟨v,e1,r⟩:=a;subst e1;exact⟨v,rfl,r⟩
 | _,_,i+1,x,.cons _ b,e=>by
   obtain⟨v,e1,r⟩:=RSt.get (i:=i) b (by simpa using e);exact⟨v,by simpa using e1,r⟩
theorem RSt.set{x:PV}(r:RP E Z x v):∀{σ':PSt} {σ:St} (i:Nat),RSt E Z σ' σ->RSt E Z (σ'.set i (some x)) (σ.set i (some v))
 | _,_,_,.nil=>.nil
 | _,_,0,.cons _ b=>.cons ⟨v,rfl,r⟩ b
 | _,_,i+1,.cons a b=>.cons a (RSt.set r i b)
theorem RSt.nones:∀(n:Nat),RSt E Z (List.replicate n none) (List.replicate n none)
 | 0=>.nil
 | n+1=>.cons trivial (RSt.nones n)
theorem RSt.append:∀{a b:PSt} {c d:St},RSt E Z a c->RSt E Z b d->RSt E Z (a++b) (c++d)
 | _,_,_,_,.nil,h=>h
 | _,_,_,_,.cons r t,h=>.cons r (RSt.append t h)
theorem RSt.vals:∀{xs:List PV} {vs:List V},RPs E Z xs vs->RSt E Z (xs.map some) (vs.map some)
 | [],_,h=>by cases h;exact .nil
 | _::_,_,⟨v,r,e,h,t⟩=>by subst e;exact .cons ⟨v,rfl,h⟩ (RSt.vals t)
noncomputable def aB(n:Nat)(xs:List PV):PSt:=xs.map some++List.replicate (n-xs.length) none
theorem RSt.start(r:RPs E Z xs vs):RSt E Z (aB N.length xs) (L2.start N vs):=by
 unfold aB L2.start;rw[r.length];exact RSt.append (RSt.vals r) (RSt.nones _)
end
noncomputable abbrev PK1:=PV->Gh->Prop
noncomputable abbrev PTE:=PSt->Gh->PK1->Prop
noncomputable abbrev PTT:=PSt->Gh->(Bool->Gh->Prop)->Prop
noncomputable abbrev PTA:=PSt->Gh->(List PV->Gh->Prop)->Prop
structure eU where
 nx:PSt->Gh->Prop
 rt:PK1
 bk:PSt->Gh->Prop
 ct:PSt->Gh->Prop
noncomputable abbrev PTS:=eU->PSt->Gh->Prop
def Kq(E:Ev)(F Z:Hp)(Q':PK1)(Q:VK):Prop:= ∀x v Z1 G1 H1,aJ Z Z1->Sim E F H1 Z1 G1->RP E Z1 x v->Q' x G1->Q v H1
def KA(E:Ev)(F:Hp)(n:Nat)(Z:Hp)(Q':List PV->Gh->Prop)(Q:List V->Hp->Prop):Prop:= ∀xs vs Z1 G1 H1,xs.length=n->aJ Z Z1->Sim E F H1 Z1 G1->RPs E Z1 xs vs->Q' xs G1->Q vs H1
def KT(E:Ev)(F Z:Hp)(Q':Bool->Gh->Prop)(Q:Bool->Hp->Prop):Prop:= ∀b Z1 G1 H1,aJ Z Z1->Sim E F H1 Z1 G1->Q' b G1->Q b H1
def KSt(E:Ev)(F Z:Hp)(Q':PSt->Gh->Prop)(Q:St->Hp->Prop):Prop:= ∀σ' σ Z1 G1 H1,aJ Z Z1->Sim E F H1 Z1 G1->RSt E Z1 σ' σ->Q' σ' G1->Q σ H1
structure KD(E:Ev)(F Z:Hp)(D':eU)(D:EH):Prop where
 nx:KSt E F Z D'.nx D.nx
 rt:Kq E F Z D'.rt D.rt
 bk:KSt E F Z D'.bk D.bk
 ct:KSt E F Z D'.ct D.ct
theorem Kq.mono{E:Ev}{F Z Z2:Hp}{Q':PK1}{Q:VK}(e:aJ Z Z2)(k:Kq E F Z Q' Q):Kq E F Z2 Q' Q:=λx v Z1 G1 H1 s=>k x v Z1 G1 H1 (e.trans s)
theorem KT.mono{E:Ev}{F Z Z2:Hp}{Q':Bool->Gh->Prop}{Q:Bool->Hp->Prop}(e:aJ Z Z2)(k:KT E F Z Q' Q):KT E F Z2 Q' Q:=λx Z1 G1 H1 s=>k x Z1 G1 H1 (e.trans s)
theorem KSt.mono{E:Ev}{F Z Z2:Hp}{Q':PSt->Gh->Prop}{Q:St->Hp->Prop}(e:aJ Z Z2)(k:KSt E F Z Q' Q):KSt E F Z2 Q' Q:=λx v Z1 G1 H1 s=>k x v Z1 G1 H1 (e.trans s)
theorem KD.mono{E:Ev}{F Z Z2:Hp}{D':eU}{D:EH}(e:aJ Z Z2)(k:KD E F Z D' D):KD E F Z2 D' D:=⟨k.nx.mono e,k.rt.mono e,k.bk.mono e,k.ct.mono e⟩
def low(E:Ev)(F:Hp)(t:PTE):TE:=λσ H Q=>∃σ' Z G Q',RSt E Z σ' σ/\Sim E F H Z G/\t σ' G Q'/\Kq E F Z Q' Q
def AO(E:Ev)(F:Hp)(t:PTT):TT:=λσ H Q=>∃σ' Z G Q',RSt E Z σ' σ/\Sim E F H Z G/\t σ' G Q'/\KT E F Z Q' Q
def xF(E:Ev)(F:Hp)(n:Nat)(t:PTA):TA:=λσ H Q=>∃σ' Z G Q',RSt E Z σ' σ/\Sim E F H Z G/\t σ' G Q'/\KA E F n Z Q' Q
def aFU(E:Ev)(F:Hp)(t:PTS):TS:=λD σ H=>∃σ' Z G D',RSt E Z σ' σ/\Sim E F H Z G/\t D' σ' G/\KD E F Z D' D
noncomputable def aX(G:Gh):PV->Option (List PV)
 | .lst xs=>some xs
 | .ref a=>match G a with
   | some (.lst xs)=>some xs
   | _=>none
 | _=>none
section
variable{E:Ev}{F H Z:Hp}{G:Gh}{x:PV}{v:V}{xs:List PV}
theorem bX(S:Sim E F H Z G)(r:RP E Z x v)(h:aX G x=some xs):∃a vs,v= .ref a/\H a=some (.lst vs)/\RPs E Z xs vs:=by
 cases x with
 | lst ys =>
   cases h;obtain⟨a,vs,e,q,t⟩:=r;exact⟨a,vs,e,S.z _ _ q,t⟩
 | ref a =>
   have e:v= .ref a:=r;subst e;unfold aX at h;dsimp only at h;split at h
   . rename_i ys e;cases h;obtain⟨_,o',q,vs,e',t⟩:=S.g _ _ e;subst e';exact⟨a,vs,rfl,q,t⟩
   . cases h
 | _=>cases h
theorem dN(S:Sim E F H Z G)(r:RP E Z (.tup xs) v):∃a vs,v= .ref a/\SqT E.K H a vs/\RPs E Z xs vs:=by
 obtain⟨a,vs,e,q,t⟩:=r;exact⟨a,vs,e,bM S.z q,t⟩
theorem Kq.here(k:Kq E F Z Q' Q)(S:Sim E F H Z G)(q:Q' x G)(r:RP E Z x v):Q v H:=k x v Z G H (aJ.refl Z) S r q
theorem bF:RP E Z (.int i) (.int i):=rfl
theorem jY:RP E Z (.str i) (.str i):=rfl
theorem bG:RP E Z (.bl i) (.bl i):=rfl
theorem oA:RP E Z .non .non:=rfl
theorem Kq.newZ(k:Kq E F Z Q' Q)(S:Sim E F H Z G)(n:H p=none)(r:RP E (upd Z p o) x (.ref p))(q:Q' x G):Q (.ref p) (upd H p o) :=
 k x (.ref p) (upd Z p o) G _ (bE (S.zn n) o) (S.fz n) r q
theorem jZ(n:Z p=none)(r:RPs E Z xs vs):RP E (upd Z p (.tup vs)) (.tup xs) (.ref p):=⟨p,vs,rfl,SqT.of aS,r.mono (bE n _)⟩
theorem jQ(n:Z p=none)(r:RPs E Z xs vs):RP E (upd Z p (.lst vs)) (.lst xs) (.ref p):=⟨p,vs,rfl,aS,r.mono (bE n _)⟩
end
noncomputable abbrev P2:=PV->PV->Gh->PK1->Prop
def dL(E:Ev)(F:Hp)(p:P2):R2:=λv u H Q=>∃x y Z G Q',RP E Z x v/\RP E Z y u/\Sim E F H Z G/\p x y G Q'/\Kq E F Z Q' Q
def pI(C:Int->Int->Prop)(g:Int->Int->PV):P2:=λx y G Q=>match x,y with
 | .int i,.int j=>C i j/\Q (g i j) G
 | _,_=>False
theorem jU(hg:∀Z i j,RP E Z (g' i j) (g i j))(h:dL E F (pI C g') v u H Q):rI C g v u H Q:=by
 obtain⟨x,y,Z,G,Q',r1,r2,S,q,k⟩:=h;unfold pI at q;split at q
 . obtain⟨c,q⟩:=q;exact⟨_,_,r1,r2,c,k.here S q (hg _ _ _)⟩
 . exact q.elim
def FZ(x y:PV)(G:Gh)(Q:PK1):Prop:=match x,y with
 | .int i,.int j=>Q (.int (i+j)) G
 | .str i,.str j=>i.length+j.length<=sizeLine/\Q (.str (i++j)) G
 | .tup xs,.tup ys=>xs.length+ys.length<=sizeLine/\Q (.tup (xs++ys)) G
 | x,y=>∃xs ys,aX G x=some xs/\aX G y=some ys/\xs.length+ys.length<=sizeLine/\Q (.lst (xs++ys)) G
theorem aCI(r1:RP E Z x v)(r2:RP E Z y u)(S:Sim E F H Z G)(hx:aX G x=some xs)(hy:aX G y=some ys)(hz:xs.length+ys.length<=sizeLine)(q:Q' (.lst (xs++ys)) G)(k:Kq E F Z Q' Q):aI0 v u H Q:=by
 obtain⟨a,vs,rfl,ha,ta⟩:=bX S r1 hx;obtain⟨b,us,rfl,hb,tb⟩:=bX S r2 hy;exact⟨a,b,vs,us,rfl,rfl,ha,hb,by rw[<-ta.length,<-tb.length];exact hz,λp n=>k.newZ S n (jQ (S.zn n) (ta.append tb)) q⟩
def aHG(K:W.Frag):R2:=λx y H Q=>∃a b ys,x= .ref a/\y= .ref b/\SqT K H a []/\SqT K H b ys/\Q (.ref b) H
theorem YX:OpR X (binaryOp .Add) (aHG X.K):=by
 intro j4 s σ H x y v u Q I rx ry h;obtain⟨a,b,ys,rfl,rfl,ha,hb,q⟩:=h;cases rx;cases ry;obtain⟨its,r1,p1,_⟩:=I.tuple ha;obtain⟨its2,r2,p2,_⟩:=I.tuple hb;obtain⟨⟨cls,dd,data,sl⟩,ho,hc,n,hd⟩:=id p1;obtain⟨⟨cls2,dd2,data2,sl2⟩,ho2,hc2,n2,hd2⟩:=id p2;simp only at hc hd hc2 hd2;subst hc hd hc2 hd2;cases r1;exact concat_meets ⟨_,ho,rfl⟩ ⟨_,ho2,rfl⟩ noFill_tuple_add seq_tuple_add PySem.F.slot_tuple_add PySem.F.entry_tuple_add (PySem.F.args_tuple_add_2 _ _)
   (tuple_addW0 a b #[] its2.toArray n n2 dd dd2 sl sl2 rfl) ⟨ho,ho2,⟨.ref b,H,I,rfl,q⟩⟩
section
variable{X:Cx}{E:Ev}{F:Hp}
theorem aB3(hK:E.K=X.K):OpR X (binaryOp .Add) (dL E F FZ):=by
 refine(aHy.or (IG.or ((aCf.or YX).or WY))).imp λv u H Q h=>?_;obtain⟨x,y,Z,G,Q',r1,r2,S,q,k⟩:=h;unfold FZ at q;split at q
 . exact .inl ⟨_,_,r1,r2,k.here S q bF⟩
 . exact .inr (.inl ⟨_,_,r1,r2,q.1,k.here S q.2 jY⟩)
 . rename_i xs ys;have r1':=r1;have r2':=r2;obtain⟨a,vs,rfl,ha,ta⟩:=dN S r1;obtain⟨b,us,rfl,hb,tb⟩:=dN S r2;obtain⟨hz,q⟩:=q;by_cases ev:vs=[]
   . subst ev;have ex:xs=[]:=List.eq_nil_of_length_eq_zero ta.length;subst ex;exact .inr (.inr (.inl (.inr ⟨a,b,us,rfl,rfl,hK▸ha,hK▸hb,k.here S q r2'⟩)))
   . refine .inr (.inr (.inl (.inl ⟨a,b,vs,us,rfl,rfl,hK▸ha,hK▸hb,ev,by rw[<-ta.length,<-tb.length];exact hz,λe=>?_,λ_ p n=>k.newZ S n (jZ (S.zn n) (ta.append tb)) q⟩)));subst e;have ey:ys=[]:=List.eq_nil_of_length_eq_zero tb.length;subst ey;rw[List.append_nil] at q;exact k.here S q r1'
 . obtain⟨xs,ys,hx,hy,hz,q⟩:=q;exact .inr (.inr (.inr (aCI r1 r2 S hx hy hz q k)))
def aC3(_ j:Int):Prop:=0<j
def aGU(x y:PV)(G:Gh)(Q:PK1):Prop:=match x,y with
 | .int i,.int j=>oZ i j/\Q (.int (i*j)) G
 | _,_=>False
noncomputable def xR:Operator->P2
 | .Add=>FZ
 | .Sub=>pI (λ_ _=>True) λi j=>.int (i-j)
 | .Mult=>aGU
 | .FloorDiv=>pI sO λi j=>.int (i/j)
 | .Mod=>pI aC3 λi j=>.int (i%j)
 | .Pow=>pI NO λi j=>.int (i^j.toNat)
 | .LShift=>pI NO λi j=>.int (i*2^j.toNat)
 | _=>λ_ _ _ _=>False
theorem wW(h:rI (λ_ _=>True) g v u H Q):rI0 g v u H Q:=by
 obtain⟨i,j,a,b,_,q⟩:=h;exact⟨i,j,a,b,q⟩
theorem aCp(hK:E.K=X.K):∀(op:Operator),OpR X (binaryOp op) (dL E F (xR op))
 | .Add=>aB3 hK
 | .Sub=>aGx.imp λ_ _ _ _ h=>wW (jU (λ_ _ _=>bF) h)
 | .Mult=>aBe.imp λv u H Q h=>by
   obtain⟨x,y,Z,G,Q',r1,r2,S,q,k⟩:=h
   replace q:aGU x y G Q':=q
   unfold aGU at q;split at q
   . exact⟨_,_,r1,r2,q.1,k.here S q.2 bF⟩
   . exact q.elim
 | .FloorDiv=>YT.imp λ_ _ _ _ h=>jU (λ_ _ _=>bF) h
 | .Mod=>aFI.imp λ_ _ _ _ h=>jU (λ_ _ _=>bF) h
 | .Pow=>aFZ.imp λ_ _ _ _ h=>jU (λ_ _ _=>bF) h
 | .LShift=>aHx.imp λ_ _ _ _ h=>jU (λ_ _ _=>bF) h
 | .Div=>λ_ _ _ _ _ _ _ _ _ _ _ _ h=>(by obtain⟨_,_,_,_,_,_,_,_,q,_⟩:=h;exact q.elim)
 | .RShift=>λ_ _ _ _ _ _ _ _ _ _ _ _ h=>(by obtain⟨_,_,_,_,_,_,_,_,q,_⟩:=h;exact q.elim)
 | .BitOr=>λ_ _ _ _ _ _ _ _ _ _ _ _ h=>(by obtain⟨_,_,_,_,_,_,_,_,q,_⟩:=h;exact q.elim)
 | .BitXor=>λ_ _ _ _ _ _ _ _ _ _ _ _ h=>(by obtain⟨_,_,_,_,_,_,_,_,q,_⟩:=h;exact q.elim)
 | .BitAnd=>λ_ _ _ _ _ _ _ _ _ _ _ _ h=>(by obtain⟨_,_,_,_,_,_,_,_,q,_⟩:=h;exact q.elim)
 | .MatMult=>λ_ _ _ _ _ _ _ _ _ _ _ _ h=>(by obtain⟨_,_,_,_,_,_,_,_,q,_⟩:=h;exact q.elim)
end
mutual
noncomputable def peq:PV->PV->Bool
 | .non,y=>match y with|.non=>true|_=>false
 | .bl a,y=>match y with|.bl b=>a==b|.int j=>(if a then 1 else 0)==j|_=>false
 | .int i,y=>match y with|.int j=>i==j|.bl b=>i==(if b then 1 else 0)|_=>false
 | .str a,y=>match y with|.str b=>a==b|_=>false
 | .tup xs,y=>match y with|.tup ys=>kS xs ys|_=>false
 | .lst xs,y=>match y with|.lst ys=>kS xs ys|_=>false
 | _,_=>false
noncomputable def kS:List PV->List PV->Bool
 | [],ys=>match ys with | []=>true|_=>false
 | x::xs,ys=>match ys with|y::r=>peq x y&&kS xs r | []=>false
end
mutual
noncomputable def dat:PV->Option PyData
 | .non=>some .none
 | .bl b=>some (.bool b)
 | .int i=>some (.int i)
 | .str x=>some (.str x)
 | .tup xs=>match kA xs with|some ds=>some (.tuple ds)|none=>none
 | .lst xs=>match kA xs with|some ds=>some (.list ds)|none=>none
 | _=>none
noncomputable def kA:List PV->Option (List PyData)
 | []=>some []
 | x::xs=>match dat x,kA xs with|some d,some ds=>some (d::ds)|_,_=>none
end
mutual
theorem GS:∀{x y:PV} {d e:PyData},dat x=some d->dat y=some e->PyData.eqv d e=peq x y
 | .non,y,d,e,h,q=>by
   simp only[dat] at h;cases h;cases y<;>simp only[dat] at q<;>(try split at q)<;>cases q<;>simp only[PyData.eqv,peq]
 | .bl _,y,d,e,h,q=>by
   simp only[dat] at h;cases h;cases y<;>simp only[dat] at q<;>(try split at q)<;>cases q<;>simp only[PyData.eqv,peq]
 | .int _,y,d,e,h,q=>by
   simp only[dat] at h;cases h;cases y<;>simp only[dat] at q<;>(try split at q)<;>cases q<;>simp only[PyData.eqv,peq]
 | .str _,y,d,e,h,q=>by
   simp only[dat] at h;cases h;cases y<;>simp only[dat] at q<;>(try split at q)<;>cases q<;>simp only[PyData.eqv,peq]
 | .tup xs,y,d,e,h,q=>by
   simp only[dat] at h;split at h
   . rename_i ds hd;cases h;cases y with
     | tup ys =>
       simp only[dat] at q;split at q
       . rename_i es he;cases q;simp only[PyData.eqv,peq];exact peqs_ok hd he
       . cases q
     | _=>simp only[dat] at q<;>(try split at q)<;>cases q<;>simp only[PyData.eqv,peq]
   . cases h
 | .lst xs,y,d,e,h,q=>by
   simp only[dat] at h;split at h
   . rename_i ds hd;cases h;cases y with
     | lst ys =>
       simp only[dat] at q;split at q
       . rename_i es he;cases q;simp only[PyData.eqv,peq];exact peqs_ok hd he
       . cases q
     | _=>simp only[dat] at q<;>(try split at q)<;>cases q<;>simp only[PyData.eqv,peq]
   . cases h
 | .scr _,y,d,e,h,q=>by simp[dat] at h
 | .ob _ _ _,y,d,e,h,q=>by simp[dat] at h
 | .ref _,y,d,e,h,q=>by simp[dat] at h
 | .ty _,y,d,e,h,q=>by simp[dat] at h
 | .cl _,y,d,e,h,q=>by simp[dat] at h
 | .fn _,y,d,e,h,q=>by simp[dat] at h
 | .emp,y,d,e,h,q=>by simp[dat] at h
 | .dct _ _,y,d,e,h,q=>by simp[dat] at h
 | .exc _ _ _,y,d,e,h,q=>by simp[dat] at h
theorem peqs_ok:∀{xs ys:List PV} {ds es:List PyData},kA xs=some ds->kA ys=some es->PyData.eqvAll ds es=kS xs ys
 | [],[],_,_,h,q=>by simp only[kA] at h q;cases h;cases q;simp only[PyData.eqvAll,kS]
 | [],y::ys,_,_,h,q=>by
   simp only[kA] at h q;cases h;split at q<;>cases q
   simp only[PyData.eqvAll,kS]
 | x::xs,[],_,_,h,q=>by
   simp only[kA] at h q;cases q;split at h<;>cases h
   simp only[PyData.eqvAll,kS]
 | x::xs,y::ys,_,_,h,q=>by
   simp only[kA] at h q;split at h<;>cases h
   rename_i hd hds;split at q<;>cases q
   rename_i he hes;simp only[PyData.eqvAll,kS];rw[GS hd he,peqs_ok hds hes]
end
section
variable{X:Cx}{E:Ev}{j4:List (Addr×Obj)}{σ:L2.St}{F H Z:Hp}{s:J7}
mutual
theorem yG(I:Inv X j4 σ H s)(hK:E.K=X.K)(hz:aJ Z H):∀{x:PV} {v:V} {u:Value} {d:PyData},RP E Z x v->aN v u->dat x=some d->∃as,Reads s.heap u d as
 | .non,v,u,d,r,rv,h=>by
   simp only[dat] at h;cases h;cases(show v= .non from r);cases rv;exact⟨[],.none⟩
 | .bl b,v,u,d,r,rv,h=>by
   simp only[dat] at h;cases h;cases(show v= .bl b from r);cases rv;exact⟨[],.bool b⟩
 | .int i,v,u,d,r,rv,h=>by
   simp only[dat] at h;cases h;cases(show v= .int i from r);obtain⟨t,rfl⟩:=rv;exact⟨[],.int i t⟩
 | .str x,v,u,d,r,rv,h=>by
   simp only[dat] at h;cases h;cases(show v= .str x from r);obtain⟨t,rfl⟩:=rv;exact⟨[],.str x t⟩
 | .tup xs,v,u,d,r,rv,h=>by
   simp only[dat] at h;split at h<;>cases h
   rename_i ds hd;obtain⟨a,vs,rfl,q,t⟩:=r;cases rv;obtain⟨its,rv,ht,_⟩:=I.tuple (hK▸bM hz q);obtain⟨o,ho,hc,n,hd'⟩:=ht;obtain⟨as,q'⟩:=dats_reads I hK hz t rv hd;exact⟨as,.tuple ho hc hd' (by simpa using q')⟩
 | .lst xs,v,u,d,r,rv,h=>by
   simp only[dat] at h;split at h<;>cases h
   rename_i ds hd;obtain⟨a,vs,rfl,q,t⟩:=r;cases rv;obtain⟨_,its,n,rv,ho⟩:=I.hok _ _ (hz _ _ q);obtain⟨as,q'⟩:=dats_reads I hK hz t rv hd;exact⟨_::as,.list ho rfl rfl (by simpa using q')⟩
 | .scr _,v,u,d,r,rv,h=>by simp[dat] at h
 | .ob _ _ _,v,u,d,r,rv,h=>by simp[dat] at h
 | .ref _,v,u,d,r,rv,h=>by simp[dat] at h
 | .ty _,v,u,d,r,rv,h=>by simp[dat] at h
 | .cl _,v,u,d,r,rv,h=>by simp[dat] at h
 | .fn _,v,u,d,r,rv,h=>by simp[dat] at h
 | .emp,v,u,d,r,rv,h=>by simp[dat] at h
 | .dct _ _,v,u,d,r,rv,h=>by simp[dat] at h
 | .exc _ _ _,v,u,d,r,rv,h=>by simp[dat] at h
theorem dats_reads(I:Inv X j4 σ H s)(hK:E.K=X.K)(hz:aJ Z H):∀{xs:List PV} {vs:List V} {us:List Value} {ds:List PyData},RPs E Z xs vs->aI vs us->kA xs=some ds->∃as,ReadsAll s.heap us ds as
 | [],_,_,_,r,rv,h=>by
   simp only[kA] at h;cases h;cases r;cases rv;exact⟨[],.nil⟩
 | x::xs,_,_,_,r,rv,h=>by
   simp only[kA] at h;split at h<;>cases h
   rename_i hd hds;obtain⟨v,r',rfl,r1,r2⟩:=r;cases rv with
   | cons q1 q2 =>
     obtain⟨as,a⟩:=yG I hK hz r1 q1 hd;obtain⟨bs,b⟩:=dats_reads I hK hz r2 q2 hds;exact⟨as++bs,.cons a b⟩
end
mutual
noncomputable def dte:PV->Option PyData
 | .non=>some .none
 | .bl b=>some (.bool b)
 | .int i=>some (.int i)
 | .str x=>some (.str x)
 | .tup xs=>match TU xs with|some ds=>some (.tuple ds)|none=>none
 | .emp=>some (.dict [])
 | _=>none
noncomputable def TU:List PV->Option (List PyData)
 | []=>some []
 | x::xs=>match dte x,TU xs with|some d,some ds=>some (d::ds)|_,_=>none
end
mutual
theorem OE(I:Inv X j4 σ H s)(hK:E.K=X.K)(hz:aJ Z H):∀{x:PV} {v:V} {u:Value} {d:PyData},RP E Z x v->aN v u->dte x=some d->∃as,Reads s.heap u d as/\sysModules∉as
 | .non,v,u,d,r,rv,h=>by
   simp only[dte] at h;cases h;cases(show v= .non from r);cases rv;exact⟨[],.none,by simp⟩
 | .bl b,v,u,d,r,rv,h=>by
   simp only[dte] at h;cases h;cases(show v= .bl b from r);cases rv;exact⟨[],.bool b,by simp⟩
 | .int i,v,u,d,r,rv,h=>by
   simp only[dte] at h;cases h;cases(show v= .int i from r);obtain⟨t,rfl⟩:=rv;exact⟨[],.int i t,by simp⟩
 | .str x,v,u,d,r,rv,h=>by
   simp only[dte] at h;cases h;cases(show v= .str x from r);obtain⟨t,rfl⟩:=rv;exact⟨[],.str x t,by simp⟩
 | .tup xs,v,u,d,r,rv,h=>by
   simp only[dte] at h;split at h<;>cases h
   rename_i ds hd;obtain⟨a,vs,rfl,q,t⟩:=r;cases rv;obtain⟨its,rv,ht,_⟩:=I.tuple (hK▸bM hz q);obtain⟨o,ho,hc,n,hd'⟩:=ht;obtain⟨as,q',na⟩:=dtes_reads I hK hz t rv hd;exact⟨as,.tuple ho hc hd' (by simpa using q'),na⟩
 | .emp,v,u,d,r,rv,h=>by
   simp only[dte] at h;cases h;obtain⟨a,rfl,q⟩:=r;cases rv;obtain⟨_,hs,vs,rel,o,es,ep,ho,⟨hc,hd⟩,hl⟩:=I.hok _ _ (hz _ _ q);have ev:vs=[]:=by cases vs with
     | nil=>rfl
     | cons _ _=>cases rel
   subst ev;obtain⟨hd1,_,hp,_⟩:=hl;have ee:es.toList=[]:=by cases hh:es.toList with
     | nil=>rfl
     | cons _ _=>rw[hh] at hp;cases hp
   exact⟨a::[]++[],.dict ho hc hd1 (kvs:=[]) (by rw[ee];exact .nil) (by rw[ee];exact .nil),by
     simp only[List.append_nil,List.mem_singleton];intro z;subst z;rw[beq_self_eq_true] at hs;cases hs⟩
 | .lst _,v,u,d,r,rv,h=>by simp[dte] at h
 | .scr _,v,u,d,r,rv,h=>by simp[dte] at h
 | .ob _ _ _,v,u,d,r,rv,h=>by simp[dte] at h
 | .ref _,v,u,d,r,rv,h=>by simp[dte] at h
 | .ty _,v,u,d,r,rv,h=>by simp[dte] at h
 | .cl _,v,u,d,r,rv,h=>by simp[dte] at h
 | .fn _,v,u,d,r,rv,h=>by simp[dte] at h
 | .dct _ _,v,u,d,r,rv,h=>by simp[dte] at h
 | .exc _ _ _,v,u,d,r,rv,h=>by simp[dte] at h
theorem dtes_reads(I:Inv X j4 σ H s)(hK:E.K=X.K)(hz:aJ Z H):∀{xs:List PV} {vs:List V} {us:List Value} {ds:List PyData},RPs E Z xs vs->aI vs us->TU xs=some ds->∃as,ReadsAll s.heap us ds as/\sysModules∉as
 | [],_,_,_,r,rv,h=>by
   simp only[TU] at h;cases h;cases r;cases rv;exact⟨[],.nil,by simp⟩
 | x::xs,_,_,_,r,rv,h=>by
   simp only[TU] at h;split at h<;>cases h
   rename_i hd hds;obtain⟨v,r',rfl,r1,r2⟩:=r;cases rv with
   | cons q1 q2 =>
     obtain⟨as,a,na⟩:=OE I hK hz r1 q1 hd;obtain⟨bs,b,nb⟩:=dtes_reads I hK hz r2 q2 hds;exact⟨as++bs,.cons a b,λz=>(List.mem_append.mp z).elim na nb⟩
end
noncomputable def pur(G:Gh):PV->PV
 | .ref a=>match G a with
   | some (.lst xs)=>.lst xs
   | _=>.ref a
 | x=>x
noncomputable def shp(x:PV):Bool:=match dat x with|some d=>SeqAt.shaped d|none=>false
theorem mL(I:Inv X j4 σ H s)(hK:E.K=X.K)(S:Sim E F H Z G)(r:RP E Z x v)(rv:aN v u)(h:dat (pur G x)=some d):∃as,Reads s.heap u d as:=by
 by_cases hx:∃a,x= .ref a
 . obtain⟨a,rfl⟩:=hx;have e:v= .ref a:=r;subst e;cases rv;unfold pur at h;dsimp only at h;split at h
   . rename_i xs e;obtain⟨_,o',q,vs,e',t⟩:=S.g _ _ e;subst e';simp only[dat] at h;split at h<;>cases h
     rename_i ds hd;obtain⟨_,its,n,rv,ho⟩:=I.hok _ _ q;obtain⟨as,q'⟩:=dats_reads I hK S.z t rv hd;exact⟨_::as,.list ho rfl rfl (by simpa using q')⟩
   . simp[dat] at h
 . have e:pur G x=x:=by
     unfold pur;split
     . rename_i a;exact absurd ⟨a,rfl⟩ hx
     . rfl
   rw[e] at h;exact yG I hK S.z r rv h
def pEq(neg:Bool)(x y:PV)(G:Gh)(Q:PK1):Prop:=shp (pur G x)=true/\shp (pur G y)=true/\Q (.bl (if neg then !peq (pur G x) (pur G y) else peq (pur G x) (pur G y))) G
theorem BO(h:shp x=true):∃d,dat x=some d/\SeqAt.shaped d=true:=by
 unfold shp at h;split at h
 . rename_i d e;exact⟨d,e,h⟩
 . cases h
theorem VD(hr:aR k X.A)(hK:E.K=X.K):OpR X (compareOp .Eq) (dL E F (pEq false)):=by
 rintro j4 s σ H v w u u' Q I rx ry ⟨x,y,Z,G,Q',r1,r2,S,⟨hx,hy,q⟩,kq⟩;obtain⟨d,e1,a1⟩:=BO hx;obtain⟨e,e2,a2⟩:=BO hy;obtain⟨as,q1⟩:=mL I hK S r1 rx e1;obtain⟨bs,q2⟩:=mL I hK S r2 ry e2;refine eq_dataH q1 q2 a1 a2 hr.units ⟨.bl _,H,I,rfl,?_⟩;rw[GS e1 e2];exact kq.here S q bG
theorem TY(hr:aR k X.A)(hK:E.K=X.K):OpR X (compareOp .NotEq) (dL E F (pEq true)):=by
 rintro j4 s σ H v w u u' Q I rx ry ⟨x,y,Z,G,Q',r1,r2,S,⟨hx,hy,q⟩,kq⟩;obtain⟨d,e1,a1⟩:=BO hx;obtain⟨e,e2,a2⟩:=BO hy;obtain⟨as,q1⟩:=mL I hK S r1 rx e1;obtain⟨bs,q2⟩:=mL I hK S r2 ry e2;refine ne_dataH q1 q2 a1 a2 hr.units ⟨.bl _,H,I,rfl,?_⟩;rw[GS e1 e2];exact kq.here S q bG
end
section
variable{E:Ev}{F H Z:Hp}{G:Gh}{X:Cx}
theorem RQ(r:RPs E Z xs vs)(h:atI xs i=some x):∃v,atI vs i=some v/\RP E Z x v:=by
 unfold atI at *;rw[<-r.length];cases e:ixN xs.length i with
 | none=>rw[e] at h;cases h
 | some j=>rw[e] at h;exact r.get h
noncomputable def BW:List Key->List PV->Key->Option PV
 | j::ks,x::xs,k=>if j=k then some x else BW ks xs k
 | _,_,_=>none
def mU(x y:PV)(G:Gh)(Q:PK1):Prop:=match x,y with
 | .tup xs,.int i=>∃v,atI xs i=some v/\Q v G
 | .scr ns,.int i=>∃n,atI ns i=some n/\Q (.int n) G
 | .str z,.int i=>z.length<=sizeLine/\∃c,atI z.cps.toList i=some c/\Q (.str ⟨#[c]⟩) G
 | .dct ks xs,.int i=>∃v,BW ks xs (.inl i)=some v/\Q v G
 | .dct ks xs,.str z=>∃v,BW ks xs (.inr z)=some v/\Q v G
 | x,.int i=>∃xs v,aX G x=some xs/\atI xs i=some v/\Q v G
 | _,_=>False
theorem vS:∀{ks:List Key} {xs:List PV} {vs:List V},RPs E Z xs vs->BW ks xs k=some x->∃v,valV (ks.zip vs) k=some v/\RP E Z x v
 | [],_,_,_,h=>by cases h
 | _::_,[],_,_,h=>by cases h
 | j::ks,y::ys,_,⟨v,r,e,r1,r2⟩,h=>by
   subst e;unfold BW at h;rw[List.zip_cons_cons];split at h
   . rename_i ej;cases h;exact⟨v,wG ej,r1⟩
   . rename_i ej;rw[vN ej];exact vS (ks:=ks) r2 h
theorem aBT{α β:Type}{f:α->β}{xs:List α}{i:Int}{x:α}(h:atI xs i=some x):atI (xs.map f) i=some (f x):=by
 unfold atI at *;rw[List.length_map];cases e:ixN xs.length i with
 | none=>rw[e] at h;cases h
 | some j =>
   rw[e] at h;have h':xs[j]? =some x:=h;show(xs.map f)[j]? =some (f x);rw[List.getElem?_map,h'];rfl
theorem aGp(hr:aR k X.A)(hK:E.K=X.K):IxR X (dL E F mU):=by
 refine(aEZ.or (aCg hr)).imp λv u H Q h=>?_;obtain⟨x,y,Z,G,Q',r1,r2,S,q,k⟩:=h;unfold mU at q;split at q
 . obtain⟨y,e,q⟩:=q;obtain⟨a,vs,rfl,ha,ta⟩:=dN S r1;obtain⟨w,e',rw'⟩:=RQ ta e;exact .inl (.inr (.inl ⟨a,vs,_,w,rfl,r2,hK▸ha,e',k.here S q rw'⟩))
 . obtain⟨n,e,q⟩:=q;obtain⟨a,rfl,ha⟩:=r1;exact .inl (.inl ⟨a,_,_,_,rfl,r2,hK▸S.z.seq ha,aBT e,k.here S q bF⟩)
 . obtain⟨hz,c,e,q⟩:=q;exact .inl (.inr (.inr ⟨_,_,c,r1,r2,hz,e,k.here S q jY⟩))
 . obtain⟨y,e,q⟩:=q;obtain⟨a,vs,rfl,ha,_,ta⟩:=r1;obtain⟨w,e',rw'⟩:=vS ta e;have r2:u=kV (.inl _):=r2;rw[r2];refine .inr ⟨a,w,rfl,?_,k.here S q rw'⟩;rw[<-e'];exact .k (S.z _ _ ha)
 . obtain⟨y,e,q⟩:=q;obtain⟨a,vs,rfl,ha,_,ta⟩:=r1;obtain⟨w,e',rw'⟩:=vS ta e;have r2:u=kV (.inr _):=r2;rw[r2];refine .inr ⟨a,w,rfl,?_,k.here S q rw'⟩;rw[<-e'];exact .k (S.z _ _ ha)
 . obtain⟨xs,y,e0,e,q⟩:=q;obtain⟨a,vs,rfl,ha,ta⟩:=bX S r1 e0;obtain⟨w,e',rw'⟩:=RQ ta e;exact .inl (.inl ⟨a,vs,_,w,rfl,r2,SqL.of ha,e',k.here S q rw'⟩)
 . exact q.elim
def aBC(o i v:PV)(G:Gh)(Q:Gh->Prop):Prop:= ∃a xs k j,o= .ref a/\i= .int k/\G a=some (.lst xs)/\ixN xs.length k=some j/\Q (gup G a (.lst (xs.set j v)))
noncomputable def aEQ(E:Ev)(F:Hp)(p:PV->PV->PV->Gh->(Gh->Prop)->Prop):aCk:=λo i v H Q=>∃o' i' v' Z G Q',RP E Z o' o/\RP E Z i' i/\RP E Z v' v/\Sim E F H Z G/\p o' i' v' G Q'/\∀G1 H1,Sim E F H1 Z G1->Q' G1->Q H1
theorem aCz:aGh X (aEQ E F aBC):=by
 rintro j4 s σ H o i v ov iv u Q I ro ri rv ⟨o',i',v',Z,G,Q',r1,r2,r3,S,⟨a,xs,k,j,e1,e2,hG,ix,q⟩,kq⟩;subst e1 e2;have e1:o= .ref a:=r1;have e2:i= .int k:=r2;subst e1 e2;obtain⟨_,o',hH,vs,e,t⟩:=S.g _ _ hG;subst e;exact QZ j4 s σ H (.ref a) (.int k) v ov iv u Q I ro ri rv ⟨a,vs,k,j,rfl,rfl,hH,by rw[<-t.length];exact ix,kq _ _ (S.set (go:=.lst (xs.set j v')) hG ⟨_,rfl,t.set r3 j⟩) q⟩
noncomputable def pN(xs:List PV)(lo hi:Option Int):List PV:=(xs.drop (HT.sIx xs.length 0 lo)).take (HT.sIx xs.length xs.length hi-HT.sIx xs.length 0 lo)
theorem FV{xs:List PV}{lo hi:Option Int}(r:RPs E Z xs vs):RPs E Z (pN xs lo hi) (DV vs lo hi):=by
 unfold pN DV;rw[r.length];exact(r.drop _).take _
def OD(x:PV)(lo hi:Option Int)(G:Gh)(Q:PK1):Prop:=match x with
 | .tup xs=>Q (.tup (pN xs lo hi)) G
 | .scr ns=>Q (.lst (pN (ns.map .int) lo hi)) G
 | x=>∃xs,aX G x=some xs/\Q (.lst (pN xs lo hi)) G
noncomputable def aJT(E:Ev)(F:Hp)(p:PV->Option Int->Option Int->Gh->PK1->Prop):V->Option Int->Option Int->Hp->VK->Prop:=λv lo hi H Q=>∃x Z G Q',RP E Z x v/\Sim E F H Z G/\p x lo hi G Q'/\Kq E F Z Q' Q
theorem SlR.imp{r r':V->Option Int->Option Int->Hp->VK->Prop}(h:SlR X r)(f:∀x l u H Q,r' x l u H Q->r x l u H Q):SlR X r':=λj4 s σ H x v vl vu lo hi sl Q I rx hs pl pu q=>h j4 s σ H x v vl vu lo hi sl Q I rx hs pl pu (f _ _ _ _ _ q)
theorem aGb(hK:E.K=X.K):SlR X (aJT E F OD):=by
 refine SlR.imp (SlR.or (SlR.or aHd aBD) aBp) λv lo hi H Q h=>?_;obtain⟨x,Z,G,Q',r1,S,q,k⟩:=h;unfold OD at q;split at q
 . rename_i xs;have r0:=r1;obtain⟨a,vs,rfl,ha,ta⟩:=dN S r1;by_cases w:HT.sIx vs.length 0 lo=0/\HT.sIx vs.length vs.length hi=vs.length
   . refine .inl (.inr ⟨a,vs,rfl,hK▸ha,w,?_⟩);have e:pN xs lo hi=xs:=by
       unfold pN;rw[ta.length,w.1,w.2,List.drop_zero,Nat.sub_zero,<-ta.length,List.take_length]
     rw[e] at q;exact k _ _ _ _ _ (aJ.refl _) S r0 q
   . exact .inl (.inl ⟨a,vs,rfl,hK▸ha,w,λp n=>k.newZ S n (jZ (S.zn n) (FV ta)) q⟩)
 . obtain⟨a,rfl,ha⟩:=r1;exact .inr ⟨a,_,rfl,hK▸S.z.seq ha,λp n=>k.newZ S n (jQ (S.zn n) (FV (RPs.ofInts _))) q⟩
 . obtain⟨xs,e0,q⟩:=q;obtain⟨a,vs,rfl,ha,ta⟩:=bX S r1 e0;exact .inr ⟨a,vs,rfl,SqL.of ha,λp n=>k.newZ S n (jQ (S.zn n) (FV ta)) q⟩
def rL(x:PV)(G:Gh)(Q:Bool->Gh->Prop):Prop:=match x with
 | .non=>Q false G
 | .bl b=>Q b G
 | .int i=>Q (i !=0) G
 | .str y=>y.length<=sizeLine/\Q ((y.length:Int)!=0) G
 | .tup xs=>Q (!xs.isEmpty) G
 | x=>∃xs,aX G x=some xs/\Q (!xs.isEmpty) G
theorem yB(r:RPs E Z xs vs):xs.isEmpty=vs.isEmpty:=by
 cases xs with
 | nil=>cases r;rfl
 | cons x xs=>obtain⟨_,_,e,_,_⟩:=r;subst e;rfl
theorem rB(hK:E.K=X.K)(S:Sim E F H Z G)(r:RP E Z x v)(q:rL x G Q'):∃b,QP X.K v H b/\Q' b G:=by
 unfold rL at q;split at q
 . cases(show v= .non from r);exact⟨_,rfl,q⟩
 . cases(show v= .bl _ from r);exact⟨_,rfl,q⟩
 . cases(show v= .int _ from r);exact⟨_,rfl,q⟩
 . cases(show v= .str _ from r);exact⟨_,⟨q.1,rfl⟩,q.2⟩
 . obtain⟨a,vs,rfl,ha,ta⟩:=dN S r;exact⟨_,.inr (.inl ⟨vs,hK▸ha,by rw[yB ta]⟩),q⟩
 . obtain⟨xs,e0,q⟩:=q;obtain⟨a,vs,rfl,ha,ta⟩:=bX S r e0;exact⟨_,.inl ⟨vs,SqL.of ha,by rw[yB ta]⟩,q⟩
inductive Bn where
 | len|abs|max|min|int|str|isi|tuple|list|all|any|sum|bool|repr|divmod
 deriving DecidableEq
noncomputable abbrev Sp3:=List PV->Gh->PK1->Prop
noncomputable def TR(E:Ev)(F:Hp)(p:List PV->Gh->PK1->Prop):List V->Hp->VK->Prop:=λvs H Q=>∃xs Z G Q',RPs E Z xs vs/\Sim E F H Z G/\p xs G Q'/\Kq E F Z Q' Q
noncomputable def nX:PV->Gh->Option J8
 | .non,_=>some "NoneType"
 | .bl _,_=>some "bool"
 | .int _,_=>some "int"
 | .str _,_=>some "str"
 | .tup _,_=>some "tuple"
 | .lst _,_=>some "list"
 | .emp,_=>some "dict"
 | .dct _ _,_=>some "dict"
 | .ref a,G=>match G a with
   | some (.lst _)=>some "list"
   | _=>none
 | _,_=>none
noncomputable def PL:PV->Gh->Option J8
 | .ob c _ _,_=>some c
 | .ref a,G=>match G a with
   | some (.ins c _ _)=>some c
   | _=>none
 | _,_=>none
structure YC(E:Ev)(cs:List J8):Prop where
 own:∀c∈cs,VP E.K (E.cls c)
 plain:∀c∈cs,∀n∈QO,W.kitOne E.K (.type n) (.ref (E.cls c))=some false
 other:∀c∈cs,∀T∈mS,W.kitOne E.K (.ref (E.cls c)) (.type T)=some false
 apart:∀c∈cs,∀c'∈cs,c≠c'->W.kitOne E.K (.ref (E.cls c)) (.ref (E.cls c'))=some false
noncomputable def zJ:List PV->Option Bool
 | []=>some true
 | .bl b::r=>(zJ r).map (b&&·)
 | _::_=>none
noncomputable def GY:List PV->Option Bool
 | []=>some false
 | .bl b::r=>(GY r).map (b||·)
 | _::_=>none
theorem MU:∀{xs:List PV} {b:Bool},zJ xs=some b->∃bs:List Bool,xs=bs.map PV.bl/\b=bs.all id
 | [],b,h=>by cases h;exact⟨[],rfl,rfl⟩
 | x::r,b,h=>by
   cases x with
   | bl c =>
     unfold zJ at h;cases e:zJ r with
     | none=>rw[e] at h;cases h
     | some d =>
       rw[e] at h;cases h;obtain⟨bs,e1,e2⟩:=MU e;exact⟨c::bs,by rw[e1];rfl,by rw[e2];rfl⟩
   | _=>cases h
theorem LN:∀{xs:List PV} {b:Bool},GY xs=some b->∃bs:List Bool,xs=bs.map PV.bl/\b=bs.any id
 | [],b,h=>by cases h;exact⟨[],rfl,rfl⟩
 | x::r,b,h=>by
   cases x with
   | bl c =>
     unfold GY at h;cases e:GY r with
     | none=>rw[e] at h;cases h
     | some d =>
       rw[e] at h;cases h;obtain⟨bs,e1,e2⟩:=LN e;exact⟨c::bs,by rw[e1];rfl,by rw[e2];rfl⟩
   | _=>cases h
theorem RPs.bools:∀{bs:List Bool} {vs:List V},RPs E Z (bs.map PV.bl) vs->vs=bs.map V.bl
 | [],_,h=>h
 | _::_,_,⟨v,r,e1,h,t⟩=>by
   have h':v=V.bl _:=h;subst e1 h';rw[RPs.bools t];rfl
noncomputable def cT(cs:List J8):Bn->List PV->Gh->PK1->Prop
 | .len,[x],G,Q=>(∃xs,x= .tup xs/\Q (.int xs.length) G)∨(∃ns,x= .scr ns/\Q (.int ns.length) G)∨(∃z,x= .str z/\z.length<=sizeLine/\Q (.int z.length) G)∨∃xs,aX G x=some xs/\Q (.int xs.length) G
 | .abs,[.int i],G,Q=>Q (.int (i.natAbs:Int)) G
 | .max,[.int i,.int j],G,Q=>Q (.int (max i j)) G
 | .min,[.int i,.int j],G,Q=>Q (.int (min i j)) G
 | .int,[.int i],G,Q=>Q (.int i) G
 | .int,[.bl b],G,Q=>Q (.int (if b then 1 else 0)) G
 | .str,[.int i],G,Q=>i.natAbs.log2<1920/\Q (.str (toString i)) G
 | .isi,[x,.ty T],G,Q=>T∈mS/\((∃n,nX x G=some n/\Q (.bl (tQ n T)) G)∨∃c,PL x G=some c/\c∈cs/\Q (.bl false) G)
 | .isi,[x,.cl c],G,Q=>c∈cs/\((∃n,nX x G=some n/\Q (.bl false) G)∨∃c',PL x G=some c'/\c'∈cs/\Q (.bl (decide (c'=c))) G)
 | .tuple,[x],G,Q=>(∃xs,x= .tup xs/\Q x G)∨∃xs,aX G x=some xs/\Q (.tup xs) G
 | .all,[x],G,Q=>∃xs b,aX G x=some xs/\zJ xs=some b/\Q (.bl b) G
 | .any,[x],G,Q=>∃xs b,aX G x=some xs/\GY xs=some b/\Q (.bl b) G
 | _,_,_,_=>False
noncomputable def aAk:Bn->Value
 | .len=>.builtin "len"
 | .abs=>.builtin "abs"
 | .max=>.builtin "max"
 | .min=>.builtin "min"
 | .int=>.type "int"
 | .str=>.type "str"
 | .isi=>.builtin "isinstance"
 | .tuple=>.type "tuple"
 | .list=>.type "list"
 | .all=>.builtin "all"
 | .any=>.builtin "any"
 | .sum=>.builtin "sum"
 | .bool=>.type "bool"
 | .repr=>.builtin "repr"
 | .divmod=>.builtin "divmod"
theorem zQ(r:RPs E Z [x] vs):∃v,vs=[v]/\RP E Z x v:=by
 obtain⟨v,t,e,r1,r2⟩:=r;have e2:t=[]:=r2;subst e2;exact⟨v,e,r1⟩
theorem aB1(r:RPs E Z [x,y] vs):∃v u,vs=[v,u]/\RP E Z x v/\RP E Z y u:=by
 obtain⟨v,t,e,r1,u,t',e',r2,r3⟩:=r;have e2:t'=[]:=r3;subst e2 e';exact⟨v,u,e,r1,r2⟩
theorem zU(S:Sim E F H Z G)(r:RP E Z x v)(h:nX x G=some n):n∈QO/\(tyN H v=some n∨(n="tuple"/\∃a vs,v= .ref a/\SqT E.K H a vs)):=by
 cases x with
 | non=>cases h;cases(show v= .non from r);exact⟨by decide,.inl rfl⟩
 | bl b=>cases h;cases(show v= .bl b from r);exact⟨by decide,.inl rfl⟩
 | int b=>cases h;cases(show v= .int b from r);exact⟨by decide,.inl rfl⟩
 | str b=>cases h;cases(show v= .str b from r);exact⟨by decide,.inl rfl⟩
 | tup xs =>
   cases h;obtain⟨a,vs,rfl,ha,_⟩:=dN S r;exact⟨by decide,.inr ⟨rfl,a,vs,rfl,ha⟩⟩
 | lst xs =>
   cases h;obtain⟨a,vs,rfl,ha,_⟩:=bX (xs:=xs) S r rfl;exact⟨by decide,.inl (by simp only[tyN,ha])⟩
 | emp =>
   cases h;obtain⟨a,rfl,ha⟩:=r;exact⟨by decide,.inl (by simp only[tyN,S.z _ _ ha])⟩
 | dct ks xs =>
   cases h;obtain⟨a,vs,rfl,ha,_,_⟩:=r;exact⟨by decide,.inl (by simp only[tyN,S.z _ _ ha])⟩
 | ref a =>
   unfold nX at h;dsimp only at h;split at h
   . rename_i xs e;cases h;obtain⟨a',vs,rfl,ha,_⟩:=bX (xs:=xs) S r (by unfold aX;dsimp only;rw[e]);exact⟨by decide,.inl (by simp only[tyN,ha])⟩
   . cases h
 | _=>cases h
theorem MJ{j4:List (Addr×Obj)}{σ:L2.St}{x:PV}{n:J8}(hK:E.K=X.K)(I:Inv X j4 σ H s)(S:Sim E F H Z G)(r:RP E Z x v)(rv:aN v u)(h:nX x G=some n)
   (e:W.kitOne X.K (.type n) c=some b) (q:Q (.bl b) H):wpAny (model X.prog X.w) X.A (call (.builtin "isinstance") [u,c]) (EP X j4 σ Q) X.xe s:=by
 obtain⟨_,t|⟨hn,a,vs,hv,ha⟩⟩:=zU S r h
 . exact xV I rv (aFg t) e λtk=>⟨.bl b,H,I.tok tk,rfl,q⟩
 . subst hn hv;cases rv;obtain⟨its,_,⟨o,h1,h2,_⟩,_⟩:=I.tuple (hK▸ha);exact W.kia_one W.kitx_tuple I.kIn ⟨o,h1,h2⟩ e (λz=>nomatch z) λtk=>⟨.bl b,H,I.tok tk,rfl,q⟩
theorem aAI(S:Sim E F H Z G)(r:RP E Z x v)(h:PL x G=some c):∃a dx fs,v= .ref a/\H a=some (.ins (E.cls c) dx fs):=by
 cases x with
 | ob c' ns xs =>
   cases h;obtain⟨a,dx,vs,rfl,q,_,_⟩:=r;exact⟨a,dx,_,rfl,S.z _ _ q⟩
 | ref a =>
   unfold PL at h;dsimp only at h;split at h
   . rename_i c' ns xs e;cases h;have e1:v= .ref a:=r;subst e1;obtain⟨_,o',q,dx,vs,e',_,_⟩:=S.g _ _ e;subst e';exact⟨a,dx,_,rfl,q⟩
   . cases h
 | _=>cases h
theorem BT{j4:List (Addr×Obj)}{σ:L2.St}{s:J7}{x:PV}{v:V}{u t:Value}{c:J8}{b:Bool}{Q:VK}(hK:E.K=X.K)(I:Inv X j4 σ H s)(S:Sim E F H Z G)(r:RP E Z x v)(rv:aN v u)(h:PL x G=some c)(O:VP E.K (E.cls c))
   (e:W.kitOne X.K (.ref (E.cls c)) t=some b) (q:Q (.bl b) H):wpAny (model X.prog X.w) X.A (call (.builtin "isinstance") [u,t]) (EP X j4 σ Q) X.xe s:=by
 obtain⟨a,dx,fs,rfl,ha⟩:=aAI S r h;have O:VP X.K (E.cls c):=hK▸O;exact xV I rv (.ins ha O.cl O.ha O.hn O.htk O.hm) e λtk=>⟨.bl b,H,I.tok tk,rfl,q⟩
theorem bC.or(h:bC X f r)(h':bC X f r'):bC X f (λxs H Q=>r xs H Q∨r' xs H Q):=by
 intro j4 s σ H xs us Q I rs q;rcases q with q|q
 . exact h j4 s σ H xs us Q I rs q
 . exact h' j4 s σ H xs us Q I rs q
theorem noC(h:∀xs G Q,¬p xs G Q):bC X f (TR E F p):=by rintro _ _ _ _ _ _ _ _ _ ⟨_,_,_,_,_,_,q,_⟩;exact absurd q (h _ _ _)
noncomputable def QM:Bn->Bool
 | .max=>true
 | .min=>true
 | .all=>true
 | .any=>true
 | .sum=>true
 | .len=>false
 | .abs=>false
 | .int=>false
 | .str=>false
 | .isi=>false
 | .tuple=>false
 | .list=>false
 | .bool=>false
 | .repr=>false
 | .divmod=>false
theorem MP(hK:E.K=X.K)(C:YC E cs):∀b,(QM b=true->X.calm=true)->bC X (aAk b) (TR E F (cT cs b))
 | .len,hc=>by
   refine(bC.or BN zI).imp λvs H Q h=>?_;obtain⟨xs,Z,G,Q',r,S,q,k⟩:=h
   match xs,q with
   | [x],q =>
     obtain⟨v,rfl,rr⟩:=zQ r;rcases q with ⟨ys,rfl,q⟩|⟨ns,rfl,q⟩|⟨z,rfl,hz,q⟩|⟨ys,e,q⟩
     . obtain⟨a,vs,rfl,ha,ta⟩:=dN S rr;exact .inl ⟨a,vs,rfl,.inr (hK▸ha),k.here S q (by rw[ta.length];exact bF)⟩
     . obtain⟨a,rfl,ha⟩:=rr;exact .inl ⟨a,_,rfl,.inl (hK▸S.z.seq ha),k.here S q (by rw[List.length_map];exact bF)⟩
     . exact .inr ⟨z,by rw[show v= .str z from rr],hz,k.here S q bF⟩
     . obtain⟨a,vs,rfl,ha,ta⟩:=bX S rr e;exact .inl ⟨a,vs,rfl,.inl (SqL.of ha),k.here S q (by rw[ta.length];exact bF)⟩
 | .abs,hc=>by
   refine OR.imp λvs H Q h=>?_;obtain⟨xs,Z,G,Q',r,S,q,k⟩:=h
   match xs,q with
   | [.int i],q =>
     obtain⟨v,rfl,rr⟩:=zQ r;exact⟨i,by rw[show v= .int i from rr],k.here S q bF⟩
 | .max,hc=>by
   refine(OK (hc rfl)).imp λvs H Q h=>?_;obtain⟨xs,Z,G,Q',r,S,q,k⟩:=h
   match xs,q with
   | [.int i,.int j],q =>
     obtain⟨v,u,rfl,r1,r2⟩:=aB1 r;have e:max i j=if j>i then j else i:=by split<;>omega
     exact⟨i,j,by rw[show v= .int i from r1,show u= .int j from r2],k.here S q (by rw[e];exact bF)⟩
 | .min,hc=>by
   refine(NF (hc rfl)).imp λvs H Q h=>?_;obtain⟨xs,Z,G,Q',r,S,q,k⟩:=h
   match xs,q with
   | [.int i,.int j],q =>
     obtain⟨v,u,rfl,r1,r2⟩:=aB1 r;have e:min i j=if j<i then j else i:=by split<;>omega
     exact⟨i,j,by rw[show v= .int i from r1,show u= .int j from r2],k.here S q (by rw[e];exact bF)⟩
 | .int,hc=>by
   refine NA.imp λvs H Q h=>?_;obtain⟨xs,Z,G,Q',r,S,q,k⟩:=h
   match xs,q with
   | [.int i],q =>
     obtain⟨v,rfl,rr⟩:=zQ r;exact .inl ⟨i,by rw[show v= .int i from rr],k.here S q bF⟩
   | [.bl i],q =>
     obtain⟨v,rfl,rr⟩:=zQ r;exact .inr ⟨i,by rw[show v= .bl i from rr],k.here S q bF⟩
 | .str,hc=>by
   refine AE.imp λvs H Q h=>?_;obtain⟨xs,Z,G,Q',r,S,q,k⟩:=h
   match xs,q with
   | [.int i],q =>
     obtain⟨v,rfl,rr⟩:=zQ r;exact⟨i,by rw[show v= .int i from rr],q.1,k.here S q.2 jY⟩
 | .isi,hc=>by
   intro j4 s σ H vs us Q I rv h;obtain⟨xs,Z,G,Q',r,S,q,k⟩:=h
   match xs,q with
   | [x,.ty T],q =>
     obtain⟨v,w',rfl,r1,r2⟩:=aB1 r;obtain⟨u,u',rfl,rv1,rv2⟩:=KE rv;have e:w'= .ty T:=r2;subst e;have e2:u'= .type T:=rv2;subst e2;obtain⟨hT,⟨n,hn,q⟩|⟨c,hcn,hcs,q⟩⟩:=q
     . exact MJ hK I S r1 rv1 hn (aHo X.K n (zU S r1 hn).1 T hT) (k.here S q bG)
     . exact BT hK I S r1 rv1 hcn (C.own c hcs) (hK▸C.other c hcs T hT) (k.here S q bG)
   | [x,.cl c],q =>
     obtain⟨v,w',rfl,r1,r2⟩:=aB1 r;obtain⟨u,u',rfl,rv1,rv2⟩:=KE rv;have e:w'= .ref (E.cls c):=r2;subst e;have e2:u'= .ref (E.cls c):=rv2;subst e2;obtain⟨hcs,⟨n,hn,q⟩|⟨c',hcn,hcs',q⟩⟩:=q
     . exact MJ hK I S r1 rv1 hn (hK▸C.plain c hcs n (zU S r1 hn).1) (k.here S q bG)
     . by_cases e:c'=c
       . subst e;rw[decide_eq_true rfl] at q;exact BT hK I S r1 rv1 hcn (C.own _ hcs') (by unfold W.kitOne;rw[jd (beq_self_eq_true _)]) (k.here S q bG)
       . rw[decide_eq_false e] at q;exact BT hK I S r1 rv1 hcn (C.own _ hcs') (hK▸C.apart c' hcs' c hcs e) (k.here S q bG)
 | .tuple,hc=>by
   refine wY.imp λvs H Q h=>?_;obtain⟨xs,Z,G,Q',r,S,q,k⟩:=h
   match xs,q with
   | [x],q =>
     obtain⟨v,rfl,rr⟩:=zQ r;rcases q with ⟨ys,rfl,q⟩|⟨ys,e,q⟩
     . obtain⟨a,vs,e,ha,ta⟩:=dN S rr;subst e;exact⟨a,vs,rfl,.inr ⟨hK▸ha,k.here S q rr⟩⟩
     . obtain⟨a,vs,rfl,ha,ta⟩:=bX S rr e;exact⟨a,vs,rfl,.inl ⟨SqL.of ha,λl n=>k.newZ S n (jZ (S.zn n) ta) q⟩⟩
 | .list,hc=>noC λxs G Q q=>by unfold cT at q;exact q
 | .divmod,hc=>noC λxs G Q q=>by unfold cT at q;exact q
 | .all,hc=>by
   refine(OI (hc rfl)).imp λvs H Q h=>?_;obtain⟨xs,Z,G,Q',r,S,q,k⟩:=h
   match xs,q with
   | [x],q =>
     obtain⟨v,rfl,rr⟩:=zQ r;obtain⟨ys,b,e,eb,q⟩:=q;obtain⟨bs,e1,e2⟩:=MU eb;subst e1 e2;obtain⟨a,vs,rfl,ha,ta⟩:=bX S rr e;exact⟨a,bs,rfl,by rw[<-ta.bools];exact ha,k.here S q bG⟩
 | .any,hc=>by
   refine(QQ (hc rfl)).imp λvs H Q h=>?_;obtain⟨xs,Z,G,Q',r,S,q,k⟩:=h
   match xs,q with
   | [x],q =>
     obtain⟨v,rfl,rr⟩:=zQ r;obtain⟨ys,b,e,eb,q⟩:=q;obtain⟨bs,e1,e2⟩:=LN eb;subst e1 e2;obtain⟨a,vs,rfl,ha,ta⟩:=bX S rr e;exact⟨a,bs,rfl,by rw[<-ta.bools];exact ha,k.here S q bG⟩
 | .sum,hc=>noC λxs G Q q=>by unfold cT at q;exact q
 | .bool,hc=>noC λxs G Q q=>by unfold cT at q;exact q
 | .repr,hc=>noC λxs G Q q=>by unfold cT at q;exact q
end
inductive Ar where
 | arg (i:Nat)|non|bl (b:Bool)|int (i:Int)|str (x:Str)
 deriving DecidableEq
noncomputable def Ar.val(xs:List PV):Ar->PV
 | .arg i=>xs.getD i .non
 | .non=>.non
 | .bl b=>.bl b
 | .int i=>.int i
 | .str x=>.str x
inductive CE where
 | var (i:Nat)|int (i:Int)|bl (b:Bool)|non|str (x:Str)|glo (x:Str)
 | bin (op:Operator) (a b:CE)|neg (a:CE)|no (a:CE)
 | cmp (op:CmpOp) (a b:CE)|chn (op op':CmpOp) (a b c:CE)
 | an (a b:CE)|oo (a b:CE)|tst (a:CE)|tsb (a:CE)
 | tup (es:CE)|lst (m:Bool) (es:CE)|nil|cons (a b:CE)
 | idx (a i:CE)|sli (a lo hi:CE)|rev (a:CE)|att (a:CE) (f:Str)
 | cal (f:Str) (es:CE)|cak (f:Str) (es ks:CE) (ar:List Ar)|blt (b:Bn) (es:CE)|app (a e:CE)
 | cmpr (m:Bool) (tg it ts el:CE) (js:List (Option Nat))
 | isq (e:CE)|irg (es:CE)|ien (e:CE)|izp (es:CE)
 | gn (i:Nat)|gt (n:Nat) (gs:CE)
 | ceq (eqs:List (J8×Str)) (a b:CE)|emp|dct (es:CE)|bow (b:Bn) (ls:List (J8×Str)) (es:CE)|joi (a e:CE)|fst (es:CE)|ladd (a b:CE)|gl (n:Nat) (gs:CE)|cex (op:CmpOp) (eqs:List (J8×Str)) (a b:CE)|gix (ks:List (Str×Str)) (e:CE)|gin (neg:Bool) (ks:List (Str×Str)) (e:CE)|cav (fs:List (Str×Nat×List Ar)) (i:Nat) (es:CE)|isx (a:CE) (n:Str)|atx (a:CE) (f:Str)|cnt (a e:CE)|bln (a:CE)|met (m:Str) (ls:List (J8×Str×List Ar)) (a es:CE)|pol (a:CE)|rvs (a:CE)|lco (a:CE)|lnr (a:CE)|teq (c:J8) (m:Str) (a b:CE)|tso (ls:List (J8×Str)) (a:CE)|isn (a:CE) (ns:List Str)|rpw (ls:List (J8×Str)) (e:CE)
inductive CS where
 | nil|seq (a b:CS)|ex (e:CE)|asg (g e:CE)|par (i j:Nat) (a b:CE)|par3 (i j l:Nat) (a b c:CE)|sub (o i e:CE)|fld (o:CE) (f:Str) (e:CE)|fda (o:CE) (f:Str) (e:CE)
 | iff (c:CE) (a b:CS)|wh (c:CE) (b:CS)|fr (g it:CE) (b:CS)|ret (e:CE)|retN|nev
 | tri (b:CS) (i:Nat) (cs:List J8)|trh (b:CS) (j:Nat) (h:CS) (cs:List J8)
local macro_rules|`(%[$x|_])=>`(CE.cons $x CE.nil)|`(%[$x,$y,*|_])=>`(CE.cons $x %[$y,*|_])
structure Tb where
 S:Str->Sp3
 gv:Str->PV
 cs:List J8
 fl:List (J8×Str)
 fam:PX->Str->Sp3:=λ_ _ _ _ _=>False
 xp:PX:=λ_ _ _ _=>False
 xi:List (J8×Str×Bool):=[]
 fx:List (J8×Str):=[]
noncomputable abbrev Tb.at(T:Tb)(x:PX):Tb:={T with S:=T.fam x,xp:=x}
def aBR(x:PV)(G:Gh)(Q:PK1):Prop:=match x with
 | .int i=>Q (.int (-i)) G
 | _=>False
def pIs(neg:Bool)(x y:PV)(G:Gh)(Q:PK1):Prop:=match y with
 | .non=>(x= .non/\Q (.bl (!neg)) G)∨(x≠.non/\Q (.bl neg) G)
 | .bl b=>∃c,x= .bl c/\Q (.bl (if neg then !(c==b) else c==b)) G
 | _=>False
noncomputable def flP:PV->Bool
 | .non=>true
 | .bl _=>true
 | .int _=>true
 | .str _=>true
 | _=>false
def pIn(neg:Bool)(x y:PV)(G:Gh)(Q:PK1):Prop:= ∃xs,(y= .tup xs∨aX G y=some xs)/\flP x=true/\xs.all flP=true/\Q (.bl (if neg=true then !(xs.any λz=>peq z x) else xs.any λz=>peq z x)) G
noncomputable def lA:CmpOp->P2
 | .Lt=>pI (λ_ _=>True) λi j=>.bl (decide (i<j))
 | .LtE=>pI (λ_ _=>True) λi j=>.bl (decide (i<=j))
 | .Gt=>pI (λ_ _=>True) λi j=>.bl (decide (j<i))
 | .GtE=>pI (λ_ _=>True) λi j=>.bl (decide (j<=i))
 | .Eq=>pEq false
 | .NotEq=>pEq true
 | .Is=>pIs false
 | .IsNot=>pIs true
 | .In=>pIn false
 | .NotIn=>pIn true
def EB(T:Tb)(x:PV)(f:Str)(G:Gh)(Q:PK1):Prop:= ∃c ns xs v,(x= .ob c ns xs∨∃a,x= .ref a/\G a=some (.ins c ns xs))/\(c,f)∈T.fl/\(ns.zip xs).lookup f=some v/\Q v G
noncomputable abbrev PTG:=PV->PSt->Gh->(PSt->Gh->Prop)->Prop
noncomputable abbrev PTI:=PSt->Gh->((Gh->Prop)->List PV->Gh->Prop)->Prop
noncomputable def kR(js:List (Option Nat))(σ:PSt):PSt:=js.map λo=>match o with|none=>none|some j=>(σ[j]?).getD none
noncomputable def fM(chk:Gh->Prop)(g:PTG)(ts:PTT)(te:PTE):List PV->List PV->PSt->Gh->(List PV->Gh->Prop)->Prop
 | [],acc,_,G,Q=>chk G/\Q acc G
 | x::r,acc,σ,G,Q=>chk G/\g x σ G λσ2 G2=>ts σ2 G2 λok G3=>if ok=true then te σ2 G3 λy G4=>fM chk g ts te r (acc++[y]) σ2 G4 Q else fM chk g ts te r acc σ2 G3 Q
noncomputable def sE(chk:Gh->Prop)(g:PTG)(tb:PTS)(D:eU):List PV->PSt->Gh->Prop
 | [],σ,G=>chk G/\D.nx σ G
 | x::r,σ,G=>chk G/\g x σ G λσ2 G2=>tb {D with nx:=sE chk g tb D r,ct:=sE chk g tb D r,bk:=D.nx} σ2 G2
def nM(m:Bool)(G:Gh)(xs:List PV)(Q:PK1):Prop:=if m=true then ∀p,G p=none->Q (.ref p) (gup G p (.lst xs)) else Q (.lst xs) G
noncomputable def mY(lo:Int)(n:Nat):List PV:=(List.range n).map λ(k:Nat)=>PV.int (lo+(k:Int))
noncomputable def CN(xs:List PV):List PV:=xs.zipIdx.map λp=>PV.tup [.int (p.2:Int),p.1]
noncomputable def aAc:PV->Option (List PV)
 | .tup ys=>some ys
 | .lst ys=>some ys
 | _=>none
noncomputable def JH(n:Nat)(yss:List (List PV)):List PV:=(List.range n).map λi=>PV.tup (yss.map λys=>ys.getD i .non)
def aAo(x:PV)(G:Gh)(R:(Gh->Prop)->List PV->Gh->Prop):Prop:=match x with
 | .tup xs=>R (λ_=>True) xs G
 | .lst xs=>R (λ_=>True) xs G
 | .scr ns=>R (λ_=>True) (ns.map .int) G
 | .ref a=>∃xs,G a=some (.lst xs)/\R (λG'=>G' a=some (.lst xs)) xs G
 | _=>False
noncomputable def NR(T:Tb)(eqs:List (J8×Str))(x y:PV)(G:Gh)(Q:PK1):Prop :=
 (∃c m ns xs ns' ys,(c,m)∈eqs/\x= .ob c ns xs/\y= .ob c ns' ys/\T.S m [x,y] G λv G'=>∃b,v= .bl b/\Q (.bl b) G')∨pEq false x y G Q
noncomputable def aJN(T:Tb)(eqs:List (J8×Str))(x y:PV)(G:Gh)(Q:PK1):Prop :=
 (∃c m ns xs ns' ys,(c,m)∈eqs/\x= .ob c ns xs/\y= .ob c ns' ys/\T.S m [x,y] G λv G'=>∃b,v= .bl b/\Q (.bl (!b)) G')∨pEq true x y G Q
def aJe(b:Bn)(v:PV)(G:Gh)(Q:PK1):Prop:=match b with
 | .len=>∃n:Int,v= .int n/\0<=n/\n<2^63/\Q (.int n) G
 | .bool=>∃n:Int,v= .int n/\0<=n/\n<2^63/\Q (.bl (n !=0)) G
 | .str=>∃x,v= .str x/\Q (.str x) G
 | .repr=>∃x,v= .str x/\Q (.str x) G
 | _=>False
noncomputable def IT(T:Tb)(b:Bn)(ls:List (J8×Str))(xs:List PV)(G:Gh)(Q:PK1):Prop :=
 (∃c m ns ys,(c,m)∈ls/\xs=[.ob c ns ys]/\T.S m xs G λv G'=>aJe b v G' Q)∨cT T.cs b xs G Q
def aMD(x:PV)(G:Gh)(Q:PK1):Prop:= ∃d,(dat x=some d∨dte x=some d)/\d.showable=true/\d.depth<=64/\d.shown.length<=sizeLine/\(∀i:Int,x= .int i->i.natAbs.log2<1920)/\Q (.str d.shown) G
noncomputable def aKK(T:Tb)(ls:List (J8×Str))(x:PV)(G:Gh)(Q:PK1):Prop :=
 (∃c m ns ys,(c,m)∈ls/\x= .ob c ns ys/\T.S m [x] G λv G'=>∃y,v= .str y/\Q (.str y) G')∨aMD x G Q
noncomputable def buP:PV->Gh->Prop
 | .non,_=>True
 | .bl _,_=>True
 | .int _,_=>True
 | .str _,_=>True
 | .tup _,_=>True
 | .lst _,_=>True
 | .scr _,_=>True
 | .emp,_=>True
 | .dct _ _,_=>True
 | .ref p,G=>∃xs,aX G (.ref p)=some xs
 | _,_=>False
def anP(T:Tb)(c:J8)(y:PV)(G:Gh):Prop:=buP y G∨∃d ns ys,y= .ob d ns ys/\d∈T.cs/\d≠c
def aJQ(T:Tb)(eqs:List (J8×Str))(x y:PV)(G:Gh)(Q:PK1):Prop:= ∃c m ns xs,(c,m)∈eqs/\x= .ob c ns xs/\anP T c y G/\T.S m [x,y] G λv G'=>∃b,v= .bl b/\Q (.bl b) G'
def aKH(T:Tb)(eqs:List (J8×Str))(x y:PV)(G:Gh)(Q:PK1):Prop:= ∃c m ns ys,(c,m)∈eqs/\y= .ob c ns ys/\buP x G/\T.S m [y,x] G λv G'=>∃b,v= .bl b/\Q (.bl b) G'
def aKi(T:Tb)(eqs:List (J8×Str))(x y:PV)(G:Gh)(Q:PK1):Prop:= ∃c m ns xs,(c,m)∈eqs/\x= .ob c ns xs/\anP T c y G/\T.S m [x,y] G λv G'=>∃b,v= .bl b/\Q (.bl (!b)) G'
mutual
noncomputable def pln:PV->Bool
 | .non=>true
 | .bl _=>true
 | .int _=>true
 | .str _=>true
 | .tup xs=>rO xs
 | .ob c _ xs=>c=="Shade"&&rO xs
 | _=>false
noncomputable def rO:List PV->Bool
 | []=>true
 | x::r=>pln x&&rO r
end
noncomputable def plO:PV->Bool
 | .ob _ _ xs=>rO xs
 | _=>false
noncomputable def inP(T:Tb)(eqs:List (J8×Str))(c:J8)(m:Str)(x:PV)(Q:Bool->Gh->Prop):List PV->Gh->Prop
 | [],G=>Q false G
 | y::r,G=>((∃ns ys,y= .ob c ns ys)/\((plO x=true->plO y=true->y=x)->Q true G)/\T.S m [y,x] G λv G'=>∃b,v= .bl b/\if b=true then Q true G' else inP T eqs c m x Q r G')∨
     (buP y G/\T.S m [x,y] G λv G'=>∃b,v= .bl b/\if b=true then Q true G' else inP T eqs c m x Q r G')∨
     (∃d m' ns ys,(d,m')∈eqs/\d∈T.cs/\d≠c/\y= .ob d ns ys/\T.S m' [y,x] G λv G'=>∃b,v= .bl b/\if b=true then Q true G' else inP T eqs c m x Q r G')
noncomputable def aHE(T:Tb)(eqs:List (J8×Str))(neg:Bool)(x y:PV)(G:Gh)(Q:PK1):Prop :=
 ∃c m ns xs ys,(c,m)∈eqs/\c∈T.cs/\x= .ob c ns xs/\(y= .lst ys∨(neg=false/\y= .tup ys))/\inP T eqs c m x (λb G'=>Q (.bl (if neg=true then !b else b)) G') ys G
def pX(T:Tb)(op:CmpOp)(eqs:List (J8×Str))(x y:PV)(G:Gh)(Q:PK1):Prop:=match op with
 | .Eq=>NR T eqs x y G Q∨aJQ T eqs x y G Q∨aKH T eqs x y G Q
 | .NotEq=>aJN T eqs x y G Q∨aKi T eqs x y G Q
 | .In=>aHE T eqs false x y G Q
 | .NotIn=>aHE T eqs true x y G Q
 | _=>False
def UV(x y:PV)(G:Gh)(Q:PK1):Prop:= ∃xs ys,aX G x=some xs/\aX G y=some ys/\xs.length+ys.length<=sizeLine/\∀p,G p=none->Q (.ref p) (gup G p (.lst (xs++ys)))
noncomputable def aJV(T:Tb)(ls:List (J8×Str))(x:PV)(G:Gh)(Q:Bool->Gh->Prop):Prop :=
 (∃c m ns xs,(c,m)∈ls/\x= .ob c ns xs/\T.S m [x] G λv G'=>∃n:Int,v= .int n/\0<=n/\n<2^63/\Q (n !=0) G')∨rL x G Q
noncomputable def tqP(T:Tb)(c:J8)(m:Str)(Q:Bool->Gh->Prop):List PV->List PV->Gh->Prop
 | [],[],G=>Q true G
 | [],_::_,G=>Q false G
 | _::_,[],G=>Q false G
 | x::xs,y::ys,G=>plO x=true/\plO y=true/\(∃ns us ns' vs,x= .ob c ns us/\y= .ob c ns' vs)/\(x=y->tqP T c m Q xs ys G)/\T.S m [x,y] G λv G'=>∃b,v= .bl b/\if b=true then tqP T c m Q xs ys G' else Q false G'
def pTq(T:Tb)(c:J8)(m:Str)(x y:PV)(G:Gh)(Q:PK1):Prop:= ∃xs ys,x= .tup xs/\y= .tup ys/\tqP T c m (λr G'=>Q (.bl r) G') xs ys G
noncomputable def rZ:Nat->PSt->(PV->Prop)->Prop
 | 0,σ,k=>match σ with
   | some v::_=>k v
   | _=>False
 | n+1,σ,k=>match σ with
   | _::r=>rZ n r k
   | []=>False
theorem bO{v:PV}{r:PSt}{k:PV->Prop}:rZ 0 (some v::r) k=k v:=rfl
theorem bP{n:Nat}{x:Option PV}{r:PSt}{k:PV->Prop}:rZ (n+1) (x::r) k=rZ n r k:=rfl
theorem pH:∀{i:Nat} {σ:PSt},rZ i σ k↔∃v,σ[i]? =some (some v)/\k v
 | 0,[]=>by simp[rZ]
 | 0,none::r=>by simp[rZ]
 | 0,some v::r=>by simp[rZ]
 | n+1,[]=>by simp[rZ]
 | n+1,x::r=>by simp only[rZ,List.getElem?_cons_succ];exact pH
noncomputable def kP:Key->PV
 | .inl i=>.int i
 | .inr x=>.str x
noncomputable def flK:List (Key×PV)->List PV
 | []=>[]
 | p::r=>kP p.1::p.2::flK r
mutual
noncomputable def wpE(T:Tb):CE->PTE
 | .var i=>λσ G Q=>rZ i σ λv=>Q v G
 | .int i=>λ_ G Q=>Q (.int i) G
 | .bl b=>λ_ G Q=>Q (.bl b) G
 | .non=>λ_ G Q=>Q .non G
 | .str x=>λ_ G Q=>Q (.str x) G
 | .glo x=>λ_ G Q=>Q (T.gv x) G
 | .bin op a b=>λσ G Q=>wpE T a σ G λx G1=>wpE T b σ G1 λy G2=>xR op x y G2 Q
 | .neg a=>λσ G Q=>wpE T a σ G λx G1=>aBR x G1 Q
 | .no a=>λσ G Q=>wpE T a σ G λx G1=>rL x G1 λb G2=>Q (.bl (!b)) G2
 | .cmp op a b=>λσ G Q=>wpE T a σ G λx G1=>wpE T b σ G1 λy G2=>lA op x y G2 Q
 | .chn op op' a b c=>λσ G Q=>wpE T a σ G λx G1=>wpE T b σ G1 λy G2=>lA op x y G2 λz G3=>∃k,z= .bl k/\if k=true then wpE T c σ G3 λw G4=>lA op' y w G4 Q else Q (.bl false) G3
 | .emp=>λ_ G Q=>Q .emp G
 | .dct es=>λσ G Q=>wpL T es σ G λxs G1=>∃kvs:List (Key×PV),xs=flK kvs/\(kvs.map (·.1)).Nodup/\kvs.length<=15/\Q (.dct (kvs.map (·.1)) (kvs.map (·.2))) G1
 | .ladd a b=>λσ G Q=>wpE T a σ G λx G1=>wpE T b σ G1 λy G2=>UV x y G2 Q
 | .cnt a b=>λσ G Q=>wpE T a σ G λx G1=>(∃xs,aX G1 x=some xs)/\wpE T b σ G1 λy G2=>∃(bs:List Bool) (b:Bool),aX G2 x=some (bs.map PV.bl)/\y= .bl b/\Q (.int (bs.count b)) G2
 | .pol a=>λσ G Q=>wpE T a σ G λx G1=>∃p xs v,x= .ref p/\G1 p=some (.lst xs)/\xs[xs.length-1]? =some v/\Q v (gup G1 p (.lst xs.dropLast))
 | .rvs a=>λσ G Q=>wpE T a σ G λx G1=>∃p xs,x= .ref p/\G1 p=some (.lst xs)/\Q .non (gup G1 p (.lst xs.reverse))
 | .teq c m a b=>λσ G Q=>wpE T a σ G λx G1=>wpE T b σ G1 λy G2=>pTq T c m x y G2 Q
 | .lnr a=>λσ G Q=>wpE T a σ G λx G1=>∃j,x= .int j/\0<=j/\j<2^62/\Q (.int j) G1
 | .lco a=>λσ G Q=>wpE T a σ G λx G1=>∃xs,(x= .tup xs∨aX G1 x=some xs)/\∀p,G1 p=none->Q (.ref p) (gup G1 p (.lst xs))
 | .bow b ls es=>λσ G Q=>wpL T es σ G λxs G1=>IT T b ls xs G1 Q
 | .joi a b=>λσ G Q=>wpE T a σ G λx G1=>∃sep,x= .str sep/\wpE T b σ G1 λy G2=>∃ys:List Str,aX G2 y=some (ys.map PV.str)/\(ys.map (·.length)).sum+ys.length*sep.length<=16777216/\Q (.str (Txt.join sep ys)) G2
 | .fst es=>λσ G Q=>wpJ T es Str.empty σ G Q
 | .ceq eqs a b=>λσ G Q=>wpE T a σ G λx G1=>wpE T b σ G1 λy G2=>NR T eqs x y G2 Q
 | .an a b=>λσ G Q=>wpE T a σ G λx G1=>rL x G1 λc G2=>if c=true then wpE T b σ G2 Q else Q x G2
 | .oo a b=>λσ G Q=>wpE T a σ G λx G1=>rL x G1 λc G2=>if c=true then Q x G2 else wpE T b σ G2 Q
 | .tup es=>λσ G Q=>wpL T es σ G λxs G1=>xs.length<=sizeLine/\Q (.tup xs) G1
 | .lst m es=>λσ G Q=>wpL T es σ G λxs G1=>xs.length<=sizeLine/\nM m G1 xs Q
 | .idx a i=>λσ G Q=>wpE T a σ G λx G1=>wpE T i σ G1 λy G2=>mU x y G2 Q
 | .sli a lo hi=>λσ G Q=>wpE T a σ G λx G1=>wpO T lo σ G1 λl G2=>wpO T hi σ G2 λh G3=>OD x l h G3 Q
 | .rev a=>λσ G Q=>wpE T a σ G λx G1=>(∃xs,aX G1 x=some xs/\Q (.lst xs.reverse) G1)∨∃xs,x= .tup xs/\Q (.tup xs.reverse) G1
 | .att a f=>λσ G Q=>wpE T a σ G λx G1=>EB T x f G1 Q
 | .cal f es=>λσ G Q=>wpL T es σ G λxs G1=>T.S f xs G1 Q
 | .cak f es ks ar=>λσ G Q=>wpL T es σ G λxs G1=>wpL T ks σ G1 λzs G2=>T.S f (ar.map (Ar.val (xs++zs))) G2 Q
 | .blt b es=>λσ G Q=>wpL T es σ G λxs G1=>cT T.cs b xs G1 Q
 | .app a e=>λσ G Q=>wpE T a σ G λx G1=>(∃ys,aX G1 x=some ys)/\wpE T e σ G1 λy G2=>∃p xs,x= .ref p/\G2 p=some (.lst xs)/\xs.length<sizeLine/\Q .non (gup G2 p (.lst (xs++[y])))
 | .cmpr m tg it ts el js=>λσ G Q=>wpI T it σ G λchk xs G1=>xs.length<=sizeLine/\fM chk (wpG T tg) (wpT T ts) (wpE T el) xs [] (kR js σ) G1 λys G2=>nM m G2 ys Q
 | .cex op eqs a b=>λσ G Q=>wpE T a σ G λx G1=>wpE T b σ G1 λy G2=>pX T op eqs x y G2 Q
 | .gix ks e=>λσ G Q=>wpE T e σ G λy G1=>∃z f,y= .str z/\ks.lookup z=some f/\Q (.fn f) G1
 | .gin neg ks e=>λσ G Q=>wpE T e σ G λy G1=>∃z,y= .str z/\Q (.bl (if neg=true then !(ks.lookup z).isSome else(ks.lookup z).isSome)) G1
 | .cav fs i es=>λσ G Q=>∃f n ar,σ[i]? =some (some (.fn f))/\(f,n,ar)∈fs/\wpL T es σ G λxs G1=>T.S f (ar.map (Ar.val xs)) G1 Q
 | .isx a n=>λσ G Q=>wpE T a σ G λx G1=>∃c ns xs r,x= .exc c ns xs/\(c,n,r)∈T.xi/\Q (.bl r) G1
 | .isn a ns=>λσ G Q=>wpE T a σ G λx G1=>∃c fs xs,∃rs:Str->Bool,x= .exc c fs xs/\(∀n∈ns,(c,n,rs n)∈T.xi)/\Q (.bl (ns.any rs)) G1
 | .rpw ls e=>λσ G Q=>wpE T e σ G λx G1=>aKK T ls x G1 Q
 | .atx a f=>λσ G Q=>wpE T a σ G λx G1=>∃c ns xs v,x= .exc c ns xs/\(c,f)∈T.fx/\(ns.zip xs).lookup f=some v/\Q v G1
 | .bln a=>λσ G Q=>wpE T a σ G λx G1=>∃i:Int,x= .int i/\Q (.int ((Builtin.Int.intBits i:Nat):Int)) G1
 | .met m ls a es=>λσ G Q=>wpE T a σ G λx G1=>∃c ky ar ns xs,(c,ky,ar)∈ls/\(x= .ob c ns xs∨∃p,x= .ref p/\G1 p=some (.ins c ns xs))/\m∉ns/\wpL T es σ G1 λys G2=>T.S ky (x::ar.map (Ar.val ys)) G2 Q
 | .tst _=>λ_ _ _=>False
 | .tso _ _=>λ_ _ _=>False
 | .tsb _=>λ_ _ _=>False
 | .nil=>λ_ _ _=>False
 | .cons _ _=>λ_ _ _=>False
 | .isq _=>λ_ _ _=>False
 | .irg _=>λ_ _ _=>False
 | .ien _=>λ_ _ _=>False
 | .izp _=>λ_ _ _=>False
 | .gn _=>λ_ _ _=>False
 | .gt _ _=>λ_ _ _=>False
 | .gl _ _=>λ_ _ _=>False
noncomputable def wpJ(T:Tb):CE->Str->PTE
 | .nil=>λout _ G Q=>out.length<=sizeLine/\Q (.str out) G
 | .cons a b=>λout σ G Q=>wpE T a σ G λx G1=>∃y,x= .str y/\y.length<=sizeLine/\(out++y).length<=sizeLine/\wpJ T b (out++y) σ G1 Q
 | _=>λ_ _ _ _=>False
noncomputable def wpL(T:Tb):CE->PTA
 | .nil=>λ_ G Q=>Q [] G
 | .cons a b=>λσ G Q=>wpE T a σ G λx G1=>wpL T b σ G1 λxs G2=>Q (x::xs) G2
 | _=>λ_ _ _=>False
noncomputable def wpT(T:Tb):CE->PTT
 | .an a b=>λσ G Q=>wpT T a σ G λc G1=>if c=true then wpT T b σ G1 Q else Q false G1
 | .oo a b=>λσ G Q=>wpT T a σ G λc G1=>if c=true then Q true G1 else wpT T b σ G1 Q
 | .no a=>λσ G Q=>wpT T a σ G λc G1=>Q (!c) G1
 | .tst a=>λσ G Q=>wpE T a σ G λx G1=>rL x G1 Q
 | .tso ls a=>λσ G Q=>wpE T a σ G λx G1=>aJV T ls x G1 Q
 | .tsb a=>λσ G Q=>wpE T a σ G λx G1=>∃k,x= .bl k/\Q k G1
 | .nil=>λ_ G Q=>Q true G
 | _=>λ_ _ _=>False
noncomputable def wpO(T:Tb):CE->PSt->Gh->(Option Int->Gh->Prop)->Prop
 | .nil=>λ_ G Q=>Q none G
 | .tst e=>λσ G Q=>wpE T e σ G λx G1=>∃i,x= .int i/\Q (some i) G1
 | _=>λ_ _ _=>False
noncomputable def wpI(T:Tb):CE->PTI
 | .isq e=>λσ G R=>wpE T e σ G λx G1=>aAo x G1 R
 | .irg es=>λσ G R=>wpL T es σ G λxs G1=>(∃j,xs=[.int j]/\-(2^62)<=j/\j<2^62/\R (λ_=>True) (mY 0 j.toNat) G1)∨(∃i j,xs=[.int i,.int j]/\(-(2^62)<=i/\i<2^62/\-(2^62)<=j/\j<2^62)/\R (λ_=>True) (mY i (j-i).toNat) G1)
 | .ien e=>λσ G R=>wpE T e σ G λx G1=>∃xs,x= .tup xs/\R (λ_=>True) (CN xs) G1
 | .izp es=>λσ G R=>wpL T es σ G λxs G1=>(xs.length=2∨xs.length=3)/\∃n yss,xs.map aAc=yss.map some/\((∀ys∈yss,ys.length=n)∨∃a b,yss=[a,b]/\b.length=n/\n<a.length)/\R (λ_=>True) (JH n yss) G1
 | _=>λ_ _ _=>False
noncomputable def wpG(T:Tb):CE->PTG
 | .gn i=>λx σ G Q=>Q (σ.set i (some x)) G
 | .gt n gs=>λx σ G Q=>(∃xs,x= .tup xs/\xs.length=n/\dM T gs xs σ G Q)
 | .gl n gs=>λx σ G Q=>(∃xs,aX G x=some xs/\xs.length=n/\dM T gs xs σ G Q)
 | _=>λ_ _ _ _=>False
noncomputable def dM(T:Tb):CE->List PV->PSt->Gh->(PSt->Gh->Prop)->Prop
 | .nil=>λxs σ G Q=>xs=[]/\Q σ G
 | .cons a b=>λxs σ G Q=>∃x r,xs=x::r/\wpG T a x σ G λσ1 G1=>dM T b r σ1 G1 Q
 | _=>λ_ _ _ _=>False
end
theorem bN:wpE T (.var i) σ G Q=(rZ i σ λv=>Q v G):=rfl
theorem bU:wpE T (.int i) σ G Q=(Q (.int i) G):=rfl
theorem pG:wpE T (.bl b) σ G Q=(Q (.bl b) G):=rfl
theorem uZ:wpE T (.non) σ G Q=(Q .non G):=rfl
theorem rN:wpE T (.str x) σ G Q=(Q (.str x) G):=rfl
theorem gF:wpE T (.glo x) σ G Q=(Q (T.gv x) G):=rfl
theorem cZ:wpE T (.bin op a b) σ G Q=(wpE T a σ G λx G1=>wpE T b σ G1 λy G2=>xR op x y G2 Q):=rfl
theorem JN:wpE T (.neg a) σ G Q=(wpE T a σ G λx G1=>aBR x G1 Q):=rfl
theorem UG:wpE T (.no a) σ G Q=(wpE T a σ G λx G1=>rL x G1 λb G2=>Q (.bl (!b)) G2):=rfl
theorem cQ:wpE T (.cmp op a b) σ G Q=(wpE T a σ G λx G1=>wpE T b σ G1 λy G2=>lA op x y G2 Q):=rfl
theorem zR:wpE T (.chn op op' a b c) σ G Q=(wpE T a σ G λx G1=>wpE T b σ G1 λy G2=>lA op x y G2 λz G3=>∃k,z= .bl k/\if k=true then wpE T c σ G3 λw G4=>lA op' y w G4 Q else Q (.bl false) G3):=rfl
theorem aEp:wpE T (.emp) σ G Q=(Q .emp G):=rfl
theorem aLY:wpE T (.dct es) σ G Q=(wpL T es σ G λxs G1=>∃kvs:List (Key×PV),xs=flK kvs/\(kvs.map (·.1)).Nodup/\kvs.length<=15/\Q (.dct (kvs.map (·.1)) (kvs.map (·.2))) G1):=rfl
theorem aBx:wpE T (.ladd a b) σ G Q=(wpE T a σ G λx G1=>wpE T b σ G1 λy G2=>UV x y G2 Q):=rfl
theorem aLy:wpE T (.cnt a b) σ G Q=(wpE T a σ G λx G1=>(∃xs,aX G1 x=some xs)/\wpE T b σ G1 λy G2=>∃(bs:List Bool) (b:Bool),aX G2 x=some (bs.map PV.bl)/\y= .bl b/\Q (.int (bs.count b)) G2):=rfl
theorem aMf:wpE T (.pol a) σ G Q=(wpE T a σ G λx G1=>∃p xs v,x= .ref p/\G1 p=some (.lst xs)/\xs[xs.length-1]? =some v/\Q v (gup G1 p (.lst xs.dropLast))):=rfl
theorem aGE:wpE T (.rvs a) σ G Q=(wpE T a σ G λx G1=>∃p xs,x= .ref p/\G1 p=some (.lst xs)/\Q .non (gup G1 p (.lst xs.reverse))):=rfl
theorem aF3:wpE T (.teq c m a b) σ G Q=(wpE T a σ G λx G1=>wpE T b σ G1 λy G2=>pTq T c m x y G2 Q):=rfl
theorem aMn:wpE T (.lnr a) σ G Q=(wpE T a σ G λx G1=>∃j,x= .int j/\0<=j/\j<2^62/\Q (.int j) G1):=rfl
theorem aHL:wpE T (.lco a) σ G Q=(wpE T a σ G λx G1=>∃xs,(x= .tup xs∨aX G1 x=some xs)/\∀p,G1 p=none->Q (.ref p) (gup G1 p (.lst xs))):=rfl
theorem sF:wpE T (.bow b ls es) σ G Q=(wpL T es σ G λxs G1=>IT T b ls xs G1 Q):=rfl
theorem zW:wpE T (.joi a b) σ G Q=(wpE T a σ G λx G1=>∃sep,x= .str sep/\wpE T b σ G1 λy G2=>∃ys:List Str,aX G2 y=some (ys.map PV.str)/\(ys.map (·.length)).sum+ys.length*sep.length<=16777216/\Q (.str (Txt.join sep ys)) G2):=rfl
theorem zE:wpE T (.fst es) σ G Q=(wpJ T es Str.empty σ G Q):=rfl
theorem aHF:wpE T (.ceq eqs a b) σ G Q=(wpE T a σ G λx G1=>wpE T b σ G1 λy G2=>NR T eqs x y G2 Q):=rfl
theorem lN:wpE T (.an a b) σ G Q=(wpE T a σ G λx G1=>rL x G1 λc G2=>if c=true then wpE T b σ G2 Q else Q x G2):=rfl
theorem aDK:wpE T (.oo a b) σ G Q=(wpE T a σ G λx G1=>rL x G1 λc G2=>if c=true then Q x G2 else wpE T b σ G2 Q):=rfl
theorem eF:wpE T (.tup es) σ G Q=(wpL T es σ G λxs G1=>xs.length<=sizeLine/\Q (.tup xs) G1):=rfl
theorem eD:wpE T (.lst m es) σ G Q=(wpL T es σ G λxs G1=>xs.length<=sizeLine/\nM m G1 xs Q):=rfl
theorem cW:wpE T (.idx a i) σ G Q=(wpE T a σ G λx G1=>wpE T i σ G1 λy G2=>mU x y G2 Q):=rfl
theorem TJ{a lo hi:CE}{T:Tb}{σ:PSt}{G:Gh}{Q:PK1}:wpE T (.sli a lo hi) σ G Q=(wpE T a σ G λx G1=>wpO T lo σ G1 λl G2=>wpO T hi σ G2 λh G3=>OD x l h G3 Q):=rfl
theorem SD:wpE T (.rev a) σ G Q=(wpE T a σ G λx G1=>(∃xs,aX G1 x=some xs/\Q (.lst xs.reverse) G1)∨∃xs,x= .tup xs/\Q (.tup xs.reverse) G1):=rfl
theorem rM:wpE T (.att a f) σ G Q=(wpE T a σ G λx G1=>EB T x f G1 Q):=rfl
theorem bV:wpE T (.cal f es) σ G Q=(wpL T es σ G λxs G1=>T.S f xs G1 Q):=rfl
theorem ZQ:wpE T (.cak f es ks ar) σ G Q=(wpL T es σ G λxs G1=>wpL T ks σ G1 λzs G2=>T.S f (ar.map (Ar.val (xs++zs))) G2 Q):=rfl
theorem cG:wpE T (.blt b es) σ G Q=(wpL T es σ G λxs G1=>cT T.cs b xs G1 Q):=rfl
theorem nL:wpE T (.app a e) σ G Q=(wpE T a σ G λx G1=>(∃ys,aX G1 x=some ys)/\wpE T e σ G1 λy G2=>∃p xs,x= .ref p/\G2 p=some (.lst xs)/\xs.length<sizeLine/\Q .non (gup G2 p (.lst (xs++[y])))):=rfl
theorem cE:wpE T (.cmpr m tg it ts el js) σ G Q=(wpI T it σ G λchk xs G1=>xs.length<=sizeLine/\fM chk (wpG T tg) (wpT T ts) (wpE T el) xs [] (kR js σ) G1 λys G2=>nM m G2 ys Q):=rfl
theorem aFz:wpE T (.cex op eqs a b) σ G Q=(wpE T a σ G λx G1=>wpE T b σ G1 λy G2=>pX T op eqs x y G2 Q):=rfl
theorem aMm:wpE T (.gix ks e) σ G Q=(wpE T e σ G λy G1=>∃z f,y= .str z/\ks.lookup z=some f/\Q (.fn f) G1):=rfl
theorem aLu:wpE T (.gin neg ks e) σ G Q=(wpE T e σ G λy G1=>∃z,y= .str z/\Q (.bl (if neg=true then !(ks.lookup z).isSome else(ks.lookup z).isSome)) G1):=rfl
theorem aLK:wpE T (.cav fs i es) σ G Q=(∃f n ar,σ[i]? =some (some (.fn f))/\(f,n,ar)∈fs/\wpL T es σ G λxs G1=>T.S f (ar.map (Ar.val xs)) G1 Q):=rfl
theorem aLN:wpE T (.isx a n) σ G Q=(wpE T a σ G λx G1=>∃c ns xs r,x= .exc c ns xs/\(c,n,r)∈T.xi/\Q (.bl r) G1):=rfl
theorem aK6:wpE T (.isn a ns) σ G Q=(wpE T a σ G λx G1=>∃c fs xs,∃rs:Str->Bool,x= .exc c fs xs/\(∀n∈ns,(c,n,rs n)∈T.xi)/\Q (.bl (ns.any rs)) G1):=rfl
theorem aMp:wpE T (.rpw ls e) σ G Q=(wpE T e σ G λx G1=>aKK T ls x G1 Q):=rfl
theorem aLh:wpE T (.atx a f) σ G Q=(wpE T a σ G λx G1=>∃c ns xs v,x= .exc c ns xs/\(c,f)∈T.fx/\(ns.zip xs).lookup f=some v/\Q v G1):=rfl
theorem aE7:wpE T (.bln a) σ G Q=(wpE T a σ G λx G1=>∃i:Int,x= .int i/\Q (.int ((Builtin.Int.intBits i:Nat):Int)) G1):=rfl
theorem GJ:wpE T (.met m ls a es) σ G Q=(wpE T a σ G λx G1=>∃c ky ar ns xs,(c,ky,ar)∈ls/\(x= .ob c ns xs∨∃p,x= .ref p/\G1 p=some (.ins c ns xs))/\m∉ns/\wpL T es σ G1 λys G2=>T.S ky (x::ar.map (Ar.val ys)) G2 Q):=rfl
noncomputable def HV(f:Str):List Str->List Str
 | []=>[f]
 | n::r=>if n=f then n::r else n::HV f r
noncomputable def wX{α:Type}(f:Str)(v:α):List Str->List α->List α
 | [],_=>[v]
 | n::r,x::xs=>if n=f then v::xs else x::wX f v r xs
 | _::_,[]=>[]
noncomputable def wpS:Tb->CS->PTS
 | T,.nil=>λD σ G=>D.nx σ G
 | T,.seq a b=>λD σ G=>wpS T a {D with nx:=wpS T b D} σ G
 | T,.ex e=>λD σ G=>wpE T e σ G λ_ G1=>D.nx σ G1
 | T,.asg g e=>λD σ G=>wpE T e σ G λx G1=>wpG T g x σ G1 D.nx
 | T,.par i j a b=>λD σ G=>wpE T a σ G λx G1=>wpE T b σ G1 λy G2=>D.nx ((σ.set i (some x)).set j (some y)) G2
 | T,.par3 i j l a b c=>λD σ G=>wpE T a σ G λx G1=>wpE T b σ G1 λy G2=>wpE T c σ G2 λz G3=>D.nx (((σ.set i (some x)).set j (some y)).set l (some z)) G3
 | T,.sub o i e=>λD σ G=>wpE T e σ G λv G1=>wpE T o σ G1 λx G2=>wpE T i σ G2 λy G3=>aBC x y v G3 λG4=>D.nx σ G4
 | T,.fld o f e=>λD σ G=>wpE T e σ G λv G1=>wpE T o σ G1 λx G2=>∃p c ns xs,x= .ref p/\G2 p=some (.ins c ns xs)/\(c,f)∈T.fl/\ns.length<1000/\D.nx σ (gup G2 p (.ins c (HV f ns) (wX f v ns xs)))
 | T,.fda o f e=>λD σ G=>wpE T o σ G λx G1=>∃p c ns xs i,x= .ref p/\G1 p=some (.ins c ns xs)/\(c,f)∈T.fl/\(ns.zip xs).lookup f=some (.int i)/\wpE T e σ G1 λy G2=>∃j ns' xs',y= .int j/\G2 p=some (.ins c ns' xs')/\ns'.length<1000/\D.nx σ (gup G2 p (.ins c (HV f ns') (wX f (.int (i+j)) ns' xs')))
 | T,.iff c a b=>λD σ G=>wpT T c σ G λk G1=>if k=true then wpS T a D σ G1 else wpS T b D σ G1
 | T,.wh c b=>λD σ G=>∃W:Nat->PSt->Gh->Prop,(∃m,W m σ G)/\∀m σ G,W m σ G->wpT T c σ G λk G1=>if k=true then wpS T b {D with nx:=λσ' G'=>∃m',m'<m/\W m' σ' G',ct:=λσ' G'=>∃m',m'<m/\W m' σ' G',bk:=D.nx} σ G1 else D.nx σ G1
 | T,.fr g it b=>λD σ G=>wpI T it σ G λchk xs G1=>sE chk (wpG T g) (wpS T b) D xs σ G1
 | T,.ret e=>λD σ G=>wpE T e σ G D.rt
 | T,.retN=>λD _ G=>D.rt .non G
 | T,.nev=>λ_ _ _=>False
 | T,.tri b i cs=>λD σ G=>wpS (T.at (WkX λc ns xs G1=>c∈cs/\D.nx ((List.replicate σ.length none).set i (some (.exc c ns xs))) G1)) b D σ G
 | T,.trh b j h cs=>λD σ G=>wpS (T.at (WkX λc ns xs G1=>c∈cs/\wpS T h ⟨λσ2 G2=>D.nx (σ2.set j none) G2,D.rt,λσ2 G2=>D.bk (σ2.set j none) G2,λσ2 G2=>D.ct (σ2.set j none) G2⟩ ((List.replicate σ.length none).set j (some (.exc c ns xs))) G1)) b D σ G
def JE(X:Cx)(E:Ev)(e:Expr)(t:PTE):Prop:= ∀F,PE X e (low E F t)
def JT(X:Cx)(E:Ev)(e:Expr)(t:PTT):Prop:= ∀F,PT X e (AO E F t)
def JW(X:Cx)(E:Ev)(e:Expr)(t:PTT):Prop:= ∀F,PW X e (AO E F t)
def JA(X:Cx)(E:Ev)(es:List Expr)(t:PTA):Prop:= ∀F,PA X es (xF E F es.length t)
def JS(X:Cx)(E:Ev)(s:Stmt)(t:PTS):Prop:= ∀F,PS X s (aFU E F t)
def JSs(X:Cx)(E:Ev)(s:List Stmt)(t:PTS):Prop:= ∀F,PSs X s (aFU E F t)
def aGi(E:Ev)(F:Hp)(t:PTG):TG:=λv σ H Q=>∃x σ' Z G Q',RP E Z x v/\RSt E Z σ' σ/\Sim E F H Z G/\t x σ' G Q'/\KSt E F Z Q' Q
def JG(X:Cx)(E:Ev)(e:Expr)(t:PTG):Prop:= ∀F,PG X e (aGi E F t)
noncomputable def aJY(E:Ev)(F:Hp)(t:List PV->PSt->Gh->(PSt->Gh->Prop)->Prop):TGs:=λvs σ H Q=>∃xs σ' Z G Q',RPs E Z xs vs/\RSt E Z σ' σ/\Sim E F H Z G/\t xs σ' G Q'/\KSt E F Z Q' Q
def JGs(X:Cx)(E:Ev)(es:List Expr)(t:List PV->PSt->Gh->(PSt->Gh->Prop)->Prop):Prop:= ∀F,PGs X es (aJY E F t)
theorem PT.imp{X:Cx}{t t':TT}(h:PT X e t)(g:∀σ H Q,t' σ H Q->t σ H Q):PT X e t':=λj4 s σ H Q I q=>h j4 s σ H Q I (g _ _ _ q)
theorem PW.imp{X:Cx}{t t':TT}(h:PW X e t)(g:∀σ H Q,t' σ H Q->t σ H Q):PW X e t':=λwh j4 s σ H Q I q=>h wh j4 s σ H Q I (g _ _ _ q)
theorem PA.imp{X:Cx}{t t':TA}(h:PA X es t)(g:∀σ H Q,t' σ H Q->t σ H Q):PA X es t':=λpos j4 s σ H Q I q=>h pos j4 s σ H Q I (g _ _ _ q)
theorem PSs.imp{X:Cx}{st:List Stmt}(h:PSs X st t)(g:∀D σ H,t' D σ H->t D σ H):PSs X st t':=λj4 s σ H D I q=>h j4 s σ H D I (g _ _ _ q)
theorem PGs.imp{X:Cx}{t t':TGs}(h:PGs X es t)(g:∀vs σ H Q,t' vs σ H Q->t vs σ H Q):PGs X es t':=λj4 s σ H v u Q I r q=>h j4 s σ H v u Q I r (g _ _ _ _ q)
section
variable{X:Cx}{E:Ev}{T:Tb}{k:Nat}{pos:Pos}{a b c:Expr}{ta tb tc:PTE}
structure Pl(X:Cx)(E:Ev)(T:Tb)(k:Nat):Prop where
 hK:E.K=X.K
 calm:40<=k->X.calm=true
 room:aR k X.A
 cls:YC E T.cs
 fld:∀c f,(c,f)∈T.fl->Cls X.K (E.cls c)/\eS X.K (E.cls c) f
theorem Kq.go(k:Kq E F Z Q' Q)(s:aJ Z Z1)(S:Sim E F H1 Z1 G1)(r:RP E Z1 x v)(q:Q' x G1):Q v H1:=k x v Z1 G1 H1 s S r q
theorem aGO(hN:X.N[i]? =some x)(hv:Vis X.env.scope x)(hd:(x==("__debug__":Str))=false)(hcd:(x==("__classdict__":Str))=false):JE X E (.Name x pos) (wpE T (.var i)):=λF =>
 (YY hN hv hd hcd).imp<|by
   rintro σ H Q ⟨σ',Z,G,Q',rs,S,h,kq⟩;have h:=pH.mp h;obtain⟨x,e,q⟩:=h;obtain⟨v,e',r⟩:=rs.get e;exact⟨v,e',kq.here S q r⟩
theorem aGP:JE X E (.Constant (.int i) j pos) (wpE T (.int i)):=λF=>UJ.imp<|by rintro σ H Q ⟨σ',Z,G,Q',rs,S,h,kq⟩;exact kq.here S h bF
theorem aIi:JE X E (.Constant (.bool i) j pos) (wpE T (.bl i)):=λF=>aIB.imp<|by rintro σ H Q ⟨σ',Z,G,Q',rs,S,h,kq⟩;exact kq.here S h bG
theorem aEL:JE X E (.Constant .none j pos) (wpE T .non):=λF=>aFW.imp<|by rintro σ H Q ⟨σ',Z,G,Q',rs,S,h,kq⟩;exact kq.here S h oA
theorem WA:JE X E (.Constant (.str i) j pos) (wpE T (.str i)):=λF=>aHu.imp<|by rintro σ H Q ⟨σ',Z,G,Q',rs,S,h,kq⟩;exact kq.here S h jY
theorem aFG(hg:Gl X x)(hm:X.mg x=some u)(r:aN v u)(hr:RP E (λ_=>none) (T.gv x) v)(hd:(x==("__debug__":Str))=false):JE X E (.Name x pos) (wpE T (.glo x)):=λF =>
 (aA2 hg hm r hd).imp<|by rintro σ H Q ⟨σ',Z,G,Q',rs,S,h,kq⟩;exact kq.here S h (hr.mono λ_ _ z=>by cases z)
theorem aIv(hg:Gl X x)(hm:X.mg x=none)(hv:bootBuiltins x=some (.type n))(hgv:T.gv x= .ty n)(hn:x≠"__name__")(hd:(x==("__debug__":Str))=false):JE X E (.Name x pos) (wpE T (.glo x)):=λF =>
 (aAQ (v:=.ty n) hg hm hv rfl hn hd).imp<|by rintro σ H Q ⟨σ',Z,G,Q',rs,S,h,kq⟩;rw[gF,hgv] at h;exact kq.here S h rfl
theorem AF(h:low E F (λσ G Q=>ta σ G λx G1=>tb σ G1 λy G2=>p x y G2 Q) σ H Q):tOp (dL E F p) (low E F ta) (low E F tb) σ H Q:=by
 obtain⟨σ',Z,G,Q',rs,S,h,kq⟩:=h;refine⟨σ',Z,G,_,rs,S,h,λx v Z1 G1 H1 s1 S1 r1 q1=>⟨σ',Z1,G1,_,rs.mono s1,S1,q1,λy u Z2 G2 H2 s2 S2 r2 q2=>?_⟩⟩;exact⟨x,y,Z2,G2,Q',r1.mono s2,r2,S2,q2,kq.mono (s1.trans s2)⟩
theorem aF6(P:Pl X E T k)(ha:JE X E a (wpE T a'))(hb:JE X E b (wpE T b')):JE X E (.BinOp a op b pos) (wpE T (.bin op a' b')):=λF =>
 (aCV (aCp P.hK op) (ha F) (hb F)).imp λσ H Q h=>AF (by exact h)
theorem aFT(ha:JE X E a (wpE T a')):JE X E (.UnaryOp .USub a pos) (wpE T (.neg a')):=λF =>
 (aC8 XR (ha F)).imp<|by
   rintro σ H Q ⟨σ',Z,G,Q',rs,S,h,kq⟩;refine⟨σ',Z,G,_,rs,S,h,λx v Z1 G1 H1 s1 S1 r1 q1=>?_⟩;unfold aBR at q1;split at q1
   . exact⟨_,r1,kq.go s1 S1 bF q1⟩
   . exact q1.elim
theorem aAr(he:PE X a te):PE X (.UnaryOp .Not a pos) (λσ H Q=>te σ H λx H1=>∃b,QP X.K x H1 b/\Q (.bl (!b)) H1):=by
 intro j4 s σ H Q I h;refine UnaryOp_ (thn (he j4 s σ H _ I h) λv s1 zz=>?_);obtain⟨x,H1,I1,r1,b,tv,q⟩:=zz;exact not_of (thn (wO j4 s1 σ H1 x v (λc H2=>Q (.bl (!c)) H2) I1 r1 ⟨b,tv,q⟩)<|by rintro c s2 ⟨H2,I2,q2⟩;exact⟨.bl (!c),H2,I2,rfl,q2⟩)
theorem aJB(P:Pl X E T k)(ha:JE X E a (wpE T a')):JE X E (.UnaryOp .Not a pos) (wpE T (.no a')):=λF =>
 (aAr (ha F)).imp<|by
   rintro σ H Q ⟨σ',Z,G,Q',rs,S,h,kq⟩;refine⟨σ',Z,G,_,rs,S,h,λx v Z1 G1 H1 s1 S1 r1 q1=>?_⟩;obtain⟨c,tv,q⟩:=rB P.hK S1 r1 q1;exact⟨c,tv,kq.go s1 S1 bG q⟩
theorem aBB{aY:List Expr}(ha:PE X a te)(hb:PE X (.BoolOp .And (b::aY) pos) tf):PE X (.BoolOp .And (a::b::aY) pos) (λσ H Q=>te σ H λx H1=>∃c,QP X.K x H1 c/\if c=true then tf σ H1 Q else Q x H1):=by
 intro j4 s σ H Q I h;refine BoolOp_and (thn (ha j4 s σ H _ I h) λv s1 zz=>?_);obtain⟨x,H1,I1,r1,c,tv,q1⟩:=zz;refine thn (wO j4 s1 σ H1 x v (λd H2=>d=c/\H2=H1) I1 r1 ⟨c,tv,rfl,rfl⟩) λd s2 zz=>?_;obtain⟨H2,I2,e1,e2⟩:=zz;subst e1 e2;cases d with
 | true=>exact hb j4 s2 σ H2 Q I2 q1
 | false=>exact⟨x,H2,I2,r1,q1⟩
theorem aG1{aY:List Expr}(ha:PE X a te)(hb:PE X (.BoolOp .Or (b::aY) pos) tf):PE X (.BoolOp .Or (a::b::aY) pos) (λσ H Q=>te σ H λx H1=>∃c,QP X.K x H1 c/\if c=true then Q x H1 else tf σ H1 Q):=by
 intro j4 s σ H Q I h;refine BoolOp_or (thn (ha j4 s σ H _ I h) λv s1 zz=>?_);obtain⟨x,H1,I1,r1,c,tv,q1⟩:=zz;refine thn (wO j4 s1 σ H1 x v (λd H2=>d=c/\H2=H1) I1 r1 ⟨c,tv,rfl,rfl⟩) λd s2 zz=>?_;obtain⟨H2,I2,e1,e2⟩:=zz;subst e1 e2;cases d with
 | false=>exact hb j4 s2 σ H2 Q I2 q1
 | true=>exact⟨x,H2,I2,r1,q1⟩
theorem aI6{aY:List Expr}(P:Pl X E T k)(ha:JE X E a (wpE T a'))(hb:JE X E (.BoolOp .And (b::aY) pos) (wpE T b')):JE X E (.BoolOp .And (a::b::aY) pos) (wpE T (.an a' b')):=λF =>
 (aBB (ha F) (hb F)).imp<|by
   rintro σ H Q ⟨σ',Z,G,Q',rs,S,h,kq⟩;refine⟨σ',Z,G,_,rs,S,h,λx v Z1 G1 H1 s1 S1 r1 q1=>?_⟩;obtain⟨c,tv,q⟩:=rB P.hK S1 r1 q1;refine⟨c,tv,?_⟩;cases c with
   | true=>rw[jd rfl] at q ⊢;exact⟨σ',Z1,G1,Q',rs.mono s1,S1,q,kq.mono s1⟩
   | false=>rw[jb Bool.false_ne_true] at q ⊢;exact kq.go s1 S1 r1 q
theorem aH4{aY:List Expr}(P:Pl X E T k)(ha:JE X E a (wpE T a'))(hb:JE X E (.BoolOp .Or (b::aY) pos) (wpE T b')):JE X E (.BoolOp .Or (a::b::aY) pos) (wpE T (.oo a' b')):=λF =>
 (aG1 (ha F) (hb F)).imp<|by
   rintro σ H Q ⟨σ',Z,G,Q',rs,S,h,kq⟩;refine⟨σ',Z,G,_,rs,S,h,λx v Z1 G1 H1 s1 S1 r1 q1=>?_⟩;obtain⟨c,tv,q⟩:=rB P.hK S1 r1 q1;refine⟨c,tv,?_⟩;cases c with
   | false=>rw[jb Bool.false_ne_true] at q ⊢;exact⟨σ',Z1,G1,Q',rs.mono s1,S1,q,kq.mono s1⟩
   | true=>rw[jd rfl] at q ⊢;exact kq.go s1 S1 r1 q
theorem aF9(ha:JE X E a t):JE X E (.BoolOp op [a] pos) t:=λF=>aEY (ha F)
theorem jP(r:RP E Z x v):(v= .non)↔x= .non:=by
 cases x with
 | non=>exact⟨λ_=>rfl,λ_=>r⟩
 | bl b=>rw[show v= .bl b from r];exact⟨(λz=>nomatch z),(λz=>nomatch z)⟩
 | int b=>rw[show v= .int b from r];exact⟨(λz=>nomatch z),(λz=>nomatch z)⟩
 | str b=>rw[show v= .str b from r];exact⟨(λz=>nomatch z),(λz=>nomatch z)⟩
 | ty b=>rw[show v= .ty b from r];exact⟨(λz=>nomatch z),(λz=>nomatch z)⟩
 | ref b=>rw[show v= .ref b from r];exact⟨(λz=>nomatch z),(λz=>nomatch z)⟩
 | cl b=>rw[show v= .ref _ from r];exact⟨(λz=>nomatch z),(λz=>nomatch z)⟩
 | fn b=>rw[show v= .ref _ from r];exact⟨(λz=>nomatch z),(λz=>nomatch z)⟩
 | emp=>obtain⟨a,rfl,_⟩:=r;exact⟨(λz=>nomatch z),(λz=>nomatch z)⟩
 | dct ks xs=>obtain⟨_,_,rfl,_⟩:=r;exact⟨(λz=>nomatch z),(λz=>nomatch z)⟩
 | tup xs=>obtain⟨_,_,rfl,_⟩:=r;exact⟨(λz=>nomatch z),(λz=>nomatch z)⟩
 | lst xs=>obtain⟨_,_,rfl,_⟩:=r;exact⟨(λz=>nomatch z),(λz=>nomatch z)⟩
 | scr xs=>obtain⟨_,rfl,_⟩:=r;exact⟨(λz=>nomatch z),(λz=>nomatch z)⟩
 | ob _ _ xs=>obtain⟨_,_,_,rfl,_⟩:=r;exact⟨(λz=>nomatch z),(λz=>nomatch z)⟩
 | exc _ _ xs=>obtain⟨_,_,_,rfl,_⟩:=r;exact⟨(λz=>nomatch z),(λz=>nomatch z)⟩
theorem aFL:OpR X (compareOp .Is) (λx y H Q=>∃i j,x= .bl i/\y= .bl j/\Q (.bl (i==j)) H):=by
 rintro j4 s σ H x y v u Q I rx ry ⟨i,j,e1,e2,q⟩;subst e1 e2;cases rx;cases ry;exact is_bool ⟨.bl _,H,I,rfl,q⟩
theorem aCC:OpR X (compareOp .IsNot) (λx y H Q=>∃i j,x= .bl i/\y= .bl j/\Q (.bl (!(i==j))) H):=by
 rintro j4 s σ H x y v u Q I rx ry ⟨i,j,e1,e2,q⟩;subst e1 e2;cases rx;cases ry;exact isnot_bool ⟨.bl _,H,I,rfl,q⟩
theorem aGV:OpR X (compareOp .Is) (dL E F (pIs false)):=by
 refine(aFl.or aFL).imp λv u H Q h=>?_;obtain⟨x,y,Z,G,Q',r1,r2,S,q,k⟩:=h;unfold pIs at q;split at q
 . refine .inl ⟨r2,?_⟩;rcases q with ⟨e,q⟩|⟨e,q⟩
   . rw[decide_eq_true ((jP r1).mpr e)];exact k.here S q bG
   . rw[decide_eq_false λz=>e ((jP r1).mp z)];exact k.here S q bG
 . obtain⟨c,e,q⟩:=q;subst e;exact .inr ⟨_,_,r1,r2,k.here S q bG⟩
 . exact q.elim
theorem aB6:OpR X (compareOp .IsNot) (dL E F (pIs true)):=by
 refine(aAt.or aCC).imp λv u H Q h=>?_;obtain⟨x,y,Z,G,Q',r1,r2,S,q,k⟩:=h;unfold pIs at q;split at q
 . refine .inl ⟨r2,?_⟩;rcases q with ⟨e,q⟩|⟨e,q⟩
   . rw[decide_eq_true ((jP r1).mpr e)];exact k.here S q bG
   . rw[decide_eq_false λz=>e ((jP r1).mp z)];exact k.here S q bG
 . obtain⟨c,e,q⟩:=q;subst e;exact .inr ⟨_,_,r1,r2,k.here S q bG⟩
 . exact q.elim
theorem aC0(r:RP E Z x v)(h:flP x=true):nC v=true:=by
 cases x<;>first|(cases h;done)|skip
 . rw[show v= .non from r];rfl
 . rw[show v= .bl _ from r];rfl
 . rw[show v= .int _ from r];rfl
 . rw[show v= .str _ from r];rfl
theorem aJi(r:RP E Z x v)(ry:RP E Z y u)(h:flP x=true)(hy:flP y=true):eqV v u=peq x y:=by
 cases x<;>first|(cases h;done)|skip
 all_goals (cases y<;>first|(cases hy;done)|skip)
 all_goals
   first
   | rw[show v= .non from r]
   | rw[show v= .bl _ from r]
   | rw[show v= .int _ from r]
   | rw[show v= .str _ from r]
 all_goals
   first
   | rw[show u= .non from ry]
   | rw[show u= .bl _ from ry]
   | rw[show u= .int _ from ry]
   | rw[show u= .str _ from ry]
 all_goals simp only[eqV,peq]
theorem aDm(r:RP E Z x v)(h:flP x=true):∀{xs:List PV} {vs:List V},RPs E Z xs vs->xs.all flP=true->vs.all nC=true/\inV v vs=xs.any λz=>peq z x
 | [],_,hr,_=>by cases hr;exact⟨rfl,rfl⟩
 | y::ys,_,⟨u,us,e,r1,r2⟩,ha=>by
   subst e;rw[List.all_cons,Bool.and_eq_true] at ha;obtain⟨a,b⟩:=aDm r h r2 ha.2;refine⟨by rw[List.all_cons,aC0 r1 ha.1,a];rfl,?_⟩;unfold inV at b ⊢;rw[List.any_cons,List.any_cons,b,aJi r1 r ha.1 h]
theorem ZP(hK:E.K=X.K)(h:dL E F (pIn neg) v u H Q):rIn X.K neg v u H Q:=by
 obtain⟨x,y,Z,G,Q',r1,r2,S,⟨xs,hx,h1,h2,q⟩,k⟩:=h;have key:∀{a:Addr} {vs:List V},RPs E Z xs vs->(SqL X.K H a vs∨SqT X.K H a vs)->u= .ref a->rIn X.K neg v u H Q:=λ{a vs} t hs e=>by
   obtain⟨a1,a2⟩:=aDm r1 h1 t h2;refine⟨a,vs,e,hs,aC0 r1 h1,a1,?_⟩;rw[a2];exact k.here S q bG
 rcases hx with rfl|hx
 . obtain⟨a,vs,rfl,ha,ta⟩:=dN S r2;exact key ta (.inr (hK▸ha)) rfl
 . obtain⟨a,vs,rfl,ha,ta⟩:=bX S r2 hx;exact key ta (.inl (SqL.of ha)) rfl
theorem mI(P:Pl X E T k):∀op,OpR X (compareOp op) (dL E F (lA op))
 | .Lt=>aJ2.imp λ_ _ _ _ h=>wW (jU (λ_ _ _=>bG) h)
 | .LtE=>aJh.imp λ_ _ _ _ h=>wW (jU (λ_ _ _=>bG) h)
 | .Gt=>aIG.imp λ_ _ _ _ h=>wW (jU (λ_ _ _=>bG) h)
 | .GtE=>aIf.imp λ_ _ _ _ h=>wW (jU (λ_ _ _=>bG) h)
 | .Eq=>VD P.room P.hK
 | .NotEq=>TY P.room P.hK
 | .Is=>aGV
 | .IsNot=>aB6
 | .In=>NI.imp λ_ _ _ _ h=>ZP P.hK h
 | .NotIn=>AR.imp λ_ _ _ _ h=>ZP P.hK h
theorem aEw(P:Pl X E T k)(hm:behindInMarks op b=false)(ha:JE X E a (wpE T a'))(hb:JE X E b (wpE T b')):JE X E (.Compare a [op] [b] pos) (wpE T (.cmp op a' b')):=λF =>
 (uO (mI P op) (ha F) (hb F) hm).imp λσ H Q h=>AF (by exact h)
theorem aHf(P:Pl X E T k)(hm:behindInMarks op b=false)(ha:JE X E a (wpE T a'))(hb:JE X E b (wpE T b')):JT X E (.Compare a [op] [b] pos) (wpT T (.tsb (.cmp op a' b'))):=λF =>
 PT.imp (KU (mI P op) (ha F) (hb F) hm) λσ H Q h=>AF (by
   obtain⟨σ',Z,G,Q',rs,S,h,kq⟩:=h;rw[wpT] at h;exact⟨σ',Z,G,_,rs,S,h,by rintro x v Z1 G1 H1 s1 S1 r1 ⟨kk,e,q⟩;subst e;exact⟨kk,r1,kq _ Z1 G1 H1 s1 S1 q⟩⟩)
theorem LI(h:low E F (wpE T (.chn op op' a' b' c')) σ H Q):HZ (dL E F (lA op)) (dL E F (lA op')) (low E F (wpE T a')) (low E F (wpE T b')) (low E F (wpE T c')) σ H Q:=by
 obtain⟨σ',Z,G,Q',rs,S,h,kq⟩:=h;refine⟨σ',Z,G,_,rs,S,h,λx v Z1 G1 H1 s1 S1 r1 q1=>⟨σ',Z1,G1,_,rs.mono s1,S1,q1,λy u Z2 G2 H2 s2 S2 r2 q2=>⟨x,y,Z2,G2,_,r1.mono s2,r2,S2,q2,?_⟩⟩⟩;rintro z w Z3 G3 H3 s3 S3 r3 ⟨kk,e,q3⟩;subst e;refine⟨kk,r3,?_⟩;have sz:=(s1.trans s2).trans s3;cases kk with
 | true =>
   rw[jd rfl] at q3 ⊢;exact⟨σ',Z3,G3,_,rs.mono sz,S3,q3,λz' w' Z4 G4 H4 s4 S4 r4 q4=>⟨y,z',Z4,G4,Q',(r2.mono s3).mono s4,r4,S4,q4,kq.mono (sz.trans s4)⟩⟩
 | false =>
   rw[jb Bool.false_ne_true] at q3 ⊢;exact kq.go sz S3 bG q3
theorem aGc(P:Pl X E T k)(hm:lastMarks [op,op'] [b,c]=false)(ha:JE X E a (wpE T a'))(hb:JE X E b (wpE T b'))(hc:JE X E c (wpE T c')):JE X E (.Compare a [op,op'] [b,c] pos) (wpE T (.chn op op' a' b' c')):=λF =>
 (UN (mI P op) (mI P op') (ha F) (hb F) (hc F) hm).imp λσ H Q h=>LI h
theorem aEr(P:Pl X E T k)(hm:lastMarks [op,op'] [b,c]=false)(ha:JE X E a (wpE T a'))(hb:JE X E b (wpE T b'))(hc:JE X E c (wpE T c')):JT X E (.Compare a [op,op'] [b,c] pos) (wpT T (.tsb (.chn op op' a' b' c'))):=λF =>
 PT.imp (SW (mI P op) (mI P op') (ha F) (hb F) (hc F) hm) λσ H Q h=>LI (by
   obtain⟨σ',Z,G,Q',rs,S,h,kq⟩:=h;rw[wpT] at h;exact⟨σ',Z,G,_,rs,S,h,by rintro x v Z1 G1 H1 s1 S1 r1 ⟨kk,e,q⟩;subst e;exact⟨kk,r1,kq _ Z1 G1 H1 s1 S1 q⟩⟩)
theorem BG(P:Pl X E T k)(ha:JE X E a (wpE T a'))(he:∀whole,isTrue a X.env whole=(do let v <-whole;standAt a.pos;holding [v] (truthy v))):JT X E a (wpT T (.tst a')):=λF =>
 PT.imp (ZF (ha F) he)<|by
   rintro σ H Q ⟨σ',Z,G,Q',rs,S,h,kq⟩;rw[wpT] at h;refine⟨σ',Z,G,_,rs,S,h,λx v Z1 G1 H1 s1 S1 r1 q1=>?_⟩;obtain⟨c,tv,q⟩:=rB P.hK S1 r1 q1;exact⟨c,tv,kq _ Z1 G1 H1 s1 S1 q⟩
theorem aG9(ha:JT X E a (wpT T a')):JW X E (.BoolOp .And [a] pos) (wpT T a'):=λF=>aBP (ha F)
theorem aGH(ha:JT X E a (wpT T a')):JW X E (.BoolOp .Or [a] pos) (wpT T a'):=λF=>aEJ (ha F)
theorem aIq(h:AO E F (wpT T (.an a' b')) σ H Q):aHZ (AO E F (wpT T a')) (AO E F (wpT T b')) σ H Q:=by
 obtain⟨σ',Z,G,Q',rs,S,h,kq⟩:=h;rw[wpT] at h;refine⟨σ',Z,G,_,rs,S,h,λd Z1 G1 H1 s1 S1 q=>?_⟩;cases d with
 | true=>rw[jd rfl] at q ⊢;exact⟨σ',Z1,G1,Q',rs.mono s1,S1,q,kq.mono s1⟩
 | false=>rw[jb Bool.false_ne_true] at q ⊢;exact kq _ _ _ _ s1 S1 q
theorem aJZ(h:AO E F (wpT T (.oo a' b')) σ H Q):tOr (AO E F (wpT T a')) (AO E F (wpT T b')) σ H Q:=by
 obtain⟨σ',Z,G,Q',rs,S,h,kq⟩:=h;rw[wpT] at h;refine⟨σ',Z,G,_,rs,S,h,λd Z1 G1 H1 s1 S1 q=>?_⟩;cases d with
 | false=>rw[jb Bool.false_ne_true] at q ⊢;exact⟨σ',Z1,G1,Q',rs.mono s1,S1,q,kq.mono s1⟩
 | true=>rw[jd rfl] at q ⊢;exact kq _ _ _ _ s1 S1 q
theorem aKq{aY:List Expr}(ha:JT X E a (wpT T a'))(hb:JW X E (.BoolOp .And (b::aY) pos) (wpT T b')):JW X E (.BoolOp .And (a::b::aY) pos) (wpT T (.an a' b')):=λF=>PW.imp (aEi (ha F) (hb F)) λ_ _ _ h=>aIq h
theorem aJI{aY:List Expr}(ha:JT X E a (wpT T a'))(hb:JW X E (.BoolOp .Or (b::aY) pos) (wpT T b')):JW X E (.BoolOp .Or (a::b::aY) pos) (wpT T (.oo a' b')):=λF=>PW.imp (aIm (ha F) (hb F)) λ_ _ _ h=>aJZ h
theorem JW.jt(h:JW X E e t):JT X E e t:=λF=>(h F).pt
theorem aKx(ha:JT X E a (wpT T a')):JT X E (.UnaryOp .Not a pos) (wpT T (.no a')):=λF =>
 PT.imp (aFN (ha F))<|by
   rintro σ H Q ⟨σ',Z,G,Q',rs,S,h,kq⟩;rw[wpT] at h;exact⟨σ',Z,G,_,rs,S,h,λd Z1 G1 H1 s1 S1 q=>kq _ _ _ _ s1 S1 q⟩
theorem aEk:JA X E [] (wpL T .nil):=λF=>PA.imp lS<|by rintro σ H Q ⟨σ',Z,G,Q',rs,S,h,kq⟩;rw[wpL] at h;exact kq [] [] Z G H rfl (aJ.refl Z) S rfl h
theorem aB8(ha:JE X E e (wpE T a'))(hr:JA X E es (wpL T b'))(hs:starEach (e::es) X.env=(false,eval e X.env)::starEach es X.env):JA X E (e::es) (wpL T (.cons a' b')):=λF =>
 PA.imp (fF (ha F) (hr F) hs)<|by
   rintro σ H Q ⟨σ',Z,G,Q',rs,S,h,kq⟩;rw[wpL] at h;exact⟨σ',Z,G,_,rs,S,h,λx v Z1 G1 H1 s1 S1 r1 q1=>⟨σ',Z1,G1,_,rs.mono s1,S1,q1,λxs vs Z2 G2 H2 l2 s2 S2 r2 q2=>kq (x::xs) (v::vs) _ _ _ (by rw[List.length_cons,l2];rfl) (s1.trans s2) S2 ⟨v,vs,rfl,r1.mono s2,r2⟩ q2⟩⟩
theorem aHr(h:JA X E es (wpL T es')):JE X E (.Tuple es x1 pos) (wpE T (.tup es')):=λF =>
 (aGZ (h F)).imp<|by
   rintro σ H Q ⟨σ',Z,G,Q',rs,S,h,kq⟩;refine⟨σ',Z,G,_,rs,S,h,λxs vs Z1 G1 H1 l1 s1 S1 r1 q1=>⟨by rw[<-r1.length];exact q1.1,λp n=>(kq.mono s1).newZ S1 n (jZ (S1.zn n) r1) q1.2⟩⟩
theorem pV(S:Sim E F H Z G)(n:H p=none)(r:RPs E Z xs vs)(q:nM m G xs Q')(kq:Kq E F Z Q' Q):Q (.ref p) (upd H p (.lst vs)):=by
 unfold nM at q;cases m with
 | true =>
   rw[jd rfl] at q;exact kq (.ref p) _ _ _ _ (aJ.refl Z) (S.new (go:=.lst xs) n ⟨vs,rfl,r⟩) rfl (q p (S.gn n))
 | false =>
   rw[jb Bool.false_ne_true] at q;exact kq.newZ S n (jQ (S.zn n) r) q
theorem aF8(h:JA X E es (wpL T es')):JE X E (.List es pos) (wpE T (.lst m es')):=λF =>
 (aHw (h F)).imp<|by
   rintro σ H Q ⟨σ',Z,G,Q',rs,S,h,kq⟩;refine⟨σ',Z,G,_,rs,S,h,λxs vs Z1 G1 H1 l1 s1 S1 r1 q1=>⟨by rw[<-r1.length];exact q1.1,λp n=>pV S1 n r1 q1.2 (kq.mono s1)⟩⟩
theorem aFd(P:Pl X E T k)(ha:JE X E a (wpE T a'))(hb:JE X E b (wpE T b'))(hs:BA b):JE X E (.Subscript a b pos) (wpE T (.idx a' b')):=λF =>
 (aI3 (aGp P.room P.hK) (ha F) (hb F) hs).imp λσ H Q h=>AF (by exact h)
noncomputable def aKX(E:Ev)(F:Hp)(t:PSt->Gh->(Option Int->Gh->Prop)->Prop):TO:=λσ H Q=>∃σ' Z G Q',RSt E Z σ' σ/\Sim E F H Z G/\t σ' G Q'/\∀o Z1 G1 H1,aJ Z Z1->Sim E F H1 Z1 G1->Q' o G1->Q o H1
def JO(X:Cx)(E:Ev)(e:Option Expr)(t:PSt->Gh->(Option Int->Gh->Prop)->Prop):Prop:= ∀F,PO X e (aKX E F t)
theorem PO.imp{t t':TO}(h:PO X e t)(g:∀σ H Q,t' σ H Q->t σ H Q):PO X e t':=λj4 s σ H Q I q=>h j4 s σ H Q I (g _ _ _ q)
theorem aFb:JO X E none (wpO T .nil):=λF=>PO.imp aBw<|by rintro σ H Q ⟨σ',Z,G,Q',rs,S,h,kq⟩;rw[wpO] at h;exact kq _ _ _ _ (aJ.refl Z) S h
theorem aAX(ha:JE X E a (wpE T a')):JO X E (some a) (wpO T (.tst a')):=λF=>PO.imp (KL (ha F))<|by
 rintro σ H Q ⟨σ',Z,G,Q',rs,S,h,kq⟩;rw[wpO] at h;exact⟨σ',Z,G,_,rs,S,h,by rintro x v Z1 G1 H1 s1 S1 r1 ⟨i,e,q⟩;subst e;exact⟨i,r1,kq _ _ _ _ s1 S1 q⟩⟩
theorem aE3{lo hi:Option Expr}{p2:Pos}{a' l' h':CE}(P:Pl X E T k)(ha:JE X E a (wpE T a'))(hl:JO X E lo (wpO T l'))(hu:JO X E hi (wpO T h')):JE X E (.Subscript a (.Slice lo hi none p2) pos) (wpE T (.sli a' l' h')):=λF =>
 (WL (aGb P.hK) (ha F) (hl F) (hu F)).imp<|by
   rintro σ H Q ⟨σ',Z,G,Q',rs,S,h,kq⟩;refine⟨σ',Z,G,_,rs,S,h,λx v Z1 G1 H1 s1 S1 r1 q1=>⟨σ',Z1,G1,_,rs.mono s1,S1,q1,λo Z2 G2 H2 s2 S2 q2=>⟨σ',Z2,G2,_,(rs.mono s1).mono s2,S2,q2,λo' Z3 G3 H3 s3 S3 q3=>?_⟩⟩⟩;exact⟨x,Z3,G3,Q',(r1.mono s2).mono s3,S3,q3,kq.mono ((s1.trans s2).trans s3)⟩
theorem aHJ(P:Pl X E T k)(ha:JE X E a (wpE T a')):JE X E (.Subscript a (.Slice none none (some (.UnaryOp .USub (.Constant (.int 1) k1 p1) p2)) p3) pos) (wpE T (.rev a')):=λF =>
 (aB0 (ha F)).imp<|by
   rintro σ H Q ⟨σ',Z,G,Q',rs,S,h,kq⟩;refine⟨σ',Z,G,_,rs,S,h,λx v Z1 G1 H1 s1 S1 r1 hq=>?_⟩;rcases hq with ⟨xs,e,q1⟩|⟨xs,e,q1⟩
   . obtain⟨a,vs,rfl,ha,ta⟩:=bX S1 r1 e;exact⟨a,vs,rfl,.inl ⟨ha,λp n=>(kq.mono s1).newZ S1 n (jQ (S1.zn n) ta.reverse) q1⟩⟩
   . subst e;obtain⟨a,vs,rfl,ha,ta⟩:=dN S1 r1;exact⟨a,vs,rfl,.inr ⟨P.hK▸ha,λp n=>(kq.mono s1).newZ S1 n (jZ (S1.zn n) ta.reverse) q1⟩⟩
theorem nW{ns:List Str}:∀{ns:List Str} {xs:List PV} {vs:List V},RPs E Z xs vs->(ns.zip xs).lookup f=some x->∃v,(ns.zip vs).lookup f=some v/\RP E Z x v
 | [],_,_,_,h=>by cases h
 | _::_,[],_,_,h=>by cases h
 | n::ns,y::ys,_,⟨v,r,e,r1,r2⟩,h=>by
   subst e;rw[List.zip_cons_cons,List.lookup_cons] at h;rw[List.zip_cons_cons,List.lookup_cons];cases hb:f==n with
   | true=>rw[hb] at h;cases h;exact⟨v,rfl,r1⟩
   | false=>rw[hb] at h;exact nW (ns:=ns) r2 h
theorem aFC(P:Pl X E T k)(ha:JE X E a (wpE T a'))(hb:attributeBase a f X.env (eval a X.env)=eval a X.env):JE X E (.Attribute a f pos) (wpE T (.att a' f)):=λF =>
 (aFE (ha F) hb).imp<|by
   rintro σ H Q ⟨σ',Z,G,Q',rs,S,h,kq⟩;refine⟨σ',Z,G,_,rs,S,h,λx v Z1 G1 H1 s1 S1 r1 zz=>?_⟩;obtain⟨c,ns,xs,y,hx,hf,hl,q⟩:=zz;obtain⟨h1,h2⟩:=P.fld c f hf;rcases hx with e|⟨a,e,hG⟩
   . subst e;obtain⟨p,dx,vs,e,hp,_,t⟩:=r1;obtain⟨w,e1,e2⟩:=nW (ns:=ns) t hl;exact⟨p,_,dx,_,w,e,S1.z _ _ hp,h1,h2,e1,kq.go s1 S1 e2 q⟩
   . subst e;obtain⟨_,o',hp,dx,vs,e',_,t⟩:=S1.g _ _ hG;subst e';obtain⟨w,e1,e2⟩:=nW (ns:=ns) t hl;exact⟨a,_,dx,_,w,r1,hp,h1,h2,e1,kq.go s1 S1 e2 q⟩
theorem aGY(P:Pl X E T k)(h40:QM bb=true->40<=k)(hg:Gl X x)(hm:X.mg x=none)(hv:bootBuiltins x=some (aAk bb))(hn:x≠"__name__")(hd:(x==("__debug__":Str))=false)
   (ha:JA X E (e::es) (wpL T es')) (he:starEach (e::es) X.env=(false,eval e X.env)::starEach es X.env) (hpl:(backTo pos (starEach es X.env)).any (·.1)=false):JE X E (.Call (.Name x p) (e::es) [] pos) (wpE T (.blt bb es')):=λF=>by
 have main:PE X (.Call (.Name x p) (e::es) [] pos) (tCB (TR E F (cT T.cs bb)) (xF E F (e::es).length (wpL T es'))):=by
   have hc:=MP (F:=F) (cs:=T.cs) P.hK P.cls bb λz=>P.calm (h40 z);cases bb<;>first
     | exact EU hc hg hm hv (ha F) hn hd he hpl
     | exact sI hc hg hm hv (ha F) hn hd he hpl
 exact main.imp<|by
   rintro σ H Q ⟨σ',Z,G,Q',rs,S,h,kq⟩;exact⟨σ',Z,G,_,rs,S,h,λxs vs Z1 G1 H1 l1 s1 S1 r1 q1=>⟨xs,Z1,G1,Q',r1,S1,q1,kq.mono s1⟩⟩
noncomputable def fV(E:Ev)(sp:Sp3):Sp:=λvs H Q _=>∃xs Z G F Q',RPs E Z xs vs/\Sim E F H Z G/\sp xs G Q'/\Kq E F Z Q' Q
noncomputable abbrev SpX:=List PV->Gh->PX->Prop
noncomputable def CZ(E:Ev)(sp:Sp3)(spx:SpX):Sp:=λvs H Q EX=>∃xs Z G F,RPs E Z xs vs/\Sim E F H Z G/\((∃Q',sp xs G Q'/\Kq E F Z Q' Q)∨∃x,spx xs G x/\KX E F Z x EX)
theorem aIx(h:∀e s',xeO X EX e s'->X.xe e s'):jX (CXo X.prog X.w) X EX:=by
 rintro j4 σ H s e s' I ⟨a,C,d,H',ee,ho,hb,un,hok,x,q⟩;have J:=I.call' ho un hok hb λb z=>nomatch z;exact h _ _ ⟨a,C,d,σ,H',ee,J.nopins,.inr (x.mono I.lo_le),q⟩
def Co(X:Cx)(E:Ev)(sp3:Sp3)(k:Nat)(ad:Addr)(fd:Ja)(ps:List Str):Prop:= ∃(CX:CXT) (sp:Sp) (EX:XK),aW X.prog X.w X.K X.mg X.base CX k ad fd ps sp/\jX CX X EX/\∀vs H Q,fV E sp3 vs H Q E0->sp vs H Q EX
theorem Co.of{sp3:Sp3}{ad:Addr}{fd:Ja}{ps:List Str}(K:aW X.prog X.w X.K X.mg X.base CX0 k ad fd ps (fV E sp3)):Co X E sp3 k ad fd ps:=⟨CX0,_,E0,K,hV,λ_ _ _ h=>h⟩
theorem Co.ofX{sp3 sp:Sp3}{spx:SpX}{ad:Addr}{fd:Ja}{ps:List Str}{x:PX}{EX:XK}(K:aW X.prog X.w X.K X.mg X.base (CXo X.prog X.w) k ad fd ps (CZ E sp spx))(h:∀xs G Q,sp3 xs G Q->sp xs G Q∨spx xs G x)
   (hx:∀e s',xeO X EX e s'->X.xe e s') (kx:KX E E.f0 E.z0 x EX):Co X E sp3 k ad fd ps:=by
 refine⟨_,_,EX,K,aIx hx,λvs H Q ⟨xs,Z,G,F,Q',r,S,q,kq⟩=>⟨xs,Z,G,F,r,S,?_⟩⟩;rcases h _ _ _ q with q|q
 . exact .inl ⟨Q',q,kq⟩
 . exact .inr ⟨x,q,λc ns ys d vs Z1 G1 H1 s1 S1 l r hd hn q=>kx c ns ys d vs Z1 G1 H1 S1.z0 S1.weakF l r hd hn q⟩
theorem UK{f:Str}{p:Pos}{ad:Addr}{ps:List Str}(K:Co X E (T.S f) k ad fd ps)(hr:aR k X.A)(hg:Gl X x)(hm:X.mg x=some (.ref ad))(hk:W.keepIn X.K (.ref ad)=true)
   (hb:aP X.K fd ps []) (hd:(x==("__debug__":Str))=false) (ha:JA X E (e::es) (wpL T es')) (he:starEach (e::es) X.env=(false,eval e X.env)::starEach es X.env) (hpl:(backTo pos (starEach es X.env)).any (·.1)=false) :
   JE X E (.Call (.Name x p) (e::es) [] pos) (wpE T (.cal f es')):=λF=>by
 obtain⟨CX,sp,EX,K,hp,hl⟩:=K;exact(aA0 K hr hg hm hk hb .nil hp (ha F) hd he hpl).imp<|by
   rintro σ H Q ⟨σ',Z,G,Q',rs,S,h,kq⟩;exact⟨σ',Z,G,_,rs,S,h,λxs vs Z1 G1 H1 l1 s1 S1 r1 q1=>by
     show sp (vs++[]) H1 Q EX;rw[List.append_nil];exact hl _ _ _ ⟨xs,Z1,G1,F,Q',r1,S1,q1,kq.mono s1⟩⟩
structure aK0(X:Cx)(E:Ev)(T:Tb):Prop where
 xi:∀c n r,(c,n,r)∈T.xi->XAt X.K (E.cls c)/\((∃a,X.mg n=some (.ref a)/\W.kitOne X.K (.ref (E.cls c)) (.ref a)=some r)∨∃t,X.mg n=none/\bootBuiltins n=some (.type t)/\n≠"__name__"/\W.kitOne X.K (.ref (E.cls c)) (.type t)=some r)
 fx:∀c f,(c,f)∈T.fx->XAt X.K (E.cls c)/\W.findIn X.K (.ref (E.cls c)) f=some none
structure EqM(X:Cx)(E:Ev)(T:Tb)(k:Nat)(c:J8)(m:Str):Prop where
 ex:∃ad fd,cR X.K (E.cls c) "__eq__" ad/\aW X.prog X.w X.K X.mg X.base CX0 k ad fd ["self","other"] (fV E (T.S m))/\aP X.K fd ["self","other"] []
theorem AD(P:Pl X E T (k+1))(he:∀y∈eqs,EqM X E T k y.1 y.2):OpR X (compareOp .Eq) (dL E F (NR T eqs)):=by
 rintro j4 s σ H v w u1 u2 Q I rv rw' ⟨x,y,Z,G,Q',r1,r2,S,q,kq⟩;rcases q with ⟨c,m,ns,xs,ns',ys,hm,e1,e2,q⟩|q
 . subst e1 e2;obtain⟨ad,fd,M,Fn,hb⟩:=(he _ hm).ex;have r1':=r1;have r2':=r2;obtain⟨a,dx,vs,ea,hz,_,_⟩:=r1';obtain⟨a2,dx2,vs2,ea2,hz2,_,_⟩:=r2';subst ea ea2;refine aHm M Fn (P.room.mono (Nat.le_succ k)) hb j4 s σ H _ _ u1 u2 Q I rv rw' ⟨a,dx,_,a2,dx2,_,rfl,rfl,S.z _ _ hz,S.z _ _ hz2,?_⟩;exact⟨[.ob c ns xs,.ob c ns' ys],Z,G,F,_,⟨_,_,rfl,r1,_,_,rfl,r2,rfl⟩,S,q,by rintro x v Z1 G1 H1 s1 S1 r3 ⟨b,e,q3⟩;subst e;have e:v= .bl b:=r3;exact⟨b,e,kq _ _ Z1 G1 H1 s1 S1 bG q3⟩⟩
 . exact VD P.room P.hK j4 s σ H v w u1 u2 Q I rv rw' ⟨x,y,Z,G,Q',r1,r2,S,q,kq⟩
theorem aFO(P:Pl X E T (k+1))(he:∀y∈eqs,EqM X E T k y.1 y.2)(hm:behindInMarks .Eq b=false)(ha:JE X E a (wpE T a'))(hb:JE X E b (wpE T b')):JE X E (.Compare a [.Eq] [b] pos) (wpE T (.ceq eqs a' b')):=λF =>
 (uO (AD P he) (ha F) (hb F) hm).imp λσ H Q h=>AF (by exact h)
theorem aEV(P:Pl X E T (k+1))(he:∀y∈eqs,EqM X E T k y.1 y.2)(hm:behindInMarks .Eq b=false)(ha:JE X E a (wpE T a'))(hb:JE X E b (wpE T b')):JT X E (.Compare a [.Eq] [b] pos) (wpT T (.tsb (.ceq eqs a' b'))):=λF =>
 PT.imp (KU (AD P he) (ha F) (hb F) hm) λσ H Q h=>AF (by
   obtain⟨σ',Z,G,Q',rs,S,h,kq⟩:=h;rw[wpT] at h;exact⟨σ',Z,G,_,rs,S,h,by rintro x v Z1 G1 H1 s1 S1 r1 ⟨kk,e,q⟩;subst e;exact⟨kk,r1,kq _ Z1 G1 H1 s1 S1 q⟩⟩)
noncomputable def aK7(neg:Bool):CmpOp:=if neg=true then .NotIn else .In
structure NeM(X:Cx)(E:Ev)(T:Tb)(k:Nat)(c:J8)(m:Str):Prop where
 ex:∃ad fd,NeC X.K (E.cls c)/\cR X.K (E.cls c) "__eq__" ad/\aW X.prog X.w X.K X.mg X.base CX0 k ad fd ["self","other"] (fV E (T.S m))/\aP X.K fd ["self","other"] []
structure LnM(X:Cx)(E:Ev)(T:Tb)(k:Nat)(c:J8)(m:Str):Prop where
 ex:∃ad fd,NeC X.K (E.cls c)/\cR X.K (E.cls c) "__len__" ad/\aW X.prog X.w X.K X.mg X.base CX0 k ad fd ["self"] (fV E (T.S m))/\aP X.K fd ["self"] []
theorem aBq(P:Pl X E T (k+1))(he:∀y∈eqs,NeM X E T k y.1 y.2):OpR X (compareOp .NotEq) (dL E F (aJN T eqs)):=by
 rintro j4 s σ H v w u1 u2 Q I rv rw' ⟨x,y,Z,G,Q',r1,r2,S,q,kq⟩;rcases q with ⟨c,m,ns,xs,ns',ys,hm,e1,e2,q⟩|q
 . subst e1 e2;obtain⟨ad,fd,N,M,Fn,hb⟩:=(he _ hm).ex;have r1':=r1;have r2':=r2;obtain⟨a,dx,vs,ea,hz,_,_⟩:=r1';obtain⟨a2,dx2,vs2,ea2,hz2,_,_⟩:=r2';subst ea ea2;refine aEg N M Fn P.room hb j4 s σ H _ _ u1 u2 Q I rv rw' ⟨a,dx,_,a2,dx2,_,rfl,rfl,S.z _ _ hz,S.z _ _ hz2,?_⟩;exact⟨[.ob c ns xs,.ob c ns' ys],Z,G,F,_,⟨_,_,rfl,r1,_,_,rfl,r2,rfl⟩,S,q,by rintro x v Z1 G1 H1 s1 S1 r3 ⟨b,e,q3⟩;subst e;have e:v= .bl b:=r3;exact⟨b,e,kq _ _ Z1 G1 H1 s1 S1 bG q3⟩⟩
 . exact TY P.room P.hK j4 s σ H v w u1 u2 Q I rv rw' ⟨x,y,Z,G,Q',r1,r2,S,q,kq⟩
theorem aB9{k:Nat}{f C p:Addr}{fd:Ja}{sp:Sp}{j4:List (Addr×Obj)}{σ:L2.St}{H:Hp}{s:J7}{Q:Bool->Hp->Prop}(N:NeC X.K C)(M:cR X.K C "__len__" f)(Fn:aW X.prog X.w X.K X.mg X.base CX0 k f fd ["self"] sp)(hr:aR (k+1) X.A)(hb:aP X.K fd ["self"] [])
   (I:Inv X j4 σ H s) {dx:Addr} {fs:List (Str×V)} (ea:H p=some (.ins C dx fs)) (q:sp [.ref p] H (λv H'=>∃n:Int,v= .int n/\0<=n/\n<2^63/\Q (n !=0) H') E0):wpAny (model X.prog X.w) X.A (truthy (.ref p)) (λc s'=>∃H',Inv X j4 σ H' s'/\Q c H') X.xe s:=by
 obtain⟨od,J⟩:=bB I ea;obtain⟨m,Fm⟩:=I.fr;refine LE.IC Fm I.ok.mod.kin J N.bo M.at_ M.fn
   (thn (eX (dvs:=[]) (ds:=[]) (vs:=[.ref p]) Fn hr.in1 I.env0.in1 hb .nil hV I (.cons rfl .nil) q) λv s' ⟨x,H',I',rx,n,e,h0,h1,q'⟩=>?_)
 subst e;obtain⟨t,rfl⟩:=rx;exact⟨n,t,rfl,h0,h1,H',I'.tok _,q'⟩
theorem aEU(P:Pl X E T (k+1))(hl:∀y∈ls,LnM X E T k y.1 y.2)(ha:JE X E a (wpE T a'))(he:∀whole,isTrue a X.env whole=(do let v <-whole;standAt a.pos;holding [v] (truthy v))):JT X E a (wpT T (.tso ls a')):=λF j4 s σ H Q I q=>by
 obtain⟨σ',Z,G,Q',rs,S,h,kq⟩:=q;rw[wpT] at h;have main:=ha F j4 s σ H (λv H1=>∃x Z1 G1,aJ Z Z1/\Sim E F H1 Z1 G1/\RP E Z1 x v/\aJV T ls x G1 Q') I ⟨σ',Z,G,_,rs,S,h,λx v Z1 G1 H1 s1 S1 r1 q1=>⟨x,Z1,G1,s1,S1,r1,q1⟩⟩;refine isTrue_plain (thn main λv s1 zz=>?_) (he _);obtain⟨y,H1,I1,r1,x,Z1,G1,sz,S1,rp,q1⟩:=zz;rcases q1 with ⟨c,m,ns,xs,hm,e,q1⟩|q1
 . subst e;obtain⟨ad,fd,N,M,Fn,hb⟩:=(hl _ hm).ex;have rp':=rp;obtain⟨p,dx,vs,ea,hz,_,_⟩:=rp';subst ea;cases r1;exact aB9 N M Fn P.room hb I1 (S1.z _ _ hz) ⟨[.ob c ns xs],Z1,G1,F,_,⟨_,_,rfl,rp,rfl⟩,S1,q1,by rintro x v Z2 G2 H2 s2 S2 r3 ⟨n,e,h0,h1,q3⟩;subst e;have e:v= .int n:=r3;exact⟨n,e,h0,h1,kq _ Z2 G2 H2 (sz.trans s2) S2 q3⟩⟩
 . obtain⟨c,tv,q⟩:=rB P.hK S1 rp q1;exact wO j4 s1 σ H1 y v Q I1 r1 ⟨c,tv,kq _ Z1 G1 H1 sz S1 q⟩
theorem aGy:JE X E (.Dict [] [] pos) (wpE T .emp):=λF=>aG7.imp<|by
 rintro σ H Q ⟨σ',Z,G,Q',rs,S,h,kq⟩;exact λp n=>kq.newZ (x:=.emp) S n ⟨p,rfl,aS⟩ h
theorem TC:OpR X (binaryOp .Add) (dL E F UV):=WY.imp λv u H Q h=>by
 obtain⟨x,y,Z,G,Q',r1,r2,S,⟨xs,ys,hx,hy,hz,q⟩,k⟩:=h;obtain⟨a,vs,rfl,ha,ta⟩:=bX S r1 hx;obtain⟨b,us,rfl,hb,tb⟩:=bX S r2 hy;exact⟨a,b,vs,us,rfl,rfl,ha,hb,by rw[<-ta.length,<-tb.length];exact hz,λp n=>pV (m:=true) S n (ta.append tb) (by unfold nM;rw[jd rfl];exact q) k⟩
theorem aBi(ha:JE X E a (wpE T a'))(hb:JE X E b (wpE T b')):JE X E (.BinOp a .Add b pos) (wpE T (.ladd a' b')):=λF =>
 (aCV TC (ha F) (hb F)).imp λσ H Q h=>AF (by exact h)
theorem aHP(ha:JE X E a (wpE T a'))(hb:JE X E e (wpE T b'))(hbase:attributeBase a "append" X.env (eval a X.env)=eval a X.env)
   (hs:starEach [e] X.env=[(false,eval e X.env)]) (hline:(j6.endLine==pos.line)=true):JE X E (.Call (.Attribute a "append" j6) [e] [] pos) (wpE T (.app a' b')):=λF=>by
 refine(aCP PySem.F.plainAttrs_list PySem.F.slot_list_append PySem.F.type_list_append xZ (ha F) (fF (hb F) lS hs) hbase (by rw[hs];rfl) hline hs rfl).imp λσ H Q ⟨σ',Z,G,Q',rs,S,h,kq⟩=>?_;refine⟨σ',Z,G,_,rs,S,h,λx v Z1 G1 H1 s1 S1 r1 zz=>?_⟩;obtain⟨⟨ys,hy⟩,q1⟩:=zz;obtain⟨a1,vs,rfl,hH,ta⟩:=bX S1 r1 hy;refine⟨.inl ⟨rfl,vs,SqL.of hH⟩,σ',Z1,G1,_,rs.mono s1,S1,q1,λy u Z2 G2 H2 s2 S2 r2 zz=>?_⟩;obtain⟨p,xs,ex,hG,hz,q⟩:=zz;subst ex;have e1:V.ref a1= .ref p:=r1;cases e1;obtain⟨_,o',hp,us,e',t⟩:=S2.g _ _ hG;subst e';refine⟨a1,us,u,rfl,rfl,hp,by rw[<-t.length];exact hz,kq.go (s1.trans s2) (S2.set (go:=.lst (xs++[y])) hG ⟨us++[u],rfl,t.append ⟨u,[],rfl,r2,rfl⟩⟩) oA q⟩
theorem aF5(ha:JE X E a (wpE T a'))(hbase:attributeBase a "pop" X.env (eval a X.env)=eval a X.env)
   (hline:(j6.endLine==pos.line)=true):JE X E (.Call (.Attribute a "pop" j6) [] [] pos) (wpE T (.pol a')):=λF=>by
 refine(IN PySem.F.plainAttrs_list PySem.F.slot_list_pop PySem.F.type_list_pop aFJ (ha F) hbase hline).imp λσ H Q zz=>?_;obtain⟨σ',Z,G,Q',rs,S,h,kq⟩:=zz;refine⟨σ',Z,G,_,rs,S,h,λx v Z1 G1 H1 s1 S1 r1 zz=>?_⟩;obtain⟨p,xs,w,ex,hG,hw,q⟩:=zz;subst ex;have e1:v= .ref p:=r1;subst e1;obtain⟨_,o',hp,us,e',t⟩:=S1.g _ _ hG;subst e';obtain⟨w',hw',rw'⟩:=t.get hw;refine⟨.inl ⟨rfl,us,SqL.of hp⟩,p,us,w',rfl,rfl,hp,by rw[<-t.length];exact hw',kq.go s1 (S1.set (go:=.lst xs.dropLast) hG ⟨_,rfl,t.dropLast⟩) rw' q⟩
theorem aHn(ha:JE X E a (wpE T a'))(hbase:attributeBase a "reverse" X.env (eval a X.env)=eval a X.env)
   (hline:(j6.endLine==pos.line)=true):JE X E (.Call (.Attribute a "reverse" j6) [] [] pos) (wpE T (.rvs a')):=λF=>by
 refine(IN PySem.F.plainAttrs_list PySem.F.slot_list_reverse PySem.F.type_list_reverse JL (ha F) hbase hline).imp λσ H Q zz=>?_;obtain⟨σ',Z,G,Q',rs,S,h,kq⟩:=zz;refine⟨σ',Z,G,_,rs,S,h,λx v Z1 G1 H1 s1 S1 r1 zz=>?_⟩;obtain⟨p,xs,ex,hG,q⟩:=zz;subst ex;have e1:v= .ref p:=r1;subst e1;obtain⟨_,o',hp,us,e',t⟩:=S1.g _ _ hG;subst e';refine⟨.inl ⟨rfl,us,SqL.of hp⟩,p,us,rfl,rfl,hp,kq.go s1 (S1.set (go:=.lst xs.reverse) hG ⟨_,rfl,t.reverse⟩) oA q⟩
theorem aF2(P:Pl X E T k)(hg:Gl X "list")(hm:X.mg "list"=none)(hs:starEach [a] X.env=[(false,eval a X.env)])(ha:JE X E a (wpE T a')):JE X E (.Call (.Name "list" p) [a] [] pos) (wpE T (.lco a')):=λF =>
 (sI yY hg hm boot_list (fF (ha F) lS hs) ddq ddq hs rfl).imp<|by
   rintro σ H Q ⟨σ',Z,G,Q',rs,S,h,kq⟩;refine⟨σ',Z,G,_,rs,S,h,λx v Z1 G1 H1 s1 S1 r1 zz=>?_⟩;obtain⟨xs,e,q⟩:=zz;rcases e with e|e
   . subst e;obtain⟨a,vs,rfl,ha,ta⟩:=dN S1 r1;exact⟨a,vs,rfl,.inr (P.hK▸ha),λl n=>pV (m:=true) S1 n ta (by unfold nM;rw[jd rfl];exact q) (kq.mono s1)⟩
   . obtain⟨a,vs,rfl,ha,ta⟩:=bX S1 r1 e;exact⟨a,vs,rfl,.inl (SqL.of ha),λl n=>pV (m:=true) S1 n ta (by unfold nM;rw[jd rfl];exact q) (kq.mono s1)⟩
theorem RPs.strs:∀{ns:List Str} {vs:List V},RPs E Z (ns.map PV.str) vs->vs=ns.map V.str
 | [],_,h=>h
 | _::_,_,⟨v,r,e1,h,t⟩=>by
   have h':v=V.str _:=h;subst e1 h';rw[RPs.strs t];rfl
theorem aFo(ha:JE X E a (wpE T a'))(hb:JE X E e (wpE T b'))(hbase:attributeBase a "join" X.env (eval a X.env)=eval a X.env)
   (hs:starEach [e] X.env=[(false,eval e X.env)]) (hline:(j6.endLine==pos.line)=true):JE X E (.Call (.Attribute a "join" j6) [e] [] pos) (wpE T (.joi a' b')):=λF=>by
 refine(aCP PySem.F.plainAttrs_str PySem.F.slot_str_join PySem.F.type_str_join aCq (ha F) (fF (hb F) lS hs) hbase (by rw[hs];rfl) hline hs rfl).imp λσ H Q ⟨σ',Z,G,Q',rs,S,h,kq⟩=>?_;refine⟨σ',Z,G,_,rs,S,h,λx v Z1 G1 H1 s1 S1 r1 zz=>?_⟩;obtain⟨sep,ex,q1⟩:=zz;subst ex;have ev:v= .str sep:=r1;subst ev;refine⟨rfl,σ',Z1,G1,_,rs.mono s1,S1,q1,λy u Z2 G2 H2 s2 S2 r2 zz=>?_⟩;obtain⟨ys,hy,hz,q⟩:=zz;obtain⟨a1,vs,rfl,hH,ta⟩:=bX S2 r2 hy;have:=ta.strs;subst this;exact⟨sep,a1,ys,rfl,rfl,hH,hz,(kq.mono (s1.trans s2)).here S2 q jY⟩
def JJ(X:Cx)(E:Ev)(parts:List Expr)(t:Str->PTE):Prop:= ∀F,PJ X parts (λout=>low E F (t out))
theorem aFh:JJ X E [] (wpJ T .nil):=by
 rintro F out j4 s σ H Q I ⟨σ',Z,G,Q',rs,S,h,kq⟩;rw[wpJ] at h;exact aFB out j4 s σ H Q I ⟨h.1,kq.here S h.2 jY⟩
theorem aGL(ha:JE X E e (wpE T a'))(hb:JJ X E es (wpJ T b'))(he:evalEach (e::es) X.env=eval e X.env::evalEach es X.env):JJ X E (e::es) (wpJ T (.cons a' b')):=by
 rintro F out j4 s σ H Q I ⟨σ',Z,G,Q',rs,S,h,kq⟩;rw[wpJ] at h;refine MV (ha F) (hb F) he out j4 s σ H Q I ⟨σ',Z,G,_,rs,S,h,λx v Z1 G1 H1 s1 S1 r1 zz=>?_⟩;obtain⟨y,ex,_,hz,q⟩:=zz;subst ex;exact⟨y,r1,hz,σ',Z1,G1,Q',rs.mono s1,S1,q,kq.mono s1⟩
theorem aH7(ha:JE X E e (wpE T a'))(hb:JJ X E es (wpJ T b'))(he:evalEach (.FormattedValue e (-1) none p::es) X.env=eval (.FormattedValue e (-1) none p) X.env::evalEach es X.env):JJ X E (.FormattedValue e (-1) none p::es) (wpJ T (.cons a' b')):=by
 rintro F out j4 s σ H Q I ⟨σ',Z,G,Q',rs,S,h,kq⟩;rw[wpJ] at h;refine MV (aIR (ha F)) (hb F) he out j4 s σ H Q I ⟨σ',Z,G,_,rs,S,h,λx v Z1 G1 H1 s1 S1 r1 zz=>?_⟩;obtain⟨y,ex,hy,hz,q⟩:=zz;subst ex;exact⟨y,r1,hy,y,rfl,hz,σ',Z1,G1,Q',rs.mono s1,S1,q,kq.mono s1⟩
theorem aGN{v1 v2:Expr}{aY:List Expr}{c':CE}(h:JJ X E (v1::v2::aY) (wpJ T c')):JE X E (.JoinedStr (v1::v2::aY) pos) (wpE T (.fst c')):=λF=>(aBS (h F)).imp<|by
 rintro σ H Q ⟨σ',Z,G,Q',rs,S,h,kq⟩;exact⟨σ',Z,G,Q',rs,S,h,kq⟩
noncomputable def bwN:Bn->Option Str
 | .len=>some "__len__"
 | .bool=>some "__len__"
 | .str=>some "__str__"
 | .repr=>some "__repr__"
 | _=>none
structure OwM(X:Cx)(E:Ev)(T:Tb)(k:Nat)(b:Bn)(c:J8)(m:Str):Prop where
 ex:∃ad fd k0 nm,k0+2<=k/\bwN b=some nm/\NeC X.K (E.cls c)/\cR X.K (E.cls c) nm ad/\aW X.prog X.w X.K X.mg X.base CX0 k0 ad fd ["self"] (fV E (T.S m))/\aP X.K fd ["self"] []
theorem aBh{b:Bn}(P:Pl X E T (k+1))(h40:QM b=true->40<=k)(he:∀y∈ls,OwM X E T k b y.1 y.2):bC X (aAk b) (TR E F (IT T b ls)):=by
 rintro j4 s σ H vs us Q I rv ⟨xs,Z,G,Q',r,S,q,kq⟩;rcases q with ⟨c,m,ns,ys,hm,ex,q⟩|q
 . subst ex;obtain⟨ad,fd,k0,nm,hk,en,N,M,Fn,hb⟩:=(he _ hm).ex;obtain⟨v,rfl,rp⟩:=zQ r;have rp':=rp;obtain⟨p,dx,ws,ea,hz,_,_⟩:=rp';subst ea;cases b<;>simp only[bwN,Option.some.injEq,reduceCtorEq] at en
   case len =>
     subst en;exact NQ M Fn (P.room.mono ooq) hb j4 s σ H _ us Q I rv ⟨p,dx,_,rfl,S.z _ _ hz,[.ob c ns ys],Z,G,F,_,⟨_,_,rfl,rp,rfl⟩,S,q,by rintro x v Z2 G2 H2 s2 S2 r3 ⟨n,e,h0,h1,q3⟩;subst e;have e:v= .int n:=r3;exact⟨n,e,h0,h1,kq _ _ Z2 G2 H2 s2 S2 bF q3⟩⟩
   case str =>
     subst en;exact NN M Fn (P.room.mono ooq) hb j4 s σ H _ us Q I rv ⟨p,dx,_,rfl,S.z _ _ hz,[.ob c ns ys],Z,G,F,_,⟨_,_,rfl,rp,rfl⟩,S,q,by rintro x v Z2 G2 H2 s2 S2 r3 ⟨n,e,q3⟩;subst e;have e:v= .str n:=r3;exact⟨n,e,kq _ _ Z2 G2 H2 s2 S2 jY q3⟩⟩
   case bool =>
     subst en;exact GE N.bo M Fn (P.room.mono ooq) hb j4 s σ H _ us Q I rv ⟨p,dx,_,rfl,S.z _ _ hz,[.ob c ns ys],Z,G,F,_,⟨_,_,rfl,rp,rfl⟩,S,q,by rintro x v Z2 G2 H2 s2 S2 r3 ⟨n,e,h0,h1,q3⟩;subst e;have e:v= .int n:=r3;exact⟨n,e,h0,h1,kq _ _ Z2 G2 H2 s2 S2 bG q3⟩⟩
   case repr =>
     subst en;exact IL M Fn (P.room.mono ooq) hb j4 s σ H _ us Q I rv ⟨p,dx,_,rfl,S.z _ _ hz,[.ob c ns ys],Z,G,F,_,⟨_,_,rfl,rp,rfl⟩,S,q,by rintro x v Z2 G2 H2 s2 S2 r3 ⟨n,e,q3⟩;subst e;have e:v= .str n:=r3;exact⟨n,e,kq _ _ Z2 G2 H2 s2 S2 jY q3⟩⟩
 . exact MP (F:=F) (cs:=T.cs) P.hK P.cls b (λz=>P.calm (Nat.le_succ_of_le (h40 z))) j4 s σ H vs us Q I rv ⟨xs,Z,G,Q',r,S,q,kq⟩
theorem aFY(P:Pl X E T (k+1))(h40:QM bb=true->40<=k)(ho:∀y∈ls,OwM X E T k bb y.1 y.2)(hg:Gl X x)(hm:X.mg x=none)(hv:bootBuiltins x=some (aAk bb))(hn:x≠"__name__")(hd:(x==("__debug__":Str))=false)
   (ha:JA X E (e::es) (wpL T es')) (he:starEach (e::es) X.env=(false,eval e X.env)::starEach es X.env) (hpl:(backTo pos (starEach es X.env)).any (·.1)=false):JE X E (.Call (.Name x p) (e::es) [] pos) (wpE T (.bow bb ls es')):=λF=>by
 have main:PE X (.Call (.Name x p) (e::es) [] pos) (tCB (TR E F (IT T bb ls)) (xF E F (e::es).length (wpL T es'))):=by
   have hc:=aBh (F:=F) P h40 ho;cases bb<;>first
     | exact EU hc hg hm hv (ha F) hn hd he hpl
     | exact sI hc hg hm hv (ha F) hn hd he hpl
 exact main.imp<|by
   rintro σ H Q ⟨σ',Z,G,Q',rs,S,h,kq⟩;exact⟨σ',Z,G,_,rs,S,h,λxs vs Z1 G1 H1 l1 s1 S1 r1 q1=>⟨xs,Z1,G1,Q',r1,S1,q1,kq.mono s1⟩⟩
mutual
theorem aGC:∀{x:PV} {d:PyData},dat x=some d->d.hasDict=false
 | .non,d,h=>by simp only[dat] at h;cases h;rfl
 | .bl _,d,h=>by simp only[dat] at h;cases h;rfl
 | .int _,d,h=>by simp only[dat] at h;cases h;rfl
 | .str _,d,h=>by simp only[dat] at h;cases h;rfl
 | .tup xs,d,h=>by
   simp only[dat] at h;split at h
   . rename_i ds e;cases h;unfold PyData.hasDict;exact dats_nd e
   . cases h
 | .lst xs,d,h=>by
   simp only[dat] at h;split at h
   . rename_i ds e;cases h;unfold PyData.hasDict;exact dats_nd e
   . cases h
 | .scr _,d,h=>by simp[dat] at h
 | .ob _ _ _,d,h=>by simp[dat] at h
 | .ref _,d,h=>by simp[dat] at h
 | .ty _,d,h=>by simp[dat] at h
 | .cl _,d,h=>by simp[dat] at h
 | .fn _,d,h=>by simp[dat] at h
 | .emp,d,h=>by simp[dat] at h
 | .dct _ _,d,h=>by simp[dat] at h
theorem dats_nd:∀{xs:List PV} {ds:List PyData},kA xs=some ds->PyData.hasDictAll ds=false
 | [],ds,h=>by simp only[kA] at h;cases h;rfl
 | x::xs,ds,h=>by
   simp only[kA] at h;split at h
   . rename_i d ds' e1 e2;cases h;unfold PyData.hasDictAll;rw[aGC e1,dats_nd e2];rfl
   . cases h
end
end
section
variable{X:Cx}{E:Ev}{T:Tb}{k:Nat}{F H Z:Hp}{G:Gh}
theorem LO(hK:E.K=X.K)(S:Sim E F H Z G)(r:RP E Z x v)(h:buP x G):BuV X.K H v:=by
 cases x with
 | non=>cases(show v= .non from r);exact .non
 | bl b=>cases(show v= .bl b from r);exact .bl b
 | int i=>cases(show v= .int i from r);exact .int i
 | str z=>cases(show v= .str z from r);exact .str z
 | tup xs =>
   obtain⟨a,vs,rfl,q,_⟩:=dN S r;exact .tup (hK▸q)
 | lst xs =>
   obtain⟨a,vs,rfl,q,_⟩:=bX S r rfl;exact .lst (SqL.of q)
 | scr ns =>
   obtain⟨a,rfl,q⟩:=r;exact .lst (hK▸S.z.seq q)
 | emp =>
   obtain⟨a,rfl,q⟩:=r;exact .dK (S.z _ _ q)
 | dct ks xs =>
   obtain⟨a,vs,rfl,q,_⟩:=r;exact .dK (S.z _ _ q)
 | ref p =>
   obtain⟨xs,e⟩:=h;obtain⟨a,vs,rfl,q,_⟩:=bX S r e;exact .lst (SqL.of q)
 | _=>exact h.elim
structure EqX(X:Cx)(E:Ev)(T:Tb)(k:Nat)(c:J8)(m:Str):Prop where
 m:EqM X E T k c m
 l:EqL X.K (E.cls c)
 d:∀d∈T.cs,d≠c->EqD X.K (E.cls c) (E.cls d)
theorem aC6(hK:E.K=X.K)(D:EqX X E T k c m)(S:Sim E F H Z G)(r:RP E Z y v)(h:anP T c y G):AnV X.K (E.cls c) H v:=by
 rcases h with h|⟨d,ns,ys,rfl,hd,ne⟩
 . exact .inl (LO hK S r h)
 . obtain⟨a,dx,vs,rfl,hz,_,_⟩:=r;exact .inr ⟨a,_,dx,_,rfl,S.z _ _ hz,(D.d d hd ne).dc⟩
theorem aAv(P:Pl X E T (k+1))(he:∀y∈eqs,EqX X E T k y.1 y.2):OpR X (compareOp .Eq) (dL E F (aJQ T eqs)):=by
 rintro j4 s σ H v w u1 u2 Q I rv rw' ⟨x,y,Z,G,Q',r1,r2,S,⟨c,m,ns,xs,hm,e1,an,q⟩,kq⟩;subst e1;have D:=he _ hm;obtain⟨ad,fd,M,Fn,hb⟩:=D.m.ex;have av:=aC6 P.hK D S r2 an;have r1':=r1;obtain⟨a,dx,vs,ea,hz,_,_⟩:=r1';subst ea;refine aGw D.l M Fn (P.room.mono (Nat.le_succ k)) hb j4 s σ H _ _ u1 u2 Q I rv rw' ⟨a,dx,_,rfl,S.z _ _ hz,av,?_⟩;exact⟨[.ob c ns xs,y],Z,G,F,_,⟨_,_,rfl,r1,_,_,rfl,r2,rfl⟩,S,q,by rintro x v Z1 G1 H1 s1 S1 r3 ⟨b,e,q3⟩;subst e;have e:v= .bl b:=r3;exact⟨b,e,kq _ _ Z1 G1 H1 s1 S1 bG q3⟩⟩
theorem aBj(P:Pl X E T (k+1))(he:∀y∈eqs,EqX X E T k y.1 y.2):OpR X (compareOp .Eq) (dL E F (aKH T eqs)):=by
 rintro j4 s σ H v w u1 u2 Q I rv rw' ⟨x,y,Z,G,Q',r1,r2,S,⟨c,m,ns,ys,hm,e1,an,q⟩,kq⟩;subst e1;have D:=he _ hm;obtain⟨ad,fd,M,Fn,hb⟩:=D.m.ex;have r2':=r2;obtain⟨a,dx,vs,ea,hz,_,_⟩:=r2';subst ea;have fin:fV E (T.S m) [.ref a,v] H (λv H'=>∃b,v= .bl b/\Q (.bl b) H') E0 :=
   ⟨[.ob c ns ys,x],Z,G,F,_,⟨_,_,rfl,r2,_,_,rfl,r1,rfl⟩,S,q,by rintro x v Z1 G1 H1 s1 S1 r3 ⟨b,e,q3⟩;subst e;have e:v= .bl b:=r3;exact⟨b,e,kq _ _ Z1 G1 H1 s1 S1 bG q3⟩⟩
 exact aGA D.l M Fn (P.room.mono (Nat.le_succ k)) hb j4 s σ H _ _ u1 u2 Q I rv rw' ⟨a,dx,_,rfl,S.z _ _ hz,LO P.hK S r1 an,fin⟩
structure NeX(X:Cx)(E:Ev)(T:Tb)(k:Nat)(c:J8)(m:Str):Prop where
 e:EqX X E T k c m
 n:NeC X.K (E.cls c)
theorem aAW(P:Pl X E T (k+1))(he:∀y∈eqs,NeX X E T k y.1 y.2):OpR X (compareOp .NotEq) (dL E F (aKi T eqs)):=by
 rintro j4 s σ H v w u1 u2 Q I rv rw' ⟨x,y,Z,G,Q',r1,r2,S,⟨c,m,ns,xs,hm,e1,an,q⟩,kq⟩;subst e1;have D:=(he _ hm).e;obtain⟨ad,fd,M,Fn,hb⟩:=D.m.ex;have av:=aC6 P.hK D S r2 an;have r1':=r1;obtain⟨a,dx,vs,ea,hz,_,_⟩:=r1';subst ea;refine aF1 D.l (he _ hm).n M Fn P.room hb j4 s σ H _ _ u1 u2 Q I rv rw' ⟨a,dx,_,rfl,S.z _ _ hz,av,?_⟩;exact⟨[.ob c ns xs,y],Z,G,F,_,⟨_,_,rfl,r1,_,_,rfl,r2,rfl⟩,S,q,by rintro x v Z1 G1 H1 s1 S1 r3 ⟨b,e,q3⟩;subst e;have e:v= .bl b:=r3;exact⟨b,e,kq _ _ Z1 G1 H1 s1 S1 bG q3⟩⟩
theorem KO{j4:List (Addr×Obj)}{σ:L2.St}{s:J7}{a C dx:Addr}{vs:List V}{fs:List (Str×V)}(h1:SqT X.K H a vs)(h2:H a=some (.ins C dx fs))(I:Inv X j4 σ H s):False:=by
 obtain⟨its,_,⟨o,ho,hc,_⟩,_⟩:=I.tuple h1;obtain⟨od,J⟩:=bB I h2;have e:=J.at_.symm.trans ho;cases e;have hc2:=J.cls.symm.trans hc;cases hc2
mutual
theorem aFe{σ:L2.St}(hK:E.K=X.K)(I:Inv X j4 σ H s)(S:Sim E F H Z G):∀{x y:PV} {v:V},pln x=true->pln y=true->RP E Z x v->RP E Z y v->x=y
 | x,y,v,hx,hy,rx,ry=>by
   cases x with
   | tup xs =>
     obtain⟨a,vs,e,q,t⟩:=rx;subst e;cases y with
     | tup ys =>
       obtain⟨a',vs',e',q',t'⟩:=ry;cases e';have e:=I.tuple_inj (hK▸bM S.z q) (hK▸bM S.z q');subst e;rw[rps_inj hK I S (by unfold pln at hx;exact hx) (by unfold pln at hy;exact hy) t t']
     | ob c' ns' ys =>
       obtain⟨a',dx',ws',e',hz',_,_⟩:=ry;cases e';exact(KO (hK▸bM S.z q) (S.z _ _ hz') I).elim
     | _=>first|(cases ry;done)|(unfold pln at hy;cases hy)
   | ob c ns xs =>
     obtain⟨a,dx,ws,e,hz,hl,t⟩:=rx;subst e;cases y with
     | tup ys =>
       obtain⟨a',vs',e',q',t'⟩:=ry;cases e';exact(KO (hK▸bM S.z q') (S.z _ _ hz) I).elim
     | ob c' ns' ys =>
       obtain⟨a',dx',ws',e',hz',hl',t'⟩:=ry;cases e';rw[hz] at hz';have z:=Option.some.inj hz';injection z with _ _ z3;have e1:ns=ns':=by
         have:=congrArg (List.map Prod.fst) z3;rw[List.map_fst_zip ooq,List.map_fst_zip ooq] at this;exact this
       have e2:ws=ws':=by
         have:=congrArg (List.map Prod.snd) z3;rw[List.map_snd_zip ooq,List.map_snd_zip ooq] at this;exact this
       subst e1 e2;unfold pln at hx hy;rw[Bool.and_eq_true,beq_iff_eq] at hx hy;rw[hx.1,hy.1,rps_inj hK I S hx.2 hy.2 t t']
     | _=>first|(cases ry;done)|(unfold pln at hy;cases hy)
   | _ =>first
     | (unfold pln at hx;cases hx;done)
     | (cases y with
       | tup ys=>obtain⟨a',vs',e',q',t'⟩:=ry;rw[e'] at rx;cases rx
       | ob c' ns' ys=>obtain⟨a',dx',ws',e',_⟩:=ry;rw[e'] at rx;cases rx
       | _=>first|(unfold pln at hy;cases hy;done)|(have h1:=(show v=_ from rx).symm.trans (show v=_ from ry);cases h1;rfl)|(have h1:=(show v=_ from rx).symm.trans (show v=_ from ry);cases h1))
theorem rps_inj{j4:List (Addr×Obj)}{σ:L2.St}{s:J7}(hK:E.K=X.K)(I:Inv X j4 σ H s)(S:Sim E F H Z G):∀{xs ys:List PV} {vs:List V},rO xs=true->rO ys=true->RPs E Z xs vs->RPs E Z ys vs->xs=ys
 | [],[],_,_,_,_,_=>rfl
 | [],y::ys,vs,_,_,rx,ry=>by
   obtain⟨v,r,e,_⟩:=ry;rw[e] at rx;cases rx
 | x::xs,[],vs,_,_,rx,ry=>by
   obtain⟨v,r,e,_⟩:=rx;rw[e] at ry;cases ry
 | x::xs,y::ys,vs,hx,hy,rx,ry=>by
   obtain⟨v,r,e,r1,r2⟩:=rx;obtain⟨v',r',e',r1',r2'⟩:=ry;subst e;cases e';unfold rO at hx hy;rw[Bool.and_eq_true] at hx hy;rw[aFe hK I S hx.1 hy.1 r1 r1',rps_inj hK I S hx.2 hy.2 r2 r2']
end
noncomputable def Idn(p:Addr)(c:J8)(x:PV):List PV->List V->Prop
 | y::ys,v::vs=>((∃ns' ys',y= .ob c ns' ys')->v= .ref p->plO x=true->plO y=true->y=x)/\Idn p c x ys vs
 | _,_=>True
theorem zH{j4:List (Addr×Obj)}{σ:L2.St}{p:Addr}{c:J8}{ns:List Str}(hK:E.K=X.K)(I:Inv X j4 σ H s)(S:Sim E F H Z G)(rx:RP E Z (.ob c ns xs) (.ref p)):∀{ys:List PV} {vs:List V},RPs E Z ys vs->Idn p c (.ob c ns xs) ys vs
 | [],_,_=>by unfold Idn;trivial
 | y::ys,vs,r=>by
   obtain⟨v,r',rfl,ry,rr⟩:=r;refine⟨?_,zH hK I S rx rr⟩;rintro⟨ns',ys',rfl⟩ rfl h1 h2;obtain⟨a,dx,ws,ea,hz,hl,t⟩:=rx;obtain⟨a',dx',ws',ea',hz',hl',t'⟩:=ry;cases ea;cases ea';rw[hz] at hz';have z:=Option.some.inj hz';injection z with _ _ z3;have e1:ns=ns':=by
     have:=congrArg (List.map Prod.fst) z3;rw[List.map_fst_zip ooq,List.map_fst_zip ooq] at this;exact this
   have e2:ws=ws':=by
     have:=congrArg (List.map Prod.snd) z3;rw[List.map_snd_zip ooq,List.map_snd_zip ooq] at this;exact this
   subst e1 e2;rw[rps_inj hK I S (by unfold plO at h1;exact h1) (by unfold plO at h2;exact h2) t t']
noncomputable def Idq(c:J8):List PV->List V->List PV->List V->Prop
 | x::xs,u::us,y::ys,v::vs=>((∃ns a,x= .ob c ns a)->(∃ns a,y= .ob c ns a)->u=v->plO x=true->plO y=true->x=y)/\Idq c xs us ys vs
 | _,_,_,_=>True
theorem aAh{j4:List (Addr×Obj)}{σ:L2.St}{s:J7}{c:J8}(hK:E.K=X.K)(I:Inv X j4 σ H s)(S:Sim E F H Z G):∀{xs ys:List PV} {us vs:List V},RPs E Z xs us->RPs E Z ys vs->Idq c xs us ys vs
 | [],_,_,_,_,_=>by unfold Idq;trivial
 | _::_,[],us,vs,r1,r2=>by
   obtain⟨_,_,rfl,_⟩:=r1;cases(show vs=[] from r2);unfold Idq;trivial
 | x::xs,y::ys,_,_,⟨u,us,e1,rx,rs⟩,⟨v,vs,e2,ry,rr⟩=>by
   subst e1 e2;refine⟨?_,aAh hK I S rs rr⟩;rintro⟨ns,a,rfl⟩ ⟨ns',a',rfl⟩ rfl h1 h2;have rx':=rx;obtain⟨p,dx,ws,rfl,_,_,_⟩:=rx';exact((zH hK I S rx (ys:=[.ob c ns' a']) (vs:=[.ref p]) ⟨_,_,rfl,ry,rfl⟩).1 ⟨_,_,rfl⟩ rfl h1 h2).symm
theorem JR:∀{xs ys:List PV} {us vs:List V} {Z H:Hp} {G:Gh},Idq c xs us ys vs->RPs E Z xs us->RPs E Z ys vs->Sim E F H Z G->tqP T c m Q' xs ys G->(∀b Z1 G1 H1,aJ Z Z1->Sim E F H1 Z1 G1->Q' b G1->Q b H1)->
     tqW (E.cls c) (fV E (T.S m)) Q us vs H
 | [],[],us,vs,Z,H,G,_,r1,r2,S,h,kq=>by
   cases(show us=[] from r1);cases(show vs=[] from r2);exact kq true Z G H (aJ.refl Z) S h
 | [],_::_,us,vs,Z,H,G,_,r1,r2,S,h,kq=>by
   cases(show us=[] from r1);obtain⟨_,_,rfl,_⟩:=r2;exact kq false Z G H (aJ.refl Z) S h
 | _::_,[],us,vs,Z,H,G,_,r1,r2,S,h,kq=>by
   cases(show vs=[] from r2);obtain⟨_,_,rfl,_⟩:=r1;exact kq false Z G H (aJ.refl Z) S h
 | x::xs,y::ys,us,vs,Z,H,G,hid,r1,r2,S,h,kq=>by
   obtain⟨u,us',rfl,rx,rs⟩:=r1;obtain⟨v,vs',rfl,ry,rr⟩:=r2;obtain⟨h1,h2,⟨ns,a,ns',a',rfl,rfl⟩,q0,q⟩:=h;have rx':=rx;have ry':=ry;obtain⟨p,dx,ws,rfl,hz,_,_⟩:=rx';obtain⟨p',dx',ws',rfl,hz',_,_⟩:=ry';refine⟨p,p',dx,_,dx',_,rfl,rfl,S.z _ _ hz,S.z _ _ hz',λe=>?_,λ_=>?_⟩
   . exact JR hid.2 rs rr S (q0 (hid.1 ⟨_,_,rfl⟩ ⟨_,_,rfl⟩ (by rw[e]) h1 h2)) kq
   . refine⟨[.ob c ns a,.ob c ns' a'],Z,G,F,_,⟨_,_,rfl,rx,_,_,rfl,ry,rfl⟩,S,q,λx v Z1 G1 H1 s1 S1 r3 zz=>?_⟩;obtain⟨b,e,q3⟩:=zz;subst e;have e:v= .bl b:=r3;refine⟨b,e,?_⟩;cases b with
     | true=>rw[jd rfl] at q3 ⊢;exact JR hid.2 (rs.mono s1) (rr.mono s1) S1 q3 λb Z2 G2 H2 s2 S2 q2=>kq b Z2 G2 H2 (s1.trans s2) S2 q2
     | false=>rw[jb Bool.false_ne_true] at q3 ⊢;exact kq false Z1 G1 H1 s1 S1 q3
theorem aFs(P:Pl X E T (k+1))(he:EqM X E T k c m):OpR X (compareOp .Eq) (dL E F (pTq T c m)):=by
 rintro j4 s σ H v w u1 u2 Q I rv rw' ⟨x,y,Z,G,Q',r1,r2,S,⟨xs,ys,e1,e2,q⟩,kq⟩;subst e1 e2;obtain⟨ad,fd,M,Fn,hb⟩:=he.ex;obtain⟨a,us,rfl,ha,ta⟩:=dN S r1;obtain⟨b,vs,rfl,hb2,tb⟩:=dN S r2;exact aJD M Fn P.room hb j4 s σ H _ _ u1 u2 Q I rv rw' ⟨a,b,us,vs,rfl,rfl,P.hK▸ha,P.hK▸hb2,JR (aAh P.hK I S ta tb) ta tb S q λb Z1 G1 H1 s1 S1 q1=>kq _ _ Z1 G1 H1 s1 S1 bG q1⟩
theorem aHA(P:Pl X E T (k+1))(he:EqM X E T k c m)(hm:behindInMarks .Eq b=false)(ha:JE X E a (wpE T a'))(hb:JE X E b (wpE T b')):JE X E (.Compare a [.Eq] [b] pos) (wpE T (.teq c m a' b')):=λF =>
 (uO (aFs P he) (ha F) (hb F) hm).imp λσ H Q h=>AF (by exact h)
theorem YL(hK:E.K=X.K)(he:∀y∈eqs,EqX X E T k y.1 y.2)(hm:(c,m)∈eqs)(hc:c∈T.cs) :
   ∀{ys:List PV} {vs:List V} {Z H:Hp} {G:Gh},Idn p c (.ob c ns xs) ys vs->RPs E Z ys vs->Sim E F H Z G->RP E Z (.ob c ns xs) (.ref p)->inP T eqs c m (.ob c ns xs) Q' ys G->(∀b Z1 G1 H1,aJ Z Z1->Sim E F H1 Z1 G1->Q' b G1->Q b H1)->
     inT X k (E.cls c) p Q vs H
 | [],vs,Z,H,G,hid,r,S,rx,h,kq=>by
   cases(show vs=[] from r);exact kq false Z G H (aJ.refl Z) S h
 | y::ys,vs,Z,H,G,hid,r,S,rx,h,kq=>by
   obtain⟨v,r',rfl,ry,rr⟩:=r;have rx':=rx;obtain⟨a,dx,ws,ea,hz,_,_⟩:=rx';cases ea;refine⟨⟨dx,_,S.z _ _ hz⟩,?_⟩;have nxt:∀{b:Bool} {Z1 H1:Hp} {G1:Gh},aJ Z Z1->Sim E F H1 Z1 G1->(if b=true then Q' true G1 else inP T eqs c m (.ob c ns xs) Q' ys G1)->if b=true then Q true H1 else inT X k (E.cls c) p Q r' H1:=λ{b Z1 H1 G1} s1 S1 q=>by
     cases b with
     | true=>rw[jd rfl] at q ⊢;exact kq true Z1 G1 H1 s1 S1 q
     | false =>
       rw[jb Bool.false_ne_true] at q ⊢;exact YL hK he hm hc hid.2 (rr.mono s1) S1 (rx.mono s1) q λb Z2 G2 H2 s2 S2 q2=>kq b Z2 G2 H2 (s1.trans s2) S2 q2
   have D:=he _ hm;rcases h with ⟨⟨ns',ys',rfl⟩,q0,q⟩|⟨an,q⟩|⟨d,m',ns',ys',hd,hdc,hne,rfl,q⟩
   . have ry':=ry;obtain⟨a2,dx2,ws2,ea2,hz2,_,_⟩:=ry';subst ea2;by_cases e:a2=p
     . exact .inl ⟨by rw[e],kq true Z G H (aJ.refl Z) S (q0 (hid.1 ⟨_,_,rfl⟩ (by rw[e])))⟩
     . obtain⟨ad,fd,M,Fn,hb⟩:=D.m.ex;refine .inr ⟨_,_,.own e (S.z _ _ hz2) (.inl rfl) M Fn hb,?_⟩;exact⟨[.ob c ns' ys',.ob c ns xs],Z,G,F,_,⟨_,_,rfl,ry,_,_,rfl,rx,rfl⟩,S,q,by rintro x v Z1 G1 H1 s1 S1 r3 ⟨b,e,q3⟩;subst e;have e:v= .bl b:=r3;exact⟨b,e,nxt s1 S1 q3⟩⟩
   . obtain⟨ad,fd,M,Fn,hb⟩:=D.m.ex;refine .inr ⟨_,_,.bu (LO hK S ry an) D.l M Fn hb,?_⟩;exact⟨[.ob c ns xs,y],Z,G,F,_,⟨_,_,rfl,rx,_,_,rfl,ry,rfl⟩,S,q,by rintro x v Z1 G1 H1 s1 S1 r3 ⟨b,e,q3⟩;subst e;have e:v= .bl b:=r3;exact⟨b,e,nxt s1 S1 q3⟩⟩
   . have ry':=ry;obtain⟨a2,dx2,ws2,ea2,hz2,_,_⟩:=ry';subst ea2;have D2:=he _ hd;have dd:=D.d d hdc hne;have e:a2≠p:=λe=>by
       subst e;rw[hz] at hz2;have z:=Option.some.inj hz2;injection z with z1;exact dd.ne z1.symm
     obtain⟨ad,fd,M,Fn,hb⟩:=D2.m.ex;refine .inr ⟨_,_,.own e (S.z _ _ hz2) (.inr dd.cd) M Fn hb,?_⟩;exact⟨[.ob d ns' ys',.ob c ns xs],Z,G,F,_,⟨_,_,rfl,ry,_,_,rfl,rx,rfl⟩,S,q,by rintro x v Z1 G1 H1 s1 S1 r3 ⟨b,e,q3⟩;subst e;have e:v= .bl b:=r3;exact⟨b,e,nxt s1 S1 q3⟩⟩
theorem ZU(hK:E.K=X.K)(he:∀y∈eqs,EqX X E T k y.1 y.2)(hm:(c,m)∈eqs)(hc:c∈T.cs) :
   ∀{ys:List PV} {vs:List V} {Z H:Hp} {G:Gh},Idn p c (.ob c ns xs) ys vs->RPs E Z ys vs->Sim E F H Z G->Z l=some (.lst all)->RP E Z (.ob c ns xs) (.ref p)->inP T eqs c m (.ob c ns xs) Q' ys G->(∀b Z1 G1 H1,aJ Z Z1->Sim E F H1 Z1 G1->Q' b G1->Q b H1)->
     inW X k (E.cls c) l p all Q vs H
 | [],vs,Z,H,G,hid,r,S,hl,rx,h,kq=>by
   cases(show vs=[] from r);exact⟨S.z _ _ hl,kq false Z G H (aJ.refl Z) S h⟩
 | y::ys,vs,Z,H,G,hid,r,S,hl,rx,h,kq=>by
   obtain⟨v,r',rfl,ry,rr⟩:=r;have rx':=rx;obtain⟨a,dx,ws,ea,hz,_,_⟩:=rx';cases ea;refine⟨S.z _ _ hl,⟨dx,_,S.z _ _ hz⟩,?_⟩;have nxt:∀{b:Bool} {Z1 H1:Hp} {G1:Gh},aJ Z Z1->Sim E F H1 Z1 G1->(if b=true then Q' true G1 else inP T eqs c m (.ob c ns xs) Q' ys G1)->if b=true then Q true H1 else inW X k (E.cls c) l p all Q r' H1:=λ{b Z1 H1 G1} s1 S1 q=>by
     cases b with
     | true=>rw[jd rfl] at q ⊢;exact kq true Z1 G1 H1 s1 S1 q
     | false =>
       rw[jb Bool.false_ne_true] at q ⊢;exact ZU hK he hm hc hid.2 (rr.mono s1) S1 (s1 _ _ hl) (rx.mono s1) q λb Z2 G2 H2 s2 S2 q2=>kq b Z2 G2 H2 (s1.trans s2) S2 q2
   have D:=he _ hm;rcases h with ⟨⟨ns',ys',rfl⟩,q0,q⟩|⟨an,q⟩|⟨d,m',ns',ys',hd,hdc,hne,rfl,q⟩
   . have ry':=ry;obtain⟨a2,dx2,ws2,ea2,hz2,_,_⟩:=ry';subst ea2;by_cases e:a2=p
     . exact .inl ⟨by rw[e],kq true Z G H (aJ.refl Z) S (q0 (hid.1 ⟨_,_,rfl⟩ (by rw[e])))⟩
     . obtain⟨ad,fd,M,Fn,hb⟩:=D.m.ex;refine .inr ⟨_,_,.own e (S.z _ _ hz2) (.inl rfl) M Fn hb,?_⟩;exact⟨[.ob c ns' ys',.ob c ns xs],Z,G,F,_,⟨_,_,rfl,ry,_,_,rfl,rx,rfl⟩,S,q,by rintro x v Z1 G1 H1 s1 S1 r3 ⟨b,e,q3⟩;subst e;have e:v= .bl b:=r3;exact⟨b,e,nxt s1 S1 q3⟩⟩
   . obtain⟨ad,fd,M,Fn,hb⟩:=D.m.ex;refine .inr ⟨_,_,.bu (LO hK S ry an) D.l M Fn hb,?_⟩;exact⟨[.ob c ns xs,y],Z,G,F,_,⟨_,_,rfl,rx,_,_,rfl,ry,rfl⟩,S,q,by rintro x v Z1 G1 H1 s1 S1 r3 ⟨b,e,q3⟩;subst e;have e:v= .bl b:=r3;exact⟨b,e,nxt s1 S1 q3⟩⟩
   . have ry':=ry;obtain⟨a2,dx2,ws2,ea2,hz2,_,_⟩:=ry';subst ea2;have D2:=he _ hd;have dd:=D.d d hdc hne;have e:a2≠p:=λe=>by
       subst e;rw[hz] at hz2;have z:=Option.some.inj hz2;injection z with z1;exact dd.ne z1.symm
     obtain⟨ad,fd,M,Fn,hb⟩:=D2.m.ex;refine .inr ⟨_,_,.own e (S.z _ _ hz2) (.inr dd.cd) M Fn hb,?_⟩;exact⟨[.ob d ns' ys',.ob c ns xs],Z,G,F,_,⟨_,_,rfl,ry,_,_,rfl,rx,rfl⟩,S,q,by rintro x v Z1 G1 H1 s1 S1 r3 ⟨b,e,q3⟩;subst e;have e:v= .bl b:=r3;exact⟨b,e,nxt s1 S1 q3⟩⟩
theorem LP(P:Pl X E T (k+1))(he:∀y∈eqs,EqX X E T k y.1 y.2):OpR X (compareOp (aK7 neg)) (dL E F (aHE T eqs neg)):=by
 rintro j4 s σ H v w u1 u2 Q I rv rw' ⟨x,y,Z,G,Q',r1,r2,S,⟨c,m,ns,xs,ys,hm,hc,e1,e2,q⟩,kq⟩;subst e1;have r1':=r1;obtain⟨a,dx,vs,ea,hz,_,_⟩:=r1';subst ea;have kq':∀b Z1 G1 H1,aJ Z Z1->Sim E F H1 Z1 G1->Q' (.bl (if neg=true then !b else b)) G1->Q (.bl (if neg=true then !b else b)) H1:=λb Z1 G1 H1 s1 S1 q=>kq _ _ Z1 G1 H1 s1 S1 bG q;rcases e2 with rfl|⟨hn,rfl⟩
 . obtain⟨l,ws,el,hl,t⟩:=r2;subst el;have h0:=ZU (F:=F) (l:=l) (all:=ws) P.hK he hm hc (zH P.hK I S r1 t) t S hl r1 q kq';cases neg with
   | true=>exact QC P.room j4 s σ H _ _ u1 u2 Q I rv rw' ⟨a,l,ws,rfl,rfl,h0⟩
   | false=>exact aEG P.room j4 s σ H _ _ u1 u2 Q I rv rw' ⟨a,l,ws,rfl,rfl,h0⟩
 . subst hn;have r2':=r2;obtain⟨l,ws,el,hl,t⟩:=dN S r2';subst el;exact aGM P.room j4 s σ H _ _ u1 u2 Q I rv rw' ⟨a,l,ws,rfl,rfl,P.hK▸hl,YL (F:=F) P.hK he hm hc (zH P.hK I S r1 t) t S r1 q kq'⟩
noncomputable def exB:CmpOp->Bool
 | .Eq=>true
 | .NotEq=>true
 | .In=>true
 | .NotIn=>true
 | _=>false
theorem aBf(P:Pl X E T (k+1))(he:∀y∈eqs,NeX X E T k y.1 y.2)(ho:exB op=true):OpR X (compareOp op) (dL E F (pX T op eqs)):=by
 have hq:∀y∈eqs,EqX X E T k y.1 y.2:=λy hy=>(he y hy).e;have hm:∀y∈eqs,EqM X E T k y.1 y.2:=λy hy=>(he y hy).e.m;have hn:∀y∈eqs,NeM X E T k y.1 y.2:=λy hy=>by
   obtain⟨ad,fd,a,b,c⟩:=(he y hy).e.m.ex;exact⟨ad,fd,(he y hy).n,a,b,c⟩
 cases op with
 | Eq =>
   refine OpR.imp (OpR.or (AD (F:=F) P hm) (OpR.or (aAv (F:=F) P hq) (aBj (F:=F) P hq))) λx y H Q zz=>?_;obtain⟨a,b,Z,G,Q',r1,r2,S,q,kq⟩:=zz;rcases q with q|q|q
   . exact .inl ⟨a,b,Z,G,Q',r1,r2,S,q,kq⟩
   . exact .inr (.inl ⟨a,b,Z,G,Q',r1,r2,S,q,kq⟩)
   . exact .inr (.inr ⟨a,b,Z,G,Q',r1,r2,S,q,kq⟩)
 | NotEq =>
   refine OpR.imp (OpR.or (aBq (F:=F) P hn) (aAW (F:=F) P he)) λx y H Q zz=>?_;obtain⟨a,b,Z,G,Q',r1,r2,S,q,kq⟩:=zz;rcases q with q|q
   . exact .inl ⟨a,b,Z,G,Q',r1,r2,S,q,kq⟩
   . exact .inr ⟨a,b,Z,G,Q',r1,r2,S,q,kq⟩
 | In=>exact LP (F:=F) (neg:=false) P hq
 | NotIn=>exact LP (F:=F) (neg:=true) P hq
 | _=>cases ho
variable{a b:Expr}{pos:Pos}
theorem aHO(P:Pl X E T (k+1))(he:∀y∈eqs,NeX X E T k y.1 y.2)(ho:exB op=true)(hm:behindInMarks op b=false)(ha:JE X E a (wpE T a'))(hb:JE X E b (wpE T b')):JE X E (.Compare a [op] [b] pos) (wpE T (.cex op eqs a' b')):=λF =>
 (uO (aBf P he ho) (ha F) (hb F) hm).imp λσ H Q h=>AF (by exact h)
end
section
variable{X:Cx}{E:Ev}{T:Tb}{k:Nat}{pos:Pos}{a b c e:Expr}
theorem AQ(hN:X.N.Nodup)(hi:X.N[i]? =some x)(hx:Loc X.env.scope x)(hf:X.fn x=true∨X.env.scope.names.lookup x=some .local):JG X E (.Name x pos) (wpG T (.gn i)):=λF =>
 (KN hN hi hx hf).imp<|by
   rintro v σ H Q ⟨x,σ',Z,G,Q',r,rs,S,h,kq⟩;rw[wpG] at h;exact kq _ _ _ _ _ (aJ.refl Z) S (rs.set r i) h
theorem aBG:JGs X E [] (dM T .nil):=λF=>PGs.imp aBc<|by
 rintro vs σ H Q ⟨xs,σ',Z,G,Q',r,rs,S,h,kq⟩;rw[dM] at h;obtain⟨e,h⟩:=h;subst e;exact⟨r,kq _ _ _ _ _ (aJ.refl Z) S rs h⟩
theorem TZ(h1:JG X E e (wpG T a'))(h2:JGs X E es (dM T b'))(hs:(assignEach (e::es) X.env).map (·.2)=assign e X.env::(assignEach es X.env).map (·.2)):JGs X E (e::es) (dM T (.cons a' b')):=λF =>
 PGs.imp (VQ (h1 F) (h2 F) hs)<|by
   rintro vs σ H Q ⟨xs,σ',Z,G,Q',r,rs,S,h,kq⟩;rw[dM] at h;obtain⟨x,t,e,h⟩:=h;subst e;obtain⟨v,u,e,r1,r2⟩:=r;exact⟨v,u,e,x,σ',Z,G,_,r1,rs,S,h,λσ1 σ2 Z1 G1 H1 s1 S1 rs1 q1=>⟨t,σ1,Z1,G1,Q',r2.mono s1,rs1,S1,q1,kq.mono s1⟩⟩
theorem aFt(P:Pl X E T k)(h40:40<=k)(h:JGs X E es (dM T gs))(hn:(assignEach es X.env).length=n)(hst:(assignEach es X.env).findIdx? (·.1)=none):JG X E (.Tuple es x1 pos) (wpG T (.gt n gs)):=λF =>
 (aGJ (P.calm h40) (h F) hn hst).imp<|by
   rintro v σ H Q ⟨x,σ',Z,G,Q',r,rs,S,h,kq⟩;rw[wpG] at h;obtain⟨xs,e,hl,h⟩:=h;subst e;obtain⟨a,vs,e,ha,t⟩:=dN S r;exact⟨a,vs,e,P.hK▸ha,by rw[<-t.length];exact hl,xs,σ',Z,G,Q',t,rs,S,h,kq⟩
theorem aEH(P:Pl X E T k)(h40:40<=k)(h:JGs X E es (dM T gs))(hn:(assignEach es X.env).length=n)(hst:(assignEach es X.env).findIdx? (·.1)=none):JG X E (.Tuple es x1 pos) (wpG T (.gl n gs)):=λF =>
 (aGq (P.calm h40) (h F) hn hst).imp<|by
   rintro v σ H Q ⟨x,σ',Z,G,Q',r,rs,S,h,kq⟩;rw[wpG] at h;obtain⟨xs,e,hl,h⟩:=h;obtain⟨a,vs,e,ha,t⟩:=bX (xs:=xs) S r e;exact⟨a,vs,e,ha,by rw[<-t.length];exact hl,xs,σ',Z,G,Q',t,rs,S,h,kq⟩
def uS(E:Ev)(J:It)(Z:Hp)(chk:Gh->Prop)(xs:List PV):Prop:= ∀F (i:Nat) Z1 G1 H1,aJ Z Z1->Sim E F H1 Z1 G1->chk G1->
 (∀x,xs[i]? =some x->J.go i H1/\∀v H2,J.yld i H1 v H2->∃Z2,aJ Z1 Z2/\Sim E F H2 Z2 G1/\RP E Z2 x v)/\(i=xs.length->J.stop i H1)
def aIX(E:Ev)(F:Hp)(t:PTI):TI:=λσ H R=>∃σ' Z G R',RSt E Z σ' σ/\Sim E F H Z G/\t σ' G R'/\∀J chk xs Z1 G1 H1,aJ Z Z1->Sim E F H1 Z1 G1->uS E J Z1 chk xs->R' chk xs G1->R J H1
def JI(X:Cx)(E:Ev)(tg j5:Expr)(t:PTI):Prop:= ∀F,PI X tg j5 (aIX E F t)
theorem aFr(hl:PE X l tl):PI X tg l (λσ H R=>tl σ H λx H1=>∃a,x= .ref a/\(((∃xs,SqL X.K H1 a xs)/\R (Itl X.K a) H1)∨((∃xs,SqT X.K H1 a xs)/\R (Itt X.K a) H1))):=by
 intro j4 s σ H R I h;have hw:=hl j4 s σ H _ I h;refine thn hw λv s1 zz=>?_;obtain⟨x,H1,I1,r1,a,e,q1⟩:=zz;subst e;have r1':v= .ref a:=r1;subst r1';rcases q1 with ⟨⟨xs,hq⟩,q⟩|⟨⟨xs,hq⟩,q⟩
 . obtain⟨its,rv,p,hz⟩:=I1.list hq;refine wpAny_pyIter_list p.isList ?_;refine⟨s1.heap.objs.size,[s1.heap.objs.size],_,_,H1,rfl,I1.kept (t':=s1.toks) λb o e=>wEq _ e,QE a _,⟨_,wGq _ rfl,rfl,rfl⟩,λb hb=>?_,q⟩;have e:b=s1.heap.objs.size:=by simpa using hb
   subst e;exact I1.fpOk (Nat.le_refl _) (I1.hok.fresh (Nat.le_refl _))
 . obtain⟨its,rv,p,hz⟩:=I1.tuple hq;refine wpAny_pyIter_tuple (show s1.heap.IsTuple a its.toArray from p) ?_;refine⟨s1.heap.objs.size,[s1.heap.objs.size],_,_,H1,rfl,I1.kept (t':=s1.toks) λb o e=>wEq _ e,HX a _,⟨_,wGq _ rfl,rfl,rfl⟩,λb hb=>?_,q⟩;have e:b=s1.heap.objs.size:=by simpa using hb
   subst e;exact I1.fpOk (Nat.le_refl _) (I1.hok.fresh (Nat.le_refl _))
theorem zG{a:Addr}{Z:Hp}{chk:Gh->Prop}{xs:List PV}(h:∀F Z1 G1 H1,aJ Z Z1->Sim E F H1 Z1 G1->chk G1->∃vs,SqL E.K H1 a vs/\RPs E Z1 xs vs):uS E (Itl E.K a) Z chk xs:=by
 intro F i Z1 G1 H1 s1 S1 c1;obtain⟨vs,hs,t⟩:=h F Z1 G1 H1 s1 S1 c1;refine⟨λx ex=>?_,λe=>⟨vs,hs,by rw[e,t.length];exact Nat.le_refl _⟩⟩;obtain⟨v,ev,rv⟩:=t.get ex;refine⟨⟨vs,v,hs,ev⟩,λw H2 zz=>?_⟩;obtain⟨e,y⟩:=zz;subst e;have:=y vs hs;rw[ev] at this;cases this;exact⟨Z1,aJ.refl _,S1,rv⟩
theorem aG4{a:Addr}{Z:Hp}{chk:Gh->Prop}{xs:List PV}(h:∀F Z1 G1 H1,aJ Z Z1->Sim E F H1 Z1 G1->chk G1->∃vs,SqT E.K H1 a vs/\RPs E Z1 xs vs):uS E (Itt E.K a) Z chk xs:=by
 intro F i Z1 G1 H1 s1 S1 c1;obtain⟨vs,hs,t⟩:=h F Z1 G1 H1 s1 S1 c1;refine⟨λx ex=>?_,λe=>⟨vs,hs,by rw[e,t.length];exact Nat.le_refl _⟩⟩;obtain⟨v,ev,rv⟩:=t.get ex;refine⟨⟨vs,v,hs,ev⟩,λw H2 zz=>?_⟩;obtain⟨e,y⟩:=zz;subst e;have:=y vs hs;rw[ev] at this;cases this;exact⟨Z1,aJ.refl _,S1,rv⟩
theorem aFw{a:Addr}{Z:Hp}{vs:List V}{xs:List PV}(hz:SqT E.K Z a vs)(t:RPs E Z xs vs):uS E (Ite E.K a) Z (λ_=>True) (CN xs):=by
 intro F i Z1 G1 H1 s1 S1 _;have hs:=bM S1.z (bM s1 hz);have hl:(CN xs).length=xs.length:=by unfold CN;rw[List.length_map,List.length_zipIdx]
 refine⟨λx ex=>?_,λe=>⟨vs,hs,by rw[e,hl,t.length];exact Nat.le_refl _⟩⟩;unfold CN at ex;rw[List.getElem?_map,List.getElem?_zipIdx] at ex;cases ey:xs[i]? with
 | none=>rw[ey] at ex;cases ex
 | some y =>
   rw[ey] at ex;have ex':x= .tup [.int ((0+i:Nat):Int),y]:=by
     have:=Option.some.inj ex;exact this.symm
   obtain⟨v,ev,rv⟩:=t.get ey;refine⟨⟨vs,v,hs,ev⟩,λw H2 zz=>?_⟩;obtain⟨p,u,e,n,e2,y'⟩:=zz;subst e e2;have:=y' vs hs;rw[ev] at this;cases this;refine⟨upd Z1 p (.tup [.int i,v]),bE (S1.zn n) _,S1.fz n,?_⟩;rw[ex',Nat.zero_add];exact jZ (xs:=[.int (i:Int),y]) (S1.zn n) ⟨_,_,rfl,bF,_,_,rfl,rv.mono s1,rfl⟩
theorem YV{lo:Int}{n:Nat}{Z:Hp}:uS E (Itr lo n) Z (λ_=>True) (mY lo n):=by
 intro F i Z1 G1 H1 s1 S1 _;have hl:(mY lo n).length=n:=by unfold mY;rw[List.length_map,List.length_range]
 refine⟨λx ex=>?_,λe=>by rw[hl] at e;exact Nat.le_of_eq e.symm⟩;have hi:i<n:=by
   have:=(List.getElem?_eq_some_iff.mp ex).1;rw[hl] at this;exact this
 have ex':x= .int (lo+i):=by
   unfold mY at ex;rw[List.getElem?_map,List.getElem?_range hi] at ex;exact(Option.some.inj ex).symm
 refine⟨hi,λw H2 zz=>?_⟩;obtain⟨e,y⟩:=zz;subst e y;exact⟨Z1,aJ.refl _,S1,by rw[ex'];exact bF⟩
theorem VE(P:Pl X E T k)(ha:JE X E a (wpE T a')):JI X E tg a (wpI T (.isq a')):=λF =>
 (aFr (ha F)).imp<|by
   rintro σ H R ⟨σ',Z,G,R',rs,S,h,kr⟩;rw[wpI] at h;refine⟨σ',Z,G,_,rs,S,h,λx v Z1 G1 H1 s1 S1 r1 q1=>?_⟩;unfold aAo at q1;split at q1
   . obtain⟨a,vs,e,ha,t⟩:=r1;have ok:uS E (Itt E.K a) Z1 (λ_=>True) _:=aG4 λF2 Z2 G2 H2 s2 S2 _=>⟨vs,bM S2.z (bM s2 ha),t.mono s2⟩;exact⟨a,e,.inr ⟨⟨vs,P.hK▸bM S1.z ha⟩,P.hK▸kr _ _ _ _ _ _ s1 S1 ok q1⟩⟩
   . obtain⟨a,vs,e,ha,t⟩:=r1;have ok:uS E (Itl E.K a) Z1 (λ_=>True) _:=zG λF2 Z2 G2 H2 s2 S2 _=>⟨vs,SqL.of (S2.z _ _ (s2 _ _ ha)),t.mono s2⟩;exact⟨a,e,.inl ⟨⟨vs,SqL.of (S1.z _ _ ha)⟩,P.hK▸kr _ _ _ _ _ _ s1 S1 ok q1⟩⟩
   . obtain⟨a,e,ha⟩:=r1;have ok:uS E (Itl E.K a) Z1 (λ_=>True) _:=zG λF2 Z2 G2 H2 s2 S2 _=>⟨_,S2.z.seq (s2.seq ha),RPs.ofInts _⟩;exact⟨a,e,.inl ⟨⟨_,P.hK▸S1.z.seq ha⟩,P.hK▸kr _ _ _ _ _ _ s1 S1 ok q1⟩⟩
   . rename_i a;obtain⟨xs,hG,q1⟩:=q1;obtain⟨_,o',hp,vs,e',t⟩:=S1.g _ _ hG;subst e';have ok:uS E (Itl E.K a) Z1 (λG'=>G' a=some (.lst xs)) xs:=zG λF2 Z2 G2 H2 s2 S2 c2=>by
       obtain⟨_,o',hp,vs,e',t⟩:=S2.g _ _ c2;subst e';exact⟨vs,SqL.of hp,t⟩
     exact⟨a,r1,.inl ⟨⟨vs,SqL.of hp⟩,P.hK▸kr _ _ _ _ _ _ s1 S1 ok q1⟩⟩
   . exact q1.elim
theorem aCs(hg:Gl X "range")(hm:X.mg "range"=none)(ha:JE X E a (wpE T a'))(hs:starEach [a] X.env=[(false,eval a X.env)]):JI X E tg (.Call (.Name "range" p) [a] [] pos) (wpI T (.irg (.cons a' .nil))):=λF =>
 (PN hg hm (fF (ha F) lS hs) hs).imp<|by
   rintro σ H R ⟨σ',Z,G,R',rs,S,h,kr⟩;rw[wpI,wpL,wpL] at h;refine⟨σ',Z,G,_,rs,S,h,λx v Z1 G1 H1 s1 S1 r1 q1=>?_⟩;rcases q1 with ⟨j,e,h1,h2,q⟩|⟨i,j,e,_⟩
   . cases e;exact⟨j,by rw[show v= .int j from r1],h1,h2,kr _ _ _ _ _ _ s1 S1 YV q⟩
   . cases e
theorem aAA(hg:Gl X "range")(hm:X.mg "range"=none)(ha:JE X E a (wpE T a'))(hb:JE X E b (wpE T b'))(hs:starEach [a,b] X.env=[(false,eval a X.env),(false,eval b X.env)])(hs2:starEach [b] X.env=[(false,eval b X.env)]) :
   JI X E tg (.Call (.Name "range" p) [a,b] [] pos) (wpI T (.irg (.cons a' (.cons b' .nil)))):=λF =>
 (NK hg hm (fF (ha F) (fF (hb F) lS hs2) (by rw[hs,hs2])) hs hs2).imp<|by
   rintro σ H R ⟨σ',Z,G,R',rs,S,h,kr⟩;rw[wpI,wpL,wpL,wpL] at h;refine⟨σ',Z,G,_,rs,S,h,λx v Z1 G1 H1 s1 S1 r1 q1=>⟨σ',Z1,G1,_,rs.mono s1,S1,q1,λy u Z2 G2 H2 s2 S2 r2 q2=>?_⟩⟩;rcases q2 with ⟨j,e,h1,h2,q⟩|⟨i,j,e,hb,q⟩
   . cases e
   . cases e;exact⟨i,j,by rw[show v= .int i from r1,show u= .int j from r2],hb,kr _ _ _ _ _ _ (s1.trans s2) S2 YV q⟩
theorem aGT(P:Pl X E T k)(hg:Gl X "enumerate")(hm:X.mg "enumerate"=none)(ha:JE X E a (wpE T a'))(hs:starEach [a] X.env=[(false,eval a X.env)]):JI X E (.Tuple es x1 tp) (.Call (.Name "enumerate" p) [a] [] pos) (wpI T (.ien a')):=λF =>
 (aBW hg hm (fF (ha F) lS hs) hs).imp<|by
   rintro σ H R ⟨σ',Z,G,R',rs,S,h,kr⟩;rw[wpI] at h;refine⟨σ',Z,G,_,rs,S,h,λx v Z1 G1 H1 s1 S1 r1 zz=>?_⟩;obtain⟨xs,e,q1⟩:=zz;subst e;obtain⟨a,vs,e,ha,t⟩:=r1;exact⟨a,by rw[e],⟨vs,P.hK▸bM S1.z ha⟩,P.hK▸kr _ _ _ _ _ _ s1 S1 (aFw ha t) q1⟩
def uD(E:Ev)(Z:Hp)(b:Bool)(l:Addr)(us:List V):Prop:=if b=true then SqT E.K Z l us else Z l=some (.lst us)
theorem uD.mono{Z Z':Hp}{b:Bool}{l:Addr}{us:List V}(s:aJ Z Z')(h:uD E Z b l us):uD E Z' b l us:=by
 unfold uD at *;split
 . rename_i e;rw[jd e] at h;exact bM s h
 . rename_i e;rw[jb e] at h;exact s _ _ h
theorem uD.at_{b:Bool}{l:Addr}(h:uD E Z b l us):tD E.K Z b l us:=by
 unfold uD at h;unfold tD;split
 . rename_i e;rw[jd e] at h;exact h
 . rename_i e;rw[jb e] at h;exact SqL.of h
theorem KW:∀{xs:List PV} {vs:List V} {yss:List (List PV)},RPs E Z xs vs->xs.map aAc=yss.map some->∃(ls:List (Bool×Addr)) (xss:List (List V)),vs=ls.map (λp=>V.ref p.2)/\ls.length=yss.length/\xss.length=yss.length/\
   (∀(j:Nat) (p:Bool×Addr) (us:List V),ls[j]? =some p->xss[j]? =some us->uD E Z p.1 p.2 us)/\∀(j:Nat) (ys:List PV) (us:List V),yss[j]? =some ys->xss[j]? =some us->RPs E Z ys us
 | [],vs,yss,r,h=>by
   have e:vs=[]:=r;subst e;cases yss with
   | nil=>exact⟨[],[],rfl,rfl,rfl,(λj p us h _=>by simp at h),λj ys us h _=>by simp at h⟩
   | cons a b=>cases h
 | x::xs,vs,yss,r,h=>by
   obtain⟨v,vr,e,rx,rr⟩:=r;subst e;cases yss with
   | nil=>cases h
   | cons ys yss =>
     rw[List.map_cons,List.map_cons] at h;injection h with h1 h2;obtain⟨ls,xss,e,l1,l2,ha,hb⟩:=KW rr h2;have key:∃(p:Bool×Addr) (us:List V),v= .ref p.2/\uD E Z p.1 p.2 us/\RPs E Z ys us:=by
       unfold aAc at h1;split at h1
       . have e:=Option.some.inj h1;subst e;obtain⟨a,us,e,q,t⟩:=rx;exact⟨(true,a),us,e,by unfold uD;rw[jd rfl];exact q,t⟩
       . have e:=Option.some.inj h1;subst e;obtain⟨a,us,e,q,t⟩:=rx;exact⟨(false,a),us,e,by unfold uD;rw[jb Bool.false_ne_true];exact q,t⟩
       . cases h1
     obtain⟨p,us,ev,k1,k2⟩:=key;refine⟨p::ls,us::xss,by rw[ev,e];rfl,by simp[l1],by simp[l2],λj q ws hq hw=>?_,λj zs ws hq hw=>?_⟩
     . cases j with
       | zero=>cases hq;cases hw;exact k1
       | succ j=>exact ha j q ws hq hw
     . cases j with
       | zero=>cases hq;cases hw;exact k2
       | succ j=>exact hb j zs ws hq hw
theorem SI:∀{yss:List (List PV)} {xss:List (List V)},xss.length=yss.length->(∀(j:Nat) (ys:List PV) (us:List V),yss[j]? =some ys->xss[j]? =some us->RPs E Z ys us)->(∀ys∈yss,i<ys.length)->
   ∃vs,vs.length=xss.length/\(∀(j:Nat) (us:List V),xss[j]? =some us->us[i]? =vs[j]?)/\RPs E Z (yss.map λys=>ys.getD i .non) vs
 | [],xss,l,_,_=>by
   have e:xss=[]:=List.length_eq_zero_iff.mp l;subst e;exact⟨[],rfl,(λj us h=>by simp at h),rfl⟩
 | ys::yss,[],l,_,_=>by cases l
 | ys::yss,us::xss,l,h,hi=>by
   obtain⟨vs,a,b,c⟩:=SI (yss:=yss) (xss:=xss) (by simpa using l) (λj zs ws=>h (j+1) zs ws) λzs hz=>hi zs (wCq _ hz);have hy:=hi ys (wDq ..);have ey:ys[i]? =some (ys.getD i .non):=by rw[List.getD_eq_getElem?_getD,wHq hy];rfl
   obtain⟨v,ev,rv⟩:=(h 0 ys us rfl rfl).get ey;refine⟨v::vs,by simp[a],λj ws hw=>?_,v,vs,rfl,rv,c⟩;cases j with
   | zero=>cases hw;exact ev
   | succ j=>exact b j ws hw
theorem aHl{rs:List LZ.Zr}{ls:List (Bool×Addr)}{xss:List (List V)}{yss:List (List PV)}(er:rs.map (λr=>(r.b,r.l))=ls)(l1:ls.length=yss.length)(l2:xss.length=yss.length)(hne:yss≠[])
   (ha:∀(j:Nat) (p:Bool×Addr) (us:List V),ls[j]? =some p->xss[j]? =some us->uD E Z p.1 p.2 us) (hb:∀(j:Nat) (ys:List PV) (us:List V),yss[j]? =some ys->xss[j]? =some us->RPs E Z ys us) (hn:(∀ys∈yss,ys.length=n)∨∃a b,yss=[a,b]/\b.length=n/\n<a.length) :
   uS E (Itz E.K rs) Z (λ_=>True) (JH n yss):=by
 intro F i Z1 G1 H1 s1 S1 _;have lr:rs.length=yss.length:=by rw[<-l1,<-er,List.length_map]
 have RA:vZ E.K H1 rs xss:=by
   refine⟨by omega,λj r us hr hu=>?_⟩;have hp:ls[j]? =some (r.b,r.l):=by rw[<-er,List.getElem?_map,hr];rfl
   exact(((ha j _ us hp hu).mono s1).mono S1.z).at_
 have hl:(JH n yss).length=n:=by unfold JH;rw[List.length_map,List.length_range]
 refine⟨λx ex=>?_,λe=>?_⟩
 . have hi:i<n:=by have:=(List.getElem?_eq_some_iff.mp ex).1;rw[hl] at this;exact this
   have ex':x= .tup (yss.map λys=>ys.getD i .non):=by
     unfold JH at ex;rw[List.getElem?_map,List.getElem?_range hi] at ex;exact(Option.some.inj ex).symm
   obtain⟨vs,a,b,c⟩:=SI (i:=i) l2 (λj ys us h1 h2=>(hb j ys us h1 h2).mono s1) λys hy=>by
     rcases hn with hn|⟨u,v,rfl,h1,h2⟩
     . rw[hn ys hy];exact hi
     . simp only[List.mem_cons,List.not_mem_nil,or_false] at hy;rcases hy with rfl|rfl<;>omega
   refine⟨⟨xss,vs,RA,by omega,b⟩,λw H2 ⟨p,ws,e,nn,e2,wl,y'⟩=>?_⟩;subst e e2;have ew:ws=vs:=by
     refine List.ext_getElem? λj=>?_;by_cases hj:j<xss.length
     . have e:=wHq hj;rw[<-y' xss RA j _ e,<-b j _ e]
     . rw[List.getElem?_eq_none ooq,List.getElem?_eq_none ooq]
   subst ew;refine⟨upd Z1 p (.tup ws),bE (S1.zn nn) _,S1.fz nn,?_⟩;rw[ex'];exact jZ (S1.zn nn) c
 . rw[hl] at e;rcases hn with hn|⟨u,v,rfl,h1,h2⟩
   . cases xss with
     | nil=>exact absurd (List.length_eq_zero_iff.mp l2.symm) hne
     | cons us t =>
       refine .inl ⟨us,t,RA,?_⟩;cases yss with
       | nil=>exact absurd rfl hne
       | cons ys yt=>rw[e,<-hn ys (wDq ..),(hb 0 ys us rfl rfl).length];exact Nat.le_refl _
   . match xss,l2,RA,hb with
     | [us,ws],_,RA,hb =>
       have q1:=(hb 0 u us rfl rfl).length;have q2:=(hb 1 v ws rfl rfl).length;exact .inr ⟨us,ws,[],RA,by omega,by omega⟩
theorem aGF(P:Pl X E T k)(hg:Gl X "zip")(hm:X.mg "zip"=none)(ha:JA X E (e::es) (wpL T es'))(hs:starEach (e::es) X.env=(false,eval e X.env)::starEach es X.env)(hpl:(backTo pos (starEach es X.env)).any (·.1)=false) :
   JI X E (.Tuple es0 x1 tp) (.Call (.Name "zip" p) (e::es) [] pos) (wpI T (.izp es')):=λF =>
 (aFQ hg hm (ha F) hs hpl).imp<|by
   rintro σ H R ⟨σ',Z,G,R',rs,S,h,kr⟩;rw[wpI] at h;refine⟨σ',Z,G,_,rs,S,h,λxs vs Z1 G1 H1 l0 s1 S1 r1 zz=>?_⟩;obtain⟨hl,n,yss,er,hn,q1⟩:=zz;obtain⟨ls,xss,e,l1,l2,hA,hB⟩:=KW r1 er;have ly:yss.length=xs.length:=by have:=congrArg List.length er;simpa using this.symm
   refine⟨ls,e,by omega,⟨xss,by omega,λj p us h1 h2=>P.hK▸((hA j p us h1 h2).mono S1.z).at_⟩,λzs ez=>P.hK▸kr _ _ _ _ _ _ s1 S1 (aHl ez l1 l2 (by intro z;rw[z] at ly;simp at ly;omega) hA hB hn) q1⟩
theorem aHC(P:Pl X E T k)(h40:40<=k)(hp:PassesOwn (model X.prog X.w) X.A X.env X.xe)(hi:JI X E tg j5 (wpI T i'))(hg:JG X E tg (wpG T g'))(hb:JSs X E body (wpS T b'))
   (hs:∀x,foldedSetIterable j5 X.env x=pure x):JS X E (.For tg j5 body [] pos) (wpS T (.fr g' i' b')):=λF =>
 (aGu hp (P.calm h40) (hi F) (hg F) (hb F) hs).imp<|by
   rintro D σ H ⟨σ',Z,G,D',rs,S,h,kd⟩;rw[wpS] at h;refine⟨σ',Z,G,_,rs,S,h,λJ chk xs Z1 G1 H1 s1 S1 ok q=>?_⟩;refine⟨λi m σ H=>m=xs.length-i/\i<=xs.length/\∃σ' Z2 G2,aJ Z1 Z2/\Sim E F H Z2 G2/\RSt E Z2 σ' σ/\sE chk (wpG T g') (wpS T b') D' (xs.drop i) σ' G2,⟨xs.length,by simp,Nat.zero_le _,σ',Z1,G1,aJ.refl _,S1,rs.mono s1,q⟩,?_⟩;rintro i m σ2 H2 ⟨rfl,hi,σ3,Z2,G2,s2,S2,rs2,q2⟩;have sz:=s1.trans s2;by_cases hlt:i<xs.length
   . have hd:xs.drop i=xs[i]::xs.drop (i+1):=List.drop_eq_getElem_cons hlt;rw[hd] at q2;unfold sE at q2;obtain⟨c2,q2⟩:=q2;obtain⟨go,yl⟩:=(ok F i Z2 G2 H2 s2 S2 c2).1 xs[i] (by simp[hlt]);refine .inr ⟨go,λσ4 H4=>∃σ5 Z4 G4,aJ Z2 Z4/\Sim E F H4 Z4 G4/\RSt E Z4 σ5 σ4/\sE chk (wpG T g') (wpS T b') D' (xs.drop (i+1)) σ5 G4,by rintro σ4 H4 ⟨σ5,Z4,G4,s4,S4,rs4,q4⟩;exact⟨xs.length-(i+1),by omega,rfl,hlt,σ5,Z4,G4,s2.trans s4,S4,rs4,q4⟩,λv H3 y=>?_⟩;obtain⟨Z3,s3,S3,r3⟩:=yl v H3 y;refine⟨xs[i],σ3,Z3,G2,_,r3,rs2.mono s3,S3,q2,λσ6 σ7 Z5 G5 H5 s5 S5 rs5 q5=>⟨σ6,Z5,G5,_,rs5,S5,q5,?_⟩⟩;have s35:=s3.trans s5;exact⟨λσ8 σ9 Z6 G6 H6 s6 S6 rs6 q6=>⟨σ8,Z6,G6,s35.trans s6,S6,rs6,q6⟩,kd.rt.mono (sz.trans s35),kd.nx.mono (sz.trans s35),λσ8 σ9 Z6 G6 H6 s6 S6 rs6 q6=>⟨σ8,Z6,G6,s35.trans s6,S6,rs6,q6⟩⟩
   . have e:i=xs.length:=by omega
     rw[e,List.drop_length] at q2;unfold sE at q2;obtain⟨c2,q2⟩:=q2;exact .inl ⟨(ok F i Z2 G2 H2 s2 S2 c2).2 e,kd.nx _ _ _ _ _ sz S2 rs2 q2⟩
theorem aDM(hp:PassesOwn (model X.prog X.w) X.A X.env X.xe)(hc:JT X E c (wpT T c'))(hb:JSs X E body (wpS T b')):JS X E (.While c body [] pos) (wpS T (.wh c' b')):=λF =>
 (RZ hp (hc F) (hb F)).imp<|by
   rintro D σ H ⟨σ',Z,G,D',rs,S,h,kd⟩;rw[wpS] at h;obtain⟨W,⟨m0,w0⟩,turn⟩:=h;refine⟨λm σ H=>∃σ' Z2 G2,aJ Z Z2/\Sim E F H Z2 G2/\RSt E Z2 σ' σ/\W m σ' G2,⟨m0,σ',Z,G,aJ.refl _,S,rs,w0⟩,?_⟩;rintro m σ2 H2 ⟨σ3,Z2,G2,s2,S2,rs2,w2⟩;refine⟨σ3,Z2,G2,_,rs2,S2,turn m σ3 G2 w2,λd Z3 G3 H3 s3 S3 q3=>?_⟩;have s23:=s2.trans s3;dsimp only;cases d with
   | true =>
     rw[jd rfl] at q3 ⊢;refine⟨λσ4 H4=>∃σ5 Z4 G4 m',m'<m/\aJ Z Z4/\Sim E F H4 Z4 G4/\RSt E Z4 σ5 σ4/\W m' σ5 G4,by rintro σ4 H4 ⟨σ5,Z4,G4,m',lt,s4,S4,rs4,w4⟩;exact⟨m',lt,σ5,Z4,G4,s4,S4,rs4,w4⟩,σ3,Z3,G3,_,rs2.mono s3,S3,q3,?_⟩;exact⟨by rintro σ8 σ9 Z6 G6 H6 s6 S6 rs6 ⟨m',lt,w6⟩;exact⟨σ8,Z6,G6,m',lt,s23.trans s6,S6,rs6,w6⟩,kd.rt.mono s23,kd.nx.mono s23,by rintro σ8 σ9 Z6 G6 H6 s6 S6 rs6 ⟨m',lt,w6⟩;exact⟨σ8,Z6,G6,m',lt,s23.trans s6,S6,rs6,w6⟩⟩
   | false =>
     rw[jb Bool.false_ne_true] at q3 ⊢;exact kd.nx _ _ _ _ _ s23 S3 (rs2.mono s3) q3
theorem aHN{st:Stmt}{aY:List Stmt}{a' b':CS}(h1:JS X E st (wpS T a'))(h2:JSs X E aY (wpS T b')):JSs X E (st::aY) (wpS T (.seq a' b')):=λF =>
 PSs.imp (UY (h1 F) (h2 F))<|by
   rintro D σ H ⟨σ',Z,G,D',rs,S,h,kd⟩;rw[wpS] at h;exact⟨σ',Z,G,_,rs,S,h,⟨λσ1 σ2 Z1 G1 H1 s1 S1 rs1 q1=>⟨σ1,Z1,G1,D',rs1,S1,q1,kd.mono s1⟩,kd.rt,kd.bk,kd.ct⟩⟩
theorem aEo{st:Stmt}{a':CS}(h1:JS X E st (wpS T a')):JSs X E [st] (wpS T a'):=λF=>aAS (h1 F)
theorem aHh:JSs X E [] (wpS T .nil):=λF=>PSs.imp aB5<|by
 rintro D σ H ⟨σ',Z,G,D',rs,S,h,kd⟩;rw[wpS] at h;exact kd.nx _ _ _ _ _ (aJ.refl Z) S rs h
theorem aBy:JS X E (.Pass pos) (wpS T .nil):=λF=>aBr.imp<|by
 rintro D σ H ⟨σ',Z,G,D',rs,S,h,kd⟩;rw[wpS] at h;exact kd.nx _ _ _ _ _ (aJ.refl Z) S rs h
theorem aFP:JS X E (.Expr (.Constant (.str x) j pos) pos') (wpS T .nil):=λF=>aET.imp<|by
 rintro D σ H ⟨σ',Z,G,D',rs,S,h,kd⟩;rw[wpS] at h;exact kd.nx _ _ _ _ _ (aJ.refl Z) S rs h
theorem aKd(he:JE X E e (wpE T e'))(hs:swapsWith e none pos.line X.env=pure false):JS X E (.Expr e pos) (wpS T (.ex e')):=λF =>
 (aBZ (he F) hs).imp<|by
   rintro D σ H ⟨σ',Z,G,D',rs,S,h,kd⟩;rw[wpS] at h;exact⟨σ',Z,G,_,rs,S,h,λx v Z1 G1 H1 s1 S1 r1 q1=>kd.nx _ _ _ _ _ s1 S1 (rs.mono s1) q1⟩
theorem aHH(he:JE X E e (wpE T e')):JS X E (.Return (some e) pos) (wpS T (.ret e')):=λF =>
 (aE5 (he F)).imp<|by
   rintro D σ H ⟨σ',Z,G,D',rs,S,h,kd⟩;rw[wpS] at h;exact⟨σ',Z,G,_,rs,S,h,kd.rt⟩
theorem aBF:JS X E (.Return none pos) (wpS T .retN):=λF=>aBa.imp<|by
 rintro D σ H ⟨σ',Z,G,D',rs,S,h,kd⟩;rw[wpS] at h;exact kd.rt _ _ _ _ _ (aJ.refl Z) S oA h
theorem aFx{st:Stmt}:JS X E st (wpS T .nev):=λF=>WJ.imp<|by
 rintro D σ H ⟨σ',Z,G,D',rs,S,h,kd⟩;rw[wpS] at h;exact h
theorem aBI:JSs X E sts (wpS T .nev):=λF=>PSs.imp OP<|by
 rintro D σ H ⟨σ',Z,G,D',rs,S,h,kd⟩;rw[wpS] at h;exact h
theorem aJX(hc:JT X E c (wpT T c'))(ha:JSs X E x (wpS T a'))(hb:JSs X E y (wpS T b')):JS X E (.If c x y pos) (wpS T (.iff c' a' b')):=λF =>
 (aKr (hc F) (ha F) (hb F)).imp<|by
   rintro D σ H ⟨σ',Z,G,D',rs,S,h,kd⟩;rw[wpS] at h;refine⟨σ',Z,G,_,rs,S,h,λd Z1 G1 H1 s1 S1 q=>?_⟩;cases d with
   | true=>rw[jd rfl] at q ⊢;exact⟨σ',Z1,G1,D',rs.mono s1,S1,q,kd.mono s1⟩
   | false=>rw[jb Bool.false_ne_true] at q ⊢;exact⟨σ',Z1,G1,D',rs.mono s1,S1,q,kd.mono s1⟩
theorem aBl(h:aFU E F (wpS T (.asg g' e')) D σ H):YW (low E F (wpE T e')) (aGi E F (wpG T g')) D σ H:=by
 obtain⟨σ',Z,G,D',rs,S,h,kd⟩:=h;rw[wpS] at h;exact⟨σ',Z,G,_,rs,S,h,λx v Z1 G1 H1 s1 S1 r1 q1=>⟨x,σ',Z1,G1,_,r1,rs.mono s1,S1,q1,kd.nx.mono s1⟩⟩
theorem BV(he:JE X E e (wpE T e'))(hg:JG X E tg (wpG T g'))(hs:swapsWithSole [tg] e pos.line X.env=pure false)(hw:swappedStores [tg] e X.env=pure none)(h1:(assignEach [tg] X.env).map (·.2)=[assign tg X.env]) :
   JS X E (.Assign [tg] e pos) (wpS T (.asg g' e')):=λF=>(VT (he F) (hg F) hs hw h1).imp λD σ H h=>aBl h
theorem aEB(P:Pl X E T k)(h40:40<=k)(hN:X.N.Nodup)(hi:X.N[i]? =some x)(hj:X.N[j]? =some y)(hij:i≠j)(hx:X.env.scope.names.lookup x=some .local)(hy:X.env.scope.names.lookup y=some .local)
   (ha:JE X E a (wpE T a')) (hb:JE X E b (wpE T b')) (s1:starEach [a,b] X.env=(false,eval a X.env)::starEach [b] X.env) (s2:starEach [b] X.env=(false,eval b X.env)::starEach [] X.env)
   (hw:swappedStores [.Tuple [.Name x px,.Name y py] kt pt] (.Tuple [a,b] k2 pt2) X.env=pure (some [x,y])) (hs:swapsWithSole [.Tuple [.Name x px,.Name y py] kt pt] (.Tuple [a,b] k2 pt2) pos.line X.env=pure false) :
   JS X E (.Assign [.Tuple [.Name x px,.Name y py] kt pt] (.Tuple [a,b] k2 pt2) pos) (wpS T (.par i j a' b')):=λF =>
 (aF4 (P.calm h40) hN hi hj hij hx hy (fF (ha F) (fF (hb F) lS s2) s1) hw hs).imp<|by
   rintro D σ H ⟨σ',Z,G,D',rs,S,h,kd⟩;rw[wpS] at h;refine⟨σ',Z,G,_,rs,S,h,λx v Z1 G1 H1 s1 S1 r1 q1=>⟨σ',Z1,G1,_,rs.mono s1,S1,q1,λy u Z2 G2 H2 s2 S2 r2 q2=>?_⟩⟩;exact⟨v,u,rfl,kd.nx _ _ _ _ _ (s1.trans s2) S2 ((((rs.mono s1).mono s2).set (r1.mono s2) i).set r2 j) q2⟩
theorem aGa(he:JE X E e (wpE T e'))(ho:JE X E o (wpE T o'))(hi:JE X E i (wpE T i'))
   (ha:∀v,assign (.Subscript o i pos') X.env v=(do
     let ov <-holding [v] (eval o X.env)
     let iv <-holding [v,ov] (eval i X.env)
     standAt pos'
     holding [v,ov,iv] (setItem ov iv v)
     release [v,ov,iv] []))
   (hs:swapsWithSole [.Subscript o i pos'] e pos.line X.env=pure false) (hw:swappedStores [.Subscript o i pos'] e X.env=pure none):JS X E (.Assign [.Subscript o i pos'] e pos) (wpS T (.sub o' i' e')):=λF =>
 (VT (he F) (aHi (ho F) (hi F) (aCz (E:=E) (F:=F)) ha) hs hw rfl).imp<|by
   rintro D σ H ⟨σ',Z,G,D',rs,S,h,kd⟩;rw[wpS] at h;refine⟨σ',Z,G,_,rs,S,h,λv v' Z1 G1 H1 s1 S1 r1 q1=>⟨σ',Z1,G1,_,rs.mono s1,S1,q1,λx x' Z2 G2 H2 s2 S2 r2 q2=>⟨σ',Z2,G2,_,(rs.mono s1).mono s2,S2,q2,λy y' Z3 G3 H3 s3 S3 r3 q3=>?_⟩⟩⟩;have s13:=(s1.trans s2).trans s3;exact⟨x,y,v,Z3,G3,_,r2.mono s3,r3,(r1.mono s2).mono s3,S3,q3,λG4 H4 S4 q4=>kd.nx _ _ _ _ _ s13 S4 (rs.mono s13) q4⟩
theorem DQ(f:Str)(v:V):∀(ns:List Str) (vs:List V),ns.length=vs.length->kO f v (ns.zip vs)=(HV f ns).zip (wX f v ns vs)/\(HV f ns).length=(wX f v ns vs).length
 | [],[],_=>⟨rfl,rfl⟩
 | [],_::_,h=>by cases h
 | _::_,[],h=>by cases h
 | n::ns,u::us,h=>by
   obtain⟨a,b⟩:=DQ f v ns us (by simpa using h);rw[List.zip_cons_cons];unfold kO HV wX;split
   . exact⟨by rw[List.zip_cons_cons],by simpa using h⟩
   . exact⟨by rw[List.zip_cons_cons,a],by simpa using b⟩
theorem LU(r:RP E Z y u):∀{ns:List Str} {xs:List PV} {vs:List V},RPs E Z xs vs->RPs E Z (wX f y ns xs) (wX f u ns vs)
 | [],_,_,_=>⟨u,[],rfl,r,rfl⟩
 | _::_,[],_,h=>by cases h;exact rfl
 | n::ns,x::xs,_,⟨v,t,e,r1,r2⟩=>by
   subst e;unfold wX;split
   . exact⟨u,t,rfl,r,r2⟩
   . exact⟨v,_,rfl,r1,LU r r2⟩
theorem aEs(P:Pl X E T k)(ho:JE X E o (wpE T o'))(he:JE X E e (wpE T e'))(hs:swapsWith e (some (.Attribute o f pos')) pos.line X.env=pure false):JS X E (.Assign [.Attribute o f pos'] e pos) (wpS T (.fld o' f e')):=λF =>
 (aHv (ho F) (he F) hs).imp<|by
   rintro D σ H ⟨σ',Z,G,D',rs,S,h,kd⟩;rw[wpS] at h;refine⟨σ',Z,G,_,rs,S,h,λv v' Z1 G1 H1 s1 S1 r1 q1=>⟨σ',Z1,G1,_,rs.mono s1,S1,q1,λx x' Z2 G2 H2 s2 S2 r2 zz=>?_⟩⟩;obtain⟨p,c,ns,xs,e,hG,hf,hl,q2⟩:=zz;subst e;have e:x'= .ref p:=r2;subst e;obtain⟨_,o',hp,dx,vs,e',l,t⟩:=S2.g _ _ hG;subst e';obtain⟨h1,h2⟩:=P.fld c f hf;obtain⟨e1,e2⟩:=DQ f v' ns vs l;refine⟨p,_,dx,_,rfl,hp,h1,h2,by rw[List.length_zip,<-l,Nat.min_self];exact hl,kd.nx _ _ _ _ _ (s1.trans s2) (S2.set (go:=.ins c (HV f ns) (wX f v ns xs)) hG ⟨dx,wX f v' ns vs,by rw[e1],e2,LU (r1.mono s2) t⟩) ((rs.mono s1).mono s2) q2⟩
end
section
variable{X:Cx}{E:Ev}{T:Tb}{k:Nat}{pos:Pos}{a b c e:Expr}
theorem aEX(rs:RSt E Z σ' σ):RSt E Z (kR js σ') (UI js σ):=by
 induction js with
 | nil=>exact .nil
 | cons o r ih =>
   refine .cons ?_ ih;cases o with
   | none=>exact trivial
   | some j =>
     show RSl E Z ((σ'[j]?).getD none) ((σ[j]?).getD none);cases e:σ'[j]? with
     | none=>exact trivial
     | some u =>
       cases u with
       | none=>exact trivial
       | some x =>
         obtain⟨v,e',r⟩:=rs.get e;rw[e'];exact⟨v,rfl,r⟩
def aEP(E:Ev)(t:PTE):TE:=λσ H Q=>∃F,low E F t σ H Q
def aA8(E:Ev)(t:PTT):TT:=λσ H Q=>∃F,AO E F t σ H Q
def aFq(E:Ev)(t:PTG):TG:=λv σ H Q=>∃F,aGi E F t v σ H Q
theorem JE.any(h:JE X E e t):PE X e (aEP E t):=by rintro j4 s σ H Q I ⟨F,q⟩;exact h F j4 s σ H Q I q
theorem JT.any(h:JT X E e t):PT X e (aA8 E t):=by rintro j4 s σ H Q I ⟨F,q⟩;exact h F j4 s σ H Q I q
theorem JG.any(h:JG X E e t):PG X e (aFq E t):=by rintro j4 s σ H v u Q I r ⟨F,q⟩;exact h F j4 s σ H v u Q I r q
theorem VN
   (S1:Sim E F H1 Z1 G1) (ok:uS E J Z1 chk xs) (rs:RSt E Z1 σ' σ) (hz:xs.length<=sizeLine) (n:H1 D=none) (q:fM chk g' ts' te' xs [] σ' G1 λys G2=>nM m G2 ys Q') (kq:Kq E F Z1 Q' Q) :
   ZL J D (aFq E g') (aA8 E ts') (aEP E te') Q σ (upd H1 D (.lst [])):=by
 have fD:F D=none:=S1.fn n;refine⟨λi m' σ H=>m'=xs.length-i/\i<=xs.length/\∃σ' Z2 G2 acc vs,aJ Z1 Z2/\Sim E (upd F D (.lst vs)) H Z2 G2/\RPs E Z2 acc vs/\RSt E Z2 σ' σ/\acc.length<=i/\fM chk g' ts' te' (xs.drop i) acc σ' G2 λys G2=>nM m G2 ys Q',
   ⟨xs.length,by simp,Nat.zero_le _,σ',Z1,G1,[],[],aJ.refl _,S1.mine n,rfl,rs,Nat.le_refl _,q⟩,?_⟩
 rintro i m' σ2 H2 ⟨rfl,hi,σ3,Z2,G2,acc,vs,s2,S2,ra,rs2,la,q2⟩;by_cases hlt:i<xs.length
 . have hd:xs.drop i=xs[i]::xs.drop (i+1):=List.drop_eq_getElem_cons hlt;rw[hd] at q2;unfold fM at q2;obtain⟨c2,q2⟩:=q2;obtain⟨go,yl⟩:=(ok _ i Z2 G2 H2 s2 S2 c2).1 xs[i] (by simp[hlt]);refine .inr ⟨go,λσ4 H4=>∃σ5 Z4 G4 acc4 vs4,aJ Z1 Z4/\Sim E (upd F D (.lst vs4)) H4 Z4 G4/\RPs E Z4 acc4 vs4/\RSt E Z4 σ5 σ4/\acc4.length<=i+1/\fM chk g' ts' te' (xs.drop (i+1)) acc4 σ5 G4 λys G2=>nM m G2 ys Q',
     by rintro σ4 H4 ⟨σ5,Z4,G4,acc4,vs4,s4,S4,ra4,rs4,l4,q4⟩;exact⟨xs.length-(i+1),by omega,rfl,hlt,σ5,Z4,G4,acc4,vs4,s4,S4,ra4,rs4,l4,q4⟩,λv H3 y=>?_⟩
   obtain⟨Z3,s3,S3,r3⟩:=yl v H3 y;refine⟨_,xs[i],σ3,Z3,G2,_,r3,rs2.mono s3,S3,q2,λσ6 σ7 Z5 G5 H5 s5 S5 rs5 q5=>⟨_,σ6,Z5,G5,_,rs5,S5,q5,λok' Z6 G6 H6 s6 S6 q6=>?_⟩⟩;have s26:=(s3.trans s5).trans s6;dsimp only;cases ok' with
   | true =>
     rw[jd rfl] at q6 ⊢;refine⟨_,σ6,Z6,G6,_,rs5.mono s6,S6,q6,λy' u Z7 G7 H7 s7 S7 r7 q7=>?_⟩;refine⟨vs,(S7.f D _ aS).1,?_,?_⟩
     . have:=ra.length;omega
     . have s27:=s26.trans s7;exact⟨σ6,Z7,G7,acc++[y'],vs++[u],s2.trans s27,S7.turn (S1.f0n n),(ra.mono s27).append ⟨u,[],rfl,r7,rfl⟩,(rs5.mono s6).mono s7,by rw[List.length_append];exact Nat.succ_le_succ la,q7⟩
   | false =>
     rw[jb Bool.false_ne_true] at q6 ⊢;exact⟨σ6,Z6,G6,acc,vs,s2.trans s26,S6,ra.mono s26,rs5.mono s6,Nat.le_succ_of_le la,q6⟩
 . have e:i=xs.length:=by omega
   rw[e,List.drop_length] at q2;unfold fM at q2;obtain⟨c2,q2⟩:=q2;refine .inl ⟨(ok _ i Z2 G2 H2 s2 S2 c2).2 e,?_⟩;unfold nM at q2;cases m with
   | true =>
     rw[jd rfl] at q2;exact kq (.ref D) _ Z2 _ _ s2 (S2.mineG fD (S1.f0n n) (go:=.lst acc) ⟨vs,rfl,ra⟩) rfl (q2 D (S2.f D _ aS).2.2)
   | false =>
     rw[jb Bool.false_ne_true] at q2;have zn:=(S2.f D _ aS).2.1;exact kq (.lst acc) _ (upd Z2 D (.lst vs)) _ _ (s2.trans (bE zn _)) (S2.mineZ fD (S1.f0n n)) (jQ zn ra) q2
theorem EG(h:low E F (wpE T (.cmpr m tg' it' ts' el' js)) σ H Q):XO (aIX E F (wpI T it')) (aFq E (wpG T tg')) (aA8 E (wpT T ts')) (aEP E (wpE T el')) js σ H Q:=by
 obtain⟨σ',Z,G,Q',rs,S,h,kq⟩:=h;refine⟨σ',Z,G,_,rs,S,h,λJ chk xs Z1 G1 H1 s1 S1 ok q D n=>?_⟩;exact VN S1 ok (aEX (rs.mono s1)) q.1 n q.2 (kq.mono s1)
def YI(X:Cx)(E:Ev)(ifs:List Expr)(t:PTT):Prop:=PTs X ifs (aA8 E t)
theorem aMh:YI X E [] (wpT T .nil):=by
 rintro j4 s σ H Q I ⟨F,σ',Z,G,Q',rs,S,h,kt⟩;rw[wpT] at h;exact aCo j4 s σ H Q I (kt _ _ _ _ (aJ.refl Z) S h)
theorem aLv(h:JT X E c t):YI X E [c] t:=aA5 h.any
section
variable{N:List Str}{scope:Scope}{cl:List (Str×Addr)}{js:List (Option Nat)}{tg j5 elt:Expr}{ifs:List Expr}{m:Bool}{tg' it' ts' el':CE}
theorem aBn(S:jO X N scope cl js)(P:Pl X E T k)(h40:40<=k)(hi:JI X E tg j5 (wpI T it'))(hg:∀C s₀ H₀ ex,JG (cxC X N scope cl C s₀ H₀ ex) E tg (wpG T tg'))(ht:∀C s₀ H₀ ex,YI (cxC X N scope cl C s₀ H₀ ex) E ifs (wpT T ts'))
   (he:∀C s₀ H₀ ex,JE (cxC X N scope cl C s₀ H₀ ex) E elt (wpE T el')) (hs:∀x,foldedSetIterable j5 X.env x=pure x):JE X E (.ListComp elt [⟨tg,j5,ifs,0⟩] scope pos) (wpE T (.cmpr m tg' it' ts' el' js)):=λF =>
 (aA9 S (P.calm h40) (hi F) (λC s₀ H₀ ex=>(hg C s₀ H₀ ex).any) ht (λC s₀ H₀ ex=>(he C s₀ H₀ ex).any) hs).imp λσ H Q h=>EG h
theorem aBg(S:jO X N scope cl js)(P:Pl X E T k)(h40:40<=k)(hN:X.N.Nodup)(hi':X.N[i]? =some y)(hy:X.env.scope.names.lookup y=some .local)(hi:JI X E tg j5 (wpI T it'))(hg:∀C s₀ H₀ ex,JG (cxC X N scope cl C s₀ H₀ ex) E tg (wpG T tg'))
   (ht:∀C s₀ H₀ ex,YI (cxC X N scope cl C s₀ H₀ ex) E ifs (wpT T ts')) (he:∀C s₀ H₀ ex,JE (cxC X N scope cl C s₀ H₀ ex) E elt (wpE T el'))
   (hsw:swapsWith (.ListComp elt [⟨tg,j5,ifs,0⟩] scope pos) (some (.Name y py)) spos.line X.env=pure true) (hs:∀x,foldedSetIterable j5 X.env x=pure x) :
   JS X E (.Assign [.Name y py] (.ListComp elt [⟨tg,j5,ifs,0⟩] scope pos) spos) (wpS T (.asg (.gn i) (.cmpr m tg' it' ts' el' js))):=λF =>
 (aBY S (P.calm h40) hN hi' hy (hi F) (λC s₀ H₀ ex=>(hg C s₀ H₀ ex).any) ht (λC s₀ H₀ ex=>(he C s₀ H₀ ex).any) hsw hs).imp<|by
   rintro D σ H ⟨σ',Z,G,D',rs,S,h,kd⟩;rw[wpS] at h;refine EG (m:=m) ⟨σ',Z,G,_,rs,S,h,λx v Z1 G1 H1 s1 S1 r1 q1=>?_⟩;unfold wpG at q1;exact kd.nx _ _ _ _ _ s1 S1 ((rs.mono s1).set r1 i) q1
end
def aHc(T:Tb)(c:J8)(x xi:Str):Prop:= ∀xs G Q,T.S x xs G Q->∀p,G p=none->T.S xi (.ref p::xs) (gup G p (.ins c [] [])) λr G1=>r= .non/\∃ns ys,G1 p=some (.ins c ns ys)/\Q (.ob c ns ys) (QN G1 p)
def aK4(T:Tb)(c:J8)(x xi:Str):Prop:= ∀xs G Q,T.S x xs G Q->∀p,G p=none->T.S xi (.ref p::xs) (gup G p (.ins c [] [])) λr G1=>r= .non/\Q (.ref p) G1
def DJ(T:Tb)(c:J8)(x xi:Str):Prop:=aHc T c x xi∨aK4 T c x xi
theorem IB{c:J8}{Z1 H1:Hp}{G1:Gh}{xs:List PV}{vs:List V}{Q:VK}{p dx:Addr}{us:List V}(hu:us= .ref p::vs)(M:DJ T c x xi)(S1:Sim E F H1 Z1 G1)(r:RPs E Z1 xs vs)(q:T.S x xs G1 Q')(kq:Kq E F Z1 Q' Q)(n:H1 p=none)(nd:H1 dx=none)(ne:dx≠p) :
   fV E (T.S xi) us (upd (upd H1 dx (.own p)) p (.ins (E.cls c) dx [])) (λv H2=>v= .non/\Q (.ref p) H2) E0:=by
 subst hu;have S2:Sim E F (upd H1 dx (.own p)) Z1 G1:=S1.other nd;have n2:upd H1 dx (.own p) p=none:=by rw[aG (Ne.symm ne)];exact n
 have S3:Sim E F (upd (upd H1 dx (.own p)) p (.ins (E.cls c) dx [])) Z1 (gup G1 p (.ins c [] [])):=S2.new n2 ⟨dx,[],rfl,rfl,rfl⟩;rcases M with M|M
 case inr =>
   refine⟨.ref p::xs,Z1,_,F,_,⟨.ref p,vs,rfl,rfl,r⟩,S3,M xs G1 Q' q p (S1.gn n),?_⟩;rintro z v Z4 G4 H4 s4 S4 r4 ⟨e,q4⟩;subst e;exact⟨r4,kq (.ref p) _ Z4 _ _ s4 S4 rfl q4⟩
 refine⟨.ref p::xs,Z1,_,F,_,⟨.ref p,vs,rfl,rfl,r⟩,S3,M xs G1 Q' q p (S1.gn n),?_⟩;rintro z v Z4 G4 H4 s4 S4 r4 ⟨e,ns,ys,hG,q4⟩;subst e;obtain⟨zn,o',hp,dx',vs',e',l,t⟩:=S4.g _ _ hG;subst e';exact⟨r4,kq (.ob c ns ys) _ (upd Z4 p _) _ _ (s4.trans (bE zn _)) (S4.frz hG hp) ⟨p,dx',vs',rfl,aS,l,t.mono (bE zn _)⟩ q4⟩
theorem XJ{c:J8}{y x xi:Str}{p:Pos}{e:Expr}{es:List Expr}{es':CE}{f:Addr}{fd:Ja}{ps:List Str}(M:Mk X.K (E.cls c) f)(K:Co X E (T.S xi) k f fd ps)(hr:aR (k+1) X.A)(hg:Gl X x)(hm:X.mg x=some (.ref (E.cls c)))
   (hb:aP X.K fd ps []) (ms:DJ T c y xi) (hd:(x==("__debug__":Str))=false) (ha:JA X E (e::es) (wpL T es')) (he:starEach (e::es) X.env=(false,eval e X.env)::starEach es X.env) (hpl:(backTo pos (starEach es X.env)).any (·.1)=false) :
   JE X E (.Call (.Name x p) (e::es) [] pos) (wpE T (.cal y es')):=λF=>by
 obtain⟨CX,sp,EX,K,hp,hl⟩:=K;exact(aBJ M K hr hg hm hb .nil hp (ha F) hd he hpl).imp<|by
   rintro σ H Q ⟨σ',Z,G,Q',rs,S,h,kq⟩;exact⟨σ',Z,G,_,rs,S,h,λxs vs Z1 G1 H1 l1 s1 S1 r1 q1 p dx n nd ne=>hl _ _ _ (IB (by rw[List.append_nil]) ms S1 r1 q1 (kq.mono s1) n nd ne)⟩
def JK(X:Cx)(E:Ev)(kws:List Keyword)(t:PTA):Prop:= ∀F,PK X kws (xF E F kws.length t)
theorem PK.imp{kws:List Keyword}(h:PK X kws t)(g:∀σ H Q,t' σ H Q->t σ H Q):PK X kws t':=λpos j4 s σ H Q I q=>h pos j4 s σ H Q I (g _ _ _ q)
theorem JC:JK X E [] (wpL T .nil):=λF=>PK.imp aEx<|by rintro σ H Q ⟨σ',Z,G,Q',rs,S,h,kq⟩;rw[wpL] at h;exact kq [] [] Z G H rfl (aJ.refl Z) S rfl h
theorem aBO(ha:JE X E v (wpE T a'))(hr:JK X E kws (wpL T b')):JK X E (⟨n,v,p⟩::kws) (wpL T (.cons a' b')):=λF =>
 PK.imp (aA7 (ha F) (hr F))<|by
   rintro σ H Q ⟨σ',Z,G,Q',rs,S,h,kq⟩;rw[wpL] at h;exact⟨σ',Z,G,_,rs,S,h,λx v Z1 G1 H1 s1 S1 r1 q1=>⟨σ',Z1,G1,_,rs.mono s1,S1,q1,λxs vs Z2 G2 H2 l2 s2 S2 r2 q2=>kq (x::xs) (v::vs) _ _ _ (by rw[List.length_cons,l2];rfl) (s1.trans s2) S2 ⟨v,vs,rfl,r1.mono s2,r2⟩ q2⟩⟩
noncomputable def Ar.valV(vs:List V):Ar->V
 | .arg i=>vs.getD i .non
 | .non=>.non
 | .bl b=>.bl b
 | .int i=>.int i
 | .str x=>.str x
theorem sQ(r:RPs E Z xs vs):∀ar:List Ar,RPs E Z (ar.map (Ar.val xs)) (ar.map (Ar.valV vs))
 | []=>rfl
 | a::l=>by
   refine⟨_,_,rfl,?_,sQ r l⟩;cases a with
   | arg i =>
     show RP E Z (xs.getD i .non) (vs.getD i .non);rw[List.getD_eq_getElem?_getD,List.getD_eq_getElem?_getD];cases e:xs[i]? with
     | none =>
       have:vs[i]? =none:=List.getElem?_eq_none_iff.mpr (by rw[<-r.length];exact List.getElem?_eq_none_iff.mp e);rw[this];exact oA
     | some x =>
       obtain⟨v,e',rr⟩:=r.get e;rw[e'];exact rr
   | non=>exact oA
   | bl b=>exact bG
   | int i=>exact bF
   | str x=>exact jY
structure eL(K:W.Frag)(fd:Ja)(ps:List Str)(n:Nat)(ks:List Str)(ar:List Ar):Prop where
 len:ar.length=ps.length
 to:∀(s:J7) (us ws:List Value),K.In s.heap->us.length=n->ws.length=ks.length->∃bs,BindsTo s fd ⟨us,ks.zip ws⟩ (ps.zip bs)/\∀vs zs,aI vs us->aI zs ws->aI (ar.map (Ar.valV (vs++zs))) bs
theorem wR{j4:List (Addr×Obj)}{σ:L2.St}{H:Hp}{s:J7}{Q:VK}{us ws:List Value}{vs zs:List V}{f:Addr}{fd:Ja}{ps ks:List Str}{n:Nat}{ar:List Ar}{sp:Sp}{A':Around}{CX:CXT}{EX:XK}
   (K:aW X.prog X.w X.K X.mg X.base CX k f fd ps sp) (hx:jX CX X EX) (hr:aR k A') (e0:rW X.prog X.w X.K X.mg X.base A' X.stack s H) (hb:eL X.K fd ps n ks ar) (I:Inv X j4 σ H s) (r:aI vs us) (rz:aI zs ws) (l1:vs.length=n) (l2:zs.length=ks.length) (h:sp (ar.map (Ar.valV (vs++zs))) H Q EX) :
   wpAny (model X.prog X.w) A' (call (.ref f) us (ks.zip ws)) (EP X j4 σ Q) X.xe s:=by
 obtain⟨bs,hbs,hv⟩:=hb.to s us ws I.kIn (by rw[<-r.length];exact l1) (by rw[<-rz.length];exact l2);refine wpAny_call (codeAny_mono (K.run A' X.stack s H ⟨us,ks.zip ws⟩ bs _ Q EX hr e0 hbs (hv vs zs r rz) h) λr s' hq=>?_);cases r with
 | error e=>exact hx j4 σ H s e s' I hq
 | ok fl =>
   cases fl with
   | ret u=>exact I.after hq
   | next=>exact False.elim hq
   | brk=>exact False.elim hq
   | cont=>exact False.elim hq
theorem aHQ{y f:Str}{p:Pos}{e:Expr}{es:List Expr}{kws:List Keyword}{es' ks':CE}{ad:Addr}{fd:Ja}{ps ks:List Str}{n:Nat}{ar:List Ar}(K:Co X E (T.S y) k ad fd ps)(hr:aR k X.A)(hg:Gl X f)(hm:X.mg f=some (.ref ad))
   (hk:W.keepIn X.K (.ref ad)=true) (hb:eL X.K fd ps n ks ar) (hd:(f==("__debug__":Str))=false) (ha:JA X E (e::es) (wpL T es')) (hkw:JK X E kws (wpL T ks')) (hn:(e::es).length=n) (hkn:kws.length=ks.length)
   (hall:(backToKw pos (keywordEach kws X.env)).all (·.1.isSome)=true) (hks:(backToKw pos (keywordEach kws X.env)).filterMap (·.1)=ks) (he:starEach (e::es) X.env=(false,eval e X.env)::starEach es X.env)
   (hpl:((backTo pos (starEach (e::es) X.env)).any (·.1)||(backToKw pos (keywordEach kws X.env)).any (·.1.isNone))=false) :
   JE X E (.Call (.Name f p) (e::es) kws pos) (wpE T (.cak y es' ks' ar)):=λF=>by
 obtain⟨CX,sp,EX,K,hp,hl⟩:=K;have main:PE X (.Call (.Name f p) (e::es) kws pos) (λσ H Q=>xF E F (e::es).length (wpL T es') σ H λvs H1=>vs.length=n/\xF E F kws.length (wpL T ks') σ H1 λzs H2=>zs.length=ks.length/\sp (ar.map (Ar.valV (vs++zs))) H2 Q EX):=by
   intro j4 s σ H Q I h;refine wpAny_Call_Name_kw (jR I hg hm ?_ hd);refine W.callWith_KW (h₀:=X.base) I.ok.mod.kin hk hall (thn (ha F pos j4 s σ H _ I h) λus s1 zz=>?_) hpl he;obtain⟨vs,H1,I1,r,l1,q⟩:=zz;refine thn (hkw F pos j4 s1 σ H1 _ I1 q) λws s2 ⟨zs,H2,I2,rz,l2,q2⟩=>⟨I2.kIn,?_⟩;rw[hks];exact wR K hp hr I2.env0 hb I2 r rz l1 l2 q2
 refine main.imp λσ H Q zz=>?_;obtain⟨σ',Z,G,Q',rs,S,h,kq⟩:=zz;exact⟨σ',Z,G,_,rs,S,h,λxs vs Z1 G1 H1 l1 s1 S1 r1 q1=>⟨by rw[<-r1.length,l1];exact hn,σ',Z1,G1,_,rs.mono s1,S1,q1,λzs us Z2 G2 H2 l2 s2 S2 r2 q2 =>
   ⟨by rw[<-r2.length,l2];exact hkn,hl _ _ _ ⟨_,Z2,G2,F,Q',sQ ((r1.mono s2).append r2) ar,S2,q2,kq.mono (s1.trans s2)⟩⟩⟩⟩
theorem aAJ{y f:Str}{p:Pos}{kws:List Keyword}{ks':CE}{ad:Addr}{fd:Ja}{ps ks:List Str}{ar:List Ar}(K:Co X E (T.S y) k ad fd ps)(hr:aR k X.A)(hg:Gl X f)(hm:X.mg f=some (.ref ad))
   (hk:W.keepIn X.K (.ref ad)=true) (hb:eL X.K fd ps 0 ks ar) (hd:(f==("__debug__":Str))=false) (hkw:JK X E kws (wpL T ks')) (hkn:kws.length=ks.length)
   (hall:(backToKw pos (keywordEach kws X.env)).all (·.1.isSome)=true) (hks:(backToKw pos (keywordEach kws X.env)).filterMap (·.1)=ks)
   (hpl:((backTo pos (starEach [] X.env)).any (·.1)||(backToKw pos (keywordEach kws X.env)).any (·.1.isNone))=false) :
   JE X E (.Call (.Name f p) [] kws pos) (wpE T (.cak y .nil ks' ar)):=λF=>by
 obtain⟨CX,sp,EX,K,hp,hl⟩:=K;have main:PE X (.Call (.Name f p) [] kws pos) (λσ H Q=>xF E F kws.length (wpL T ks') σ H λzs H2=>zs.length=ks.length/\sp (ar.map (Ar.valV ([]++zs))) H2 Q EX):=by
   intro j4 s σ H Q I h;refine wpAny_Call_Name_kw (jR I hg hm ?_ hd);refine W.callWith_KW0 (h₀:=X.base) (first:=[]) I.ok.mod.kin hk hall ?_ hpl;refine thn (hkw F pos j4 s σ H _ I h) λws s2 ⟨zs,H2,I2,rz,l2,q2⟩=>⟨I2.kIn,?_⟩;rw[hks];exact wR (us:=[]) (vs:=[]) K hp hr I2.env0 hb I2 .nil rz rfl l2 q2
 refine main.imp λσ H Q zz=>?_;obtain⟨σ',Z,G,Q',rs,S,h,kq⟩:=zz
 skip
 exact⟨σ',Z,G,_,rs,S,h,λzs us Z2 G2 H2 l2 s2 S2 r2 q2=>⟨by rw[<-r2.length,l2];exact hkn,hl _ _ _ ⟨_,Z2,G2,F,Q',sQ r2 ar,S2,q2,kq.mono s2⟩⟩⟩
theorem aCe{c:J8}{w x xi:Str}{p:Pos}{kws:List Keyword}{ks':CE}{f:Addr}{fd:Ja}{ps ks:List Str}{ar:List Ar}(M:Mk X.K (E.cls c) f)(K:Co X E (T.S xi) k f fd ps)(hr:aR (k+1) X.A)(hg:Gl X x)(hm:X.mg x=some (.ref (E.cls c)))
   (hb:eL X.K fd ps 1 ks (.arg 0::ar.map λa=>match a with|.arg i=>.arg (i+1)|a=>a)) (ms:DJ T c w xi) (hd:(x==("__debug__":Str))=false) (hkw:JK X E kws (wpL T ks')) (hkn:kws.length=ks.length)
   (hall:(backToKw pos (keywordEach kws X.env)).all (·.1.isSome)=true) (hks:(backToKw pos (keywordEach kws X.env)).filterMap (·.1)=ks)
   (hpl:((backTo pos (starEach [] X.env)).any (·.1)||(backToKw pos (keywordEach kws X.env)).any (·.1.isNone))=false) :
   JE X E (.Call (.Name x p) [] kws pos) (wpE T (.cak w .nil ks' ar)):=λF=>by
 obtain⟨CX,sp,EX,K,hp,hl⟩:=K;have main:PE X (.Call (.Name x p) [] kws pos) (λσ H Q=>xF E F kws.length (wpL T ks') σ H λzs H2=>zs.length=ks.length/\∀y dx,H2 y=none->H2 dx=none->dx≠y->
     sp (.ref y::ar.map (Ar.valV zs)) (upd (upd H2 dx (.own y)) y (.ins (E.cls c) dx [])) (λv H3=>v= .non/\Q (.ref y) H3) EX):=by
   intro j4 s σ H Q I h;refine wpAny_Call_Name_kw (jR I hg hm ?_ hd);refine W.callWith_KW0 (h₀:=X.base) (first:=[]) I.ok.mod.kin M.kp hall ?_ hpl;refine thn (hkw F pos j4 s σ H _ I h) λws s2 ⟨zs,H2,I2,rz,l2,q2⟩=>⟨I2.kIn,?_⟩;rw[hks];have hq:=q2 (s2.heap.objs.size+1) s2.heap.objs.size (I2.hok.fresh (Nat.le_succ _)) (I2.hok.fresh (Nat.le_refl _)) (Nat.ne_of_lt (Nat.lt_succ_self _));have I3:=Inv.made (C:=E.cls c) I2;have e:V.ref (s2.heap.objs.size+1)::ar.map (Ar.valV zs)=(Ar.arg 0::ar.map λa=>match a with|.arg i=>.arg (i+1)|a=>a).map (Ar.valV ([V.ref (s2.heap.objs.size+1)]++zs)):=by
     rw[List.map_cons,List.map_map];refine congr (congrArg List.cons rfl) (List.map_congr_left λa _=>?_);cases a<;>rfl
   rw[e] at hq;obtain⟨bs,hbs,hv⟩:=hb.to {s2 with heap:=(s2.heap.push _).push _} [Value.ref (s2.heap.objs.size+1)] ws I3.kIn rfl (by rw[<-rz.length];exact l2);refine wpAny_call (vF (f:=f) (vs:=[]) (kw:=ks.zip ws) I2.kIn M.makes M.init (beq_iff_eq.mp M.fn) (codeAny_mono (K.run _ X.stack _ _ ⟨[Value.ref (s2.heap.objs.size+1)],ks.zip ws⟩ bs _ _ EX (hr.make (E.cls c) [] (ks.zip ws))
     (I3.env0.make (E.cls c) [] (ks.zip ws)) hbs (hv [V.ref (s2.heap.objs.size+1)] zs (.cons rfl .nil) rz) hq) λr s' hq'=>?_))
   cases r with
   | error e=>exact hp j4 σ _ _ e s' I3 hq'
   | ok fl =>
     cases fl with
     | ret u =>
       obtain⟨v,H',I4,rv,ev,q3⟩:=I3.after hq';subst ev;exact⟨rv,⟨V.ref (s2.heap.objs.size+1),H',I4,rfl,q3⟩⟩
     | next=>exact False.elim hq'
     | brk=>exact False.elim hq'
     | cont=>exact False.elim hq'
 refine main.imp λσ H Q zz=>?_;obtain⟨σ',Z,G,Q',rs,S,h,kq⟩:=zz
 skip
 exact⟨σ',Z,G,_,rs,S,h,λzs us Z2 G2 H2 l2 s2 S2 r2 q2=>⟨by rw[<-r2.length,l2];exact hkn,λy dx n nd ne=>hl _ _ _ (IB rfl ms S2 (sQ r2 ar) q2 (kq.mono s2) n nd ne)⟩⟩
theorem LG(hb:attributeBase o m env (eval o env)=eval o env)
   (hf:methodCallForm (es.length+([]:List Keyword).length) (backTo pos (starEach es env)) (backToKw pos (keywordEach [] env))=true) (hl:(j6.endLine==pos.line)=true) :
   eval (.Call (.Attribute o m j6) es [] pos) env=(do
     let ov <-eval o env
     standAt j6.atName
     let (f,first) <-holding [ov] (getMethod ov m (do
       let b <-importBound o env
       pure (b.getD true)))
     callWith pos f first (backTo pos (starEach es env)) (backToKw pos (keywordEach [] env))):=by
 refine Eq.trans (b:=(do
     let ov <-attributeBase o m env (eval o env)
     standAt j6.atName
     methodCall o m j6 pos env ov (es.length+([]:List Keyword).length) (backTo pos (starEach es env)) (backToKw pos (keywordEach ([]:List Keyword) env)))) rfl ?_
 rw[hb];unfold methodCall calleeOf methodCallPos;rw[hf];simp only[hl,Bool.not_true,Bool.false_or,if_true];rfl
theorem pJ:∀{ns:List Str} {vs:List V},m∉ns->(ns.zip vs).lookup m=none
 | [],_,_=>rfl
 | _::_,[],_=>rfl
 | n::r,v::t,h=>by
   rw[List.zip_cons_cons,List.lookup_cons];have e:(m==n)=false:=beq_eq_false_iff_ne.mpr λe=>h (e▸wDq ..);rw[e];exact pJ λz=>h (wCq _ z)
noncomputable def upA:Ar->Ar
 | .arg i=>.arg (i+1)
 | a=>a
structure YR(X:Cx)(E:Ev)(T:Tb)(k:Nat)(m:Str)(n:Nat)(ks:List Str)(y:J8×Str×List Ar):Prop where
 ex:∃f fd ps,Cls X.K (E.cls y.1)/\cR X.K (E.cls y.1) m f/\Co X E (T.S y.2.1) k f fd ps/\eL X.K fd ps (n+1) ks (.arg 0::y.2.2.map upA)
theorem IJ{F Z H:Hp}{G:Gh}{c:J8}{ns:List Str}(S:Sim E F H Z G)(r:RP E Z x v)(h:x= .ob c ns xs∨∃p,x= .ref p/\G p=some (.ins c ns xs)):∃a dx vs,v= .ref a/\H a=some (.ins (E.cls c) dx (ns.zip vs)):=by
 rcases h with rfl|⟨p,rfl,hG⟩
 . obtain⟨a,dx,vs,e,hz,_,_⟩:=r;exact⟨a,dx,vs,e,S.z _ _ hz⟩
 . obtain⟨_,o',hp,dx,vs,e',_,_⟩:=S.g _ _ hG;subst e';exact⟨p,dx,vs,r,hp⟩
theorem UR(F:Hp)(hr:aR k X.A)(ho:JE X E o (wpE T o'))(ha:JA X E es (wpL T es'))(hM:∀y∈ls,YR X E T k m es.length [] y)
   (hb:attributeBase o m X.env (eval o X.env)=eval o X.env) (hl:(j6.endLine==pos.line)=true) (hf:methodCallForm (es.length+([]:List Keyword).length) (backTo pos (starEach es X.env)) (backToKw pos (keywordEach [] X.env))=true)
   (hc:∀(f:Value) (a:Addr) (s:J7) (Q:Value->J7->Prop),X.K.In s.heap->W.keepIn X.K f=true->wpAny (model X.prog X.w) X.A (spliced (backTo pos (starEach es X.env))) (λvs s₁=>X.K.In s₁.heap/\wpAny (model X.prog X.w) X.A (call f ([.ref a]++vs)) Q X.xe s₁) X.xe s->
     wpAny (model X.prog X.w) X.A (callWith pos f [.ref a] (backTo pos (starEach es X.env)) []) Q X.xe s) :
   PE X (.Call (.Attribute o m j6) es [] pos) (low E F (wpE T (.met m ls o' es'))):=by
 rintro j4 s σ H Q I ⟨σ',Z,G,Q',rs,S,h,kq⟩;refine W.methodCall_KW (thn (ho F j4 s σ H (λv H1=>∃x Z1 G1,aJ Z Z1/\Sim E F H1 Z1 G1/\RP E Z1 x v/\∃c ky ar ns xs,(c,ky,ar)∈ls/\(x= .ob c ns xs∨∃p,x= .ref p/\G1 p=some (.ins c ns xs))/\m∉ns/\wpL T es' σ' G1 λys G2=>T.S ky (x::ar.map (Ar.val ys)) G2 Q') I ⟨σ',Z,G,_,rs,S,h,λx v Z1 G1 H1 s1 S1 r1 q=>⟨x,Z1,G1,s1,S1,r1,q⟩⟩) λu s1 zz=>?_) (LG hb hf hl);obtain⟨v,H1,I1,ru,x,Z1,G1,sz,S1,rx,c,ky,ar,ns,xs,hm,hx,hn,q⟩:=zz;obtain⟨a,dx,vs0,ev,ea⟩:=IJ S1 rx hx;subst ev;obtain rfl:u=Value.ref a:=ru;obtain⟨f,fd,ps,cl,me,⟨CX,sp,EX,K,hp,hL⟩,hB⟩:=(hM _ hm).ex;refine nS I1 ea cl me (pJ hn) ?_;refine hc _ _ _ _ I1.kIn me.kp ?_;refine thn (ha F pos j4 s1 σ H1 (λvs H2=>vs.length=es.length/\fV E (T.S ky) (.ref a::ar.map (Ar.valV vs)) H2 Q E0) I1 ⟨σ',Z1,G1,_,rs.mono sz,S1,q,λys vs Z2 G2 H2 l2 s2 S2 r2 q2=>⟨by rw[<-r2.length,l2],x::ar.map (Ar.val ys),Z2,G2,F,Q',⟨_,_,rfl,rx.mono s2,sQ r2 ar⟩,S2,q2,kq.mono (sz.trans s2)⟩⟩) λus s2 ⟨vs,H2,I2,r,l2,q2⟩=>⟨I2.kIn,?_⟩;have e:V.ref a::ar.map (Ar.valV vs)=(Ar.arg 0::ar.map upA).map (Ar.valV ((V.ref a::vs)++[])):=by
   rw[List.append_nil,List.map_cons,List.map_map];refine congr (congrArg List.cons rfl) (List.map_congr_left λz _=>?_);cases z<;>rfl
 refine wR (ks:=[]) (us:=Value.ref a::us) (ws:=[]) (vs:=V.ref a::vs) (zs:=[]) K hp hr I2.env0 hB I2 (.cons rfl r) .nil (by rw[List.length_cons,l2]) rfl (hL _ _ _ ?_);rw[<-e];exact q2
theorem aHe(hr:aR k X.A)(ho:JE X E o (wpE T o'))(ha:JA X E (e::es) (wpL T es'))(hM:∀y∈ls,YR X E T k m (e::es).length [] y)
   (hb:attributeBase o m X.env (eval o X.env)=eval o X.env) (hl:(j6.endLine==pos.line)=true) (hf:methodCallForm ((e::es).length+([]:List Keyword).length) (backTo pos (starEach (e::es) X.env)) (backToKw pos (keywordEach [] X.env))=true)
   (hst:starEach (e::es) X.env=(false,eval e X.env)::starEach es X.env) (hpl:(backTo pos (starEach es X.env)).any (·.1)=false):JE X E (.Call (.Attribute o m j6) (e::es) [] pos) (wpE T (.met m ls o' es')):=λF =>
 UR F hr ho ha hM hb hl hf λf a s Q hk kp h=>W.callWith_K (first:=[.ref a]) hk kp h hst hpl
theorem aCl(hr:aR k X.A)(ho:JE X E o (wpE T o'))(hM:∀y∈ls,YR X E T k m 0 [] y)
   (hb:attributeBase o m X.env (eval o X.env)=eval o X.env) (hl:(j6.endLine==pos.line)=true):JE X E (.Call (.Attribute o m j6) [] [] pos) (wpE T (.met m ls o' .nil)):=λF=>by
 rintro j4 s σ H Q I ⟨σ',Z,G,Q',rs,S,h,kq⟩
 skip
 refine W.methodCall_KW (thn (ho F j4 s σ H (λv H1=>∃x Z1 G1,aJ Z Z1/\Sim E F H1 Z1 G1/\RP E Z1 x v/\∃c ky ar ns xs,(c,ky,ar)∈ls/\(x= .ob c ns xs∨∃p,x= .ref p/\G1 p=some (.ins c ns xs))/\m∉ns/\T.S ky (x::ar.map (Ar.val [])) G1 Q') I ⟨σ',Z,G,_,rs,S,h,λx v Z1 G1 H1 s1 S1 r1 q=>⟨x,Z1,G1,s1,S1,r1,q⟩⟩) λu s1 zz=>?_) (LG hb rfl hl);obtain⟨v,H1,I1,ru,x,Z1,G1,sz,S1,rx,c,ky,ar,ns,xs,hm,hx,hn,q⟩:=zz;obtain⟨a,dx,vs0,ev,ea⟩:=IJ S1 rx hx;subst ev;obtain rfl:u=Value.ref a:=ru;obtain⟨f,fd,ps,cl,me,⟨CX,sp,EX,K,hp,hL⟩,hB⟩:=(hM _ hm).ex;refine nS I1 ea cl me (pJ hn) ?_;have e:V.ref a::ar.map (Ar.valV [])=(Ar.arg 0::ar.map upA).map (Ar.valV ([V.ref a]++[])):=by
   rw[List.append_nil,List.map_cons,List.map_map];refine congr (congrArg List.cons rfl) (List.map_congr_left λz _=>?_);cases z<;>rfl
 refine W.callWith_K0 (first:=[.ref a]) I1.kIn me.kp (wR (ks:=[]) (us:=[Value.ref a]) (ws:=[]) (vs:=[V.ref a]) (zs:=[]) K hp hr I1.env0 hB I1 (.cons rfl .nil) .nil rfl rfl (hL _ _ _ ?_));rw[<-e];exact⟨x::ar.map (Ar.val []),Z1,G1,F,Q',⟨_,_,rfl,rx,sQ (xs:=[]) (vs:=[]) rfl ar⟩,S1,q,kq.mono sz⟩
theorem SB(hb:attributeBase o m env (eval o env)=eval o env)
   (hf:methodCallForm (([]:List Expr).length+kws.length) (backTo pos (starEach [] env)) (backToKw pos (keywordEach kws env))=true) (hl:(j6.endLine==pos.line)=true) :
   eval (.Call (.Attribute o m j6) [] kws pos) env=(do
     let ov <-eval o env
     standAt j6.atName
     let (f,first) <-holding [ov] (getMethod ov m (do
       let b <-importBound o env
       pure (b.getD true)))
     callWith pos f first (backTo pos (starEach [] env)) (backToKw pos (keywordEach kws env))):=by
 refine Eq.trans (b:=(do
     let ov <-attributeBase o m env (eval o env)
     standAt j6.atName
     methodCall o m j6 pos env ov (([]:List Expr).length+kws.length) (backTo pos (starEach ([]:List Expr) env)) (backToKw pos (keywordEach kws env)))) rfl ?_
 rw[hb];unfold methodCall calleeOf methodCallPos;rw[hf];simp only[hl,Bool.not_true,Bool.false_or,if_true];rfl
theorem aBV(hr:aR k X.A)(ho:JE X E o (wpE T o'))(hkw:JK X E kws (wpL T ks'))(hM:∀y∈ls,YR X E T k m 0 ks y)(hkn:kws.length=ks.length)
   (hall:(backToKw pos (keywordEach kws X.env)).all (·.1.isSome)=true) (hks:(backToKw pos (keywordEach kws X.env)).filterMap (·.1)=ks)
   (hpl:((backTo pos (starEach [] X.env)).any (·.1)||(backToKw pos (keywordEach kws X.env)).any (·.1.isNone))=false)
   (hb:attributeBase o m X.env (eval o X.env)=eval o X.env) (hl:(j6.endLine==pos.line)=true) (hf:methodCallForm (([]:List Expr).length+kws.length) (backTo pos (starEach [] X.env)) (backToKw pos (keywordEach kws X.env))=true):JE X E (.Call (.Attribute o m j6) [] kws pos) (wpE T (.met m ls o' ks')):=λF=>by
 rintro j4 s σ H Q I ⟨σ',Z,G,Q',rs,S,h,kq⟩;refine W.methodCall_KW (thn (ho F j4 s σ H (λv H1=>∃x Z1 G1,aJ Z Z1/\Sim E F H1 Z1 G1/\RP E Z1 x v/\∃c ky ar ns xs,(c,ky,ar)∈ls/\(x= .ob c ns xs∨∃p,x= .ref p/\G1 p=some (.ins c ns xs))/\m∉ns/\wpL T ks' σ' G1 λys G2=>T.S ky (x::ar.map (Ar.val ys)) G2 Q') I ⟨σ',Z,G,_,rs,S,h,λx v Z1 G1 H1 s1 S1 r1 q=>⟨x,Z1,G1,s1,S1,r1,q⟩⟩) λu s1 zz=>?_) (SB hb hf hl);obtain⟨v,H1,I1,ru,x,Z1,G1,sz,S1,rx,c,ky,ar,ns,xs,hm,hx,hn,q⟩:=zz;obtain⟨a,dx,vs0,ev,ea⟩:=IJ S1 rx hx;subst ev;obtain rfl:u=Value.ref a:=ru;obtain⟨f,fd,ps,cl,me,⟨CX,sp,EX,K,hp,hL⟩,hB⟩:=(hM _ hm).ex;refine nS I1 ea cl me (pJ hn) ?_;refine W.callWith_KW0 (first:=[.ref a]) I1.kIn me.kp hall ?_ hpl;refine thn (hkw F pos j4 s1 σ H1 (λvs H2=>vs.length=kws.length/\fV E (T.S ky) (.ref a::ar.map (Ar.valV vs)) H2 Q E0) I1 ⟨σ',Z1,G1,_,rs.mono sz,S1,q,λys vs Z2 G2 H2 l2 s2 S2 r2 q2=>⟨by rw[<-r2.length,l2],x::ar.map (Ar.val ys),Z2,G2,F,Q',⟨_,_,rfl,rx.mono s2,sQ r2 ar⟩,S2,q2,kq.mono (sz.trans s2)⟩⟩) λus s2 ⟨vs,H2,I2,r,l2,q2⟩=>⟨I2.kIn,?_⟩;rw[hks];have e:V.ref a::ar.map (Ar.valV vs)=(Ar.arg 0::ar.map upA).map (Ar.valV ([V.ref a]++vs)):=by
   rw[List.map_cons,List.map_map];refine congr (congrArg List.cons rfl) (List.map_congr_left λz _=>?_);cases z<;>rfl
 refine wR (us:=[Value.ref a]) (vs:=[V.ref a]) K hp hr I2.env0 hB I2 (.cons rfl .nil) r rfl (by rw[l2,hkn]) (hL _ _ _ ?_);rw[<-e];exact q2
theorem aGm(ho:JE X E o (wpE T o'))(hb:attributeBase o "bit_length" X.env (eval o X.env)=eval o X.env)(hl:(j6.endLine==pos.line)=true):JE X E (.Call (.Attribute o "bit_length" j6) [] [] pos) (wpE T (.bln o')):=λF=>by
 refine(IN PySem.F.plainAttrs_int PySem.F.slot_int_bit_length PySem.F.type_int_bit_length aA4 (ho F) hb hl).imp λσ H Q zz=>?_;obtain⟨σ',Z,G,Q',rs,S,h,kq⟩:=zz;refine⟨σ',Z,G,_,rs,S,h,λx v Z1 G1 H1 s1 S1 r1 zz=>?_⟩;obtain⟨i,ex,q⟩:=zz;subst ex;have e:v= .int i:=r1;subst e;exact⟨by first|rfl|trivial|exact⟨_,rfl⟩|simp[tyV],i,rfl,rfl,kq.go s1 S1 bF q⟩
theorem aBQ{c:J8}{w x xi:Str}{p:Pos}{e:Expr}{es:List Expr}{kws:List Keyword}{es' ks':CE}{f:Addr}{fd:Ja}{ps ks:List Str}{n:Nat}{ar:List Ar}(M:Mk X.K (E.cls c) f)(K:Co X E (T.S xi) k f fd ps)(hr:aR (k+1) X.A)(hg:Gl X x)(hm:X.mg x=some (.ref (E.cls c)))
   (hb:eL X.K fd ps (n+1) ks (.arg 0::ar.map λa=>match a with|.arg i=>.arg (i+1)|a=>a)) (ms:DJ T c w xi) (hd:(x==("__debug__":Str))=false) (ha:JA X E (e::es) (wpL T es')) (hkw:JK X E kws (wpL T ks')) (hn:(e::es).length=n) (hkn:kws.length=ks.length)
   (hall:(backToKw pos (keywordEach kws X.env)).all (·.1.isSome)=true) (hks:(backToKw pos (keywordEach kws X.env)).filterMap (·.1)=ks) (he:starEach (e::es) X.env=(false,eval e X.env)::starEach es X.env)
   (hpl:((backTo pos (starEach (e::es) X.env)).any (·.1)||(backToKw pos (keywordEach kws X.env)).any (·.1.isNone))=false) :
   JE X E (.Call (.Name x p) (e::es) kws pos) (wpE T (.cak w es' ks' ar)):=λF=>by
 obtain⟨CX,sp,EX,K,hp,hl⟩:=K;have main:PE X (.Call (.Name x p) (e::es) kws pos) (λσ H Q=>xF E F (e::es).length (wpL T es') σ H λvs H1=>vs.length=n/\xF E F kws.length (wpL T ks') σ H1 λzs H2=>zs.length=ks.length/\∀y dx,H2 y=none->H2 dx=none->dx≠y->
     sp (.ref y::ar.map (Ar.valV (vs++zs))) (upd (upd H2 dx (.own y)) y (.ins (E.cls c) dx [])) (λv H3=>v= .non/\Q (.ref y) H3) EX):=by
   intro j4 s σ H Q I h;refine wpAny_Call_Name_kw (jR I hg hm ?_ hd);refine W.callWith_KW (h₀:=X.base) I.ok.mod.kin M.kp hall (thn (ha F pos j4 s σ H _ I h) λus s1 zz=>?_) hpl he;obtain⟨vs,H1,I1,r,l1,q⟩:=zz;refine thn (hkw F pos j4 s1 σ H1 _ I1 q) λws s2 ⟨zs,H2,I2,rz,l2,q2⟩=>⟨I2.kIn,?_⟩;rw[hks];have hq:=q2 (s2.heap.objs.size+1) s2.heap.objs.size (I2.hok.fresh (Nat.le_succ _)) (I2.hok.fresh (Nat.le_refl _)) (Nat.ne_of_lt (Nat.lt_succ_self _));have I3:=Inv.made (C:=E.cls c) I2;have e:V.ref (s2.heap.objs.size+1)::ar.map (Ar.valV (vs++zs))=(Ar.arg 0::ar.map λa=>match a with|.arg i=>.arg (i+1)|a=>a).map (Ar.valV ((V.ref (s2.heap.objs.size+1)::vs)++zs)):=by
     rw[List.map_cons,List.map_map];refine congr (congrArg List.cons rfl) (List.map_congr_left λa _=>?_);cases a<;>rfl
   rw[e] at hq;obtain⟨bs,hbs,hv⟩:=hb.to {s2 with heap:=(s2.heap.push _).push _} (Value.ref (s2.heap.objs.size+1)::us) ws I3.kIn (by rw[List.length_cons,<-r.length,l1]) (by rw[<-rz.length];exact l2);refine wpAny_call (vF (f:=f) (vs:=us) (kw:=ks.zip ws) I2.kIn M.makes M.init (beq_iff_eq.mp M.fn) (codeAny_mono (K.run _ X.stack _ _ ⟨Value.ref (s2.heap.objs.size+1)::us,ks.zip ws⟩ bs _ _ EX (hr.make (E.cls c) us (ks.zip ws))
     (I3.env0.make (E.cls c) us (ks.zip ws)) hbs (hv (V.ref (s2.heap.objs.size+1)::vs) zs (.cons rfl r) rz) hq) λr s' hq'=>?_))
   cases r with
   | error e=>exact hp j4 σ _ _ e s' I3 hq'
   | ok fl =>
     cases fl with
     | ret u =>
       obtain⟨v,H',I4,rv,ev,q3⟩:=I3.after hq';subst ev;exact⟨rv,⟨V.ref (s2.heap.objs.size+1),H',I4,rfl,q3⟩⟩
     | next=>exact False.elim hq'
     | brk=>exact False.elim hq'
     | cont=>exact False.elim hq'
 refine main.imp λσ H Q zz=>?_;obtain⟨σ',Z,G,Q',rs,S,h,kq⟩:=zz;exact⟨σ',Z,G,_,rs,S,h,λxs vs Z1 G1 H1 l1 s1 S1 r1 q1=>⟨by rw[<-r1.length,l1];exact hn,σ',Z1,G1,_,rs.mono s1,S1,q1,λzs us Z2 G2 H2 l2 s2 S2 r2 q2 =>
   ⟨by rw[<-r2.length,l2];exact hkn,λy dx n nd ne=>hl _ _ _ (IB rfl ms S2 (sQ ((r1.mono s2).append r2) ar) q2 (kq.mono (s1.trans s2)) n nd ne)⟩⟩⟩
end
noncomputable def clos(cells:List (Str×Addr)):List (Str×NameKind)->List (Str×Addr)->List (Str×Addr)
 | [],acc=>acc
 | (n,k)::r,acc=>clos cells r (if k= .free then(n,(cells.lookup n).getD 0)::acc else acc)
theorem aAE(h:∀y∈scope.names,y.2= .free->∃c,env.cells.lookup y.1=some c):closureFor scope env=pure (clos env.cells scope.names []):=by
 unfold closureFor;have main:∀(l:List (Str×NameKind)) (acc:List (Str×Addr)),(∀y∈l,y.2= .free->∃c,env.cells.lookup y.1=some c)->
     (forIn l acc (λx r=>if (x.2==NameKind.free)=true then do let c <-cellOf env x.1;pure (ForInStep.yield ((x.1,c)::r)) else pure (ForInStep.yield r)):Sem (List (Str×Addr)))=pure (clos env.cells l acc):=by
   intro l;induction l with
   | nil=>intro acc _;rfl
   | cons y r ih =>
     intro acc hy;obtain⟨n,k⟩:=y;rw[List.forIn_cons];have ihr:=λacc=>ih acc λz hz=>hy z (wCq _ hz);by_cases hk:k= .free
     . subst hk;obtain⟨c,hc⟩:=hy (n,.free) (wDq ..) rfl;have e:cellOf env n=pure c:=by unfold cellOf;rw[hc]
       simp only[beq_self_eq_true,if_true,e];unfold clos;rw[jd rfl,hc];exact ihr _
     . have e:((n,k).2==NameKind.free)=false:=beq_eq_false_iff_ne.mpr hk;simp only[e];unfold clos;rw[jb hk];exact ihr _
 have:=main scope.names [] h;have e:(forIn scope.names ([]:List (Str×Addr)) (λx r=>match x with
     | (name,kind)=>if (kind==NameKind.free)=true then do let c <-cellOf env name;pure (ForInStep.yield ((name,c)::r)) else pure (ForInStep.yield r)):Sem (List (Str×Addr)))=pure (clos env.cells scope.names []):=by
   rw[<-this]
 show((forIn scope.names ([]:List (Str×Addr)) (λx r=>match x with
     | (name,kind)=>if (kind==NameKind.free)=true then do let c <-cellOf env name;pure (ForInStep.yield ((name,c)::r)) else pure (ForInStep.yield r)):Sem (List (Str×Addr)))>>=pure)=_
 rw[e];rfl
theorem LD:∀{l:List (Str×NameKind)} {acc:List (Str×Addr)},(∀y∈l,y.2= .free->∃c,cells.lookup y.1=some c)->xS cells acc->xS cells (clos cells l acc)
 | [],_,_,h=>h
 | (n,k)::r,acc,hy,h=>by
   unfold clos;refine LD (λz hz=>hy z (wCq _ hz)) ?_;split
   . rename_i hk;obtain⟨c,hc⟩:=hy (n,k) (wDq ..) hk;exact⟨by rw[hc];rfl,h⟩
   . exact h
theorem uV:∀{l:List (Str×NameKind)} {acc:List (Str×Addr)} {n:Str},((∃c,(n,c)∈acc)∨(n,NameKind.free)∈l)->∃c,(n,c)∈clos cells l acc
 | [],_,_,h=>by
   rcases h with h|h
   . exact h
   . cases h
 | (m,k)::r,acc,n,h=>by
   unfold clos;refine uV ?_;rcases h with ⟨c,h⟩|h
   . refine .inl ?_;split
     . exact⟨c,wCq _ h⟩
     . exact⟨c,h⟩
   . rcases List.mem_cons.mp h with e|h
     . cases e;exact .inl ⟨_,by rw[jd rfl];exact wDq ..⟩
     . exact .inr h
theorem AM:∀{cl:List (Str×Addr)} {n:Str},xS cells cl->(∃c,(n,c)∈cl)->∃c,cl.lookup n=some c/\cells.lookup n=some c
 | [],_,_,⟨_,h⟩=>by cases h
 | (m,d)::r,n,ok,⟨c,h⟩=>by
   rw[List.lookup_cons];cases hb:n==m with
   | true =>
     rw[beq_iff_eq.mp hb];exact⟨d,rfl,ok.1⟩
   | false =>
     rcases List.mem_cons.mp h with e|h
     . cases e;rw[beq_self_eq_true] at hb;cases hb
     . exact AM ok.2 ⟨c,h⟩
theorem LK(hcl:xS cells cl):∀{l:List (Str×NameKind)},(∀n,(n,NameKind.free)∈l->∃c,(n,c)∈cl)->nN cl cells l
 | [],_=>trivial
 | (n,k)::r,h=>⟨λe=>by subst e;exact AM hcl (h n (wDq ..)),LK hcl λm hm=>h m (wCq _ hm)⟩
structure Cfg where
 N:List Str
 names:List (Str×NameKind)
 blk:Bool:=false
 fns:List Str:=[]
 mks:List Str:=[]
 shs:List (Str×Nat×List Str×List Ar):=[]
 mkk:List (Str×List Str×List Ar):=[]
 gls:List Str:=[]
 tys:List Str:=[]
 blt:List Str:=[]
 M:List Str:=[]
 rm:Bool:=false
 eqs:List (J8×Str):=[]
 own:List Str:=[]
 ls:List Str:=[]
 nes:List (J8×Str):=[]
 lns:List (J8×Str):=[]
 ows:List (Str×List (J8×Str)):=[]
 gds:List (Str×List (Str×Str)):=[]
 fvs:List (Str×Nat×List Ar):=[]
 mkp:List (Str×Nat×List Str×List Ar):=[]
 rp:Bool:=false
 exs:List (J8×Str):=[]
 ky:List (Str×Str):=[]
 rz:Bool:=false
 xcl:List (Str×Str):=[]
 xis:List Str:=[]
 xat:List Str:=[]
 tr:Bool:=false
 tky:List (Str×Str):=[]
 cat:List J8:=[]
 cln:List Str:=[]
 cm:Bool:=true
 hs:Bool:=false
 hfn:List Str:=[]
 tq:Bool:=false
 mts:List (Str×Nat×List Str×List (J8×Str×List Ar)):=[]
 tmts:List (Str×Nat×List Str×List (J8×Str×List Ar)):=[]
 bmts:List (Str×Nat×List Str×List (J8×Str×List Ar)):=[]
 byk:List (Str×Str):=[]
 bky:List (Str×Str):=[]
noncomputable def Cfg.key(C:Cfg)(x:Str):Str:=(C.ky.lookup x).getD x
noncomputable def Cfg.inT(C:Cfg):Cfg:={C with ky:=C.tky,rz:=true,tr:=false,mts:=C.tmts}
noncomputable def Cfg.inH(C:Cfg):Cfg:={C with fns:=C.hfn,mks:=[],shs:=[],mkk:=[],mkp:=[],eqs:=[],nes:=[],lns:=[],ows:=[],fvs:=[],exs:=[],ky:=[],rz:=false,xcl:=[],tr:=false,cm:=false,mts:=[],bmts:=[],byk:=[],bky:=[]}
noncomputable def slot:List Str->Str->Option Nat
 | [],_=>none
 | y::r,x=>if y=x then some 0 else(slot r x).map (· + 1)
theorem pF:∀{N:List Str} {x:Str} {i:Nat},slot N x=some i->N[i]? =some x
 | [],_,_,h=>by cases h
 | y::r,x,i,h=>by
   unfold slot at h;split at h
   . rename_i e;cases h;rw[e];rfl
   . cases e:slot r x with
     | none=>rw[e] at h;cases h
     | some j =>
       rw[e] at h;cases h;rw[List.getElem?_cons_succ];exact pF e
noncomputable def aEj(C:Cfg)(x:Str):Bool:=match C.names.lookup x with
 | some .local=>true
 | some .cell=>true
 | some .free=>true
 | _=>false
noncomputable def PD(C:Cfg)(x:Str):Bool:=match C.names.lookup x with
 | some .local=>true
 | some .cell=> !C.blk||C.own.contains x
 | _=>false
noncomputable def glB(C:Cfg)(x:Str):Bool:=C.names.lookup x==some .globalImplicit
noncomputable def ZB(x:Str):Bool:= !(x==("__debug__":Str))&&!(x==("__classdict__":Str))
noncomputable def dP:Expr->Bool
 | .Starred .. =>true
 | _=>false
noncomputable def AA:Expr->Bool
 | .Call (.Name x _) [] [] _=>x==("super":Str)
 | _=>false
noncomputable def uA:Expr->Bool
 | .Set .. =>true
 | _=>false
noncomputable def aCn:Expr->Bool
 | .Slice .. =>true
 | _=>false
noncomputable def wP:Expr->Bool
 | .ListComp .. | .SetComp .. | .DictComp .. =>true
 | _=>false
noncomputable def sH:List (Str×Bn):=[("len",.len),("abs",.abs),("max",.max),("min",.min),("int",.int),("str",.str),("isinstance",.isi),("tuple",.tuple),("list",.list),("all",.all),("any",.any),("sum",.sum),("bool",.bool),("repr",.repr),("divmod",.divmod)]
noncomputable def kwN:List Keyword->Option (List Str)
 | []=>some []
 | ⟨some n,_,_⟩::r=>(kwN r).map (n::·)
 | ⟨none,_,_⟩::_=>none
noncomputable def iP(C:Cfg)(sc:Scope):List (Str×NameKind):=sc.names.map λ(n,k)=>if (k==.free&&C.names.lookup n==some .cell) then(n,.cell) else(n,k)
noncomputable def kU(C:Cfg):List (Str×NameKind)->List (Str×Option Nat)
 | []=>[]
 | (n,k)::r=>match k with
   | .local=>(n,none)::kU C r
   | .cell=>(n,none)::kU C r
   | .free=>match slot C.N n with
     | some j=>if C.names.lookup n=some .cell then(n,some j)::kU C r else kU C r
     | none=>kU C r
   | _=>kU C r
noncomputable def vY(C:Cfg)(sc:Scope):Bool:=C.cm&&sc.kind==.function&&sc.names.all (λy=>(y.2 !=.cell||!sc.names.contains (y.1,.free))&&(y.2 !=.local||sc.names.lookup y.1==some .local)&&(y.2 !=.free||C.names.lookup y.1==some .cell))&&decide (((kU C sc.names).map (·.1)).Nodup)
 && (kU C sc.names).all (λp=>p.2.isNone||((iP C sc).lookup p.1==some .cell))
noncomputable def xB(C:Cfg)(sc:Scope):Cfg:={C with N:=(kU C sc.names).map (·.1),names:=iP C sc,blk:=true,own:=(sc.names.filter (λy=>y.2==.cell)).map (·.1),ky:=[],rz:=false,xcl:=[],tr:=false,mts:=C.bmts,byk:=C.bky}
structure Fk(P:J9)(w:World)(K:W.Frag)(mg:Str->Option Value)(base:Heap)(E:Ev)(T:Tb)(k:Nat)(f y:Str)(ad:Addr)(fd:Ja)(ps:List Str):Prop where
 ok:aW P w K mg base CX0 k ad fd ps (fV E (T.S y))
 mg:mg f=some (.ref ad)
 kp:W.keepIn K (.ref ad)=true
 db:(f==("__debug__":Str))=false
structure Mf(P:J9)(w:World)(K:W.Frag)(mg:Str->Option Value)(base:Heap)(E:Ev)(T:Tb)(k:Nat)(x:Str)(c:J8)(xi:Str)(ad:Addr)(fd:Ja)(ps:List Str):Prop where
 mkr:Mk K (E.cls c) ad
 ok:aW P w K mg base CX0 k ad fd ps (fV E (T.S xi))
 mg:mg x=some (.ref (E.cls c))
 ms:DJ T c x xi
 db:(x==("__debug__":Str))=false
noncomputable def up1:Ar->Ar
 | .arg i=>.arg (i+1)
 | a=>a
structure FkX(P:J9)(w:World)(K:W.Frag)(mg:Str->Option Value)(base:Heap)(E:Ev)(T:Tb)(k:Nat)(f y:Str)(ad:Addr)(fd:Ja)(ps:List Str):Prop where
 ok:∃S0 X0,aW P w K mg base (CXo P w) k ad fd ps (CZ E S0 X0)/\∀xs G Q,T.S y xs G Q->S0 xs G Q∨X0 xs G T.xp
 mg:mg f=some (.ref ad)
 kp:W.keepIn K (.ref ad)=true
 db:(f==("__debug__":Str))=false
structure MfX(P:J9)(w:World)(K:W.Frag)(mg:Str->Option Value)(base:Heap)(E:Ev)(T:Tb)(k:Nat)(x y:Str)(c:J8)(xi:Str)(ad:Addr)(fd:Ja)(ps:List Str):Prop where
 mkr:Mk K (E.cls c) ad
 ok:∃S0 X0,aW P w K mg base (CXo P w) k ad fd ps (CZ E S0 X0)/\∀xs G Q,T.S xi xs G Q->S0 xs G Q∨X0 xs G T.xp
 mg:mg x=some (.ref (E.cls c))
 ms:DJ T c y xi
 db:(x==("__debug__":Str))=false
noncomputable def aMy(P:J9)(w:World)(K:W.Frag)(mg:Str->Option Value)(base:Heap)(E:Ev)(T:Tb)(k:Nat)(x y:Str):Prop :=
 (∃c f fd ps Bn fld,XIn K mg (E.cls c) f Bn fld/\mg x=some (.ref (E.cls c))/\aW P w K mg base CX0 k f fd ps (spI (E.cls c) fld)/\L2.aP K fd ps []/\∀xs G Q,T.S y xs G Q->∃v,xs=[v]/\T.xp c [fld] [v] G)∨False
theorem ac{α:Type}{P:α->Prop}{x:α}{l:List α}(h:P x)(t:∀y∈l,P y):∀y∈x::l,P y:=List.forall_mem_cons.mpr ⟨h,t⟩
theorem an{α:Type}{P:α->Prop}:∀y∈([]:List α),P y:=λ_ h=>nomatch h
structure Gf(P:J9)(w:World)(K:W.Frag)(mg:Str->Option Value)(base:Heap)(E:Ev)(T:Tb)(k:Nat)(C:Cfg):Prop where
 fns:∀f∈C.fns,∃ad fd ps,Fk P w K mg base E T k f f ad fd ps/\L2.aP K fd ps []:=by walk_at "gg"
 mks:∀x∈C.mks,∃c xi ad fd ps,Mf P w K mg base E T k x c xi ad fd ps/\L2.aP K fd ps []:=by walk_at "gg"
 shs:∀s∈C.shs,∃ad fd ps,Fk P w K mg base E T k s.1 s.1 ad fd ps/\eL K fd ps s.2.1 s.2.2.1 s.2.2.2:=by walk_at "gg"
 mkk:∀s∈C.mkk,∃c xi ad fd ps,Mf P w K mg base E T k s.1 c xi ad fd ps/\eL K fd ps 1 s.2.1 (.arg 0::s.2.2.map up1):=by walk_at "gg"
 gls:∀x∈C.gls,∃u v,mg x=some u/\aN v u/\RP E (λ_=>none) (T.gv x) v:=by walk_at "gg"
 tys:∀x∈C.tys,mg x=none/\(∃n,bootBuiltins x=some (.type n)/\T.gv x= .ty n)/\x≠"__name__":=by walk_at "gg"
 blt:∀x∈C.blt,mg x=none:=by walk_at "gg"
 eqs:∀y∈C.eqs,∃ad fd,cR K (E.cls y.1) "__eq__" ad/\aW P w K mg base CX0 k ad fd ["self","other"] (fV E (T.S y.2))/\L2.aP K fd ["self","other"] []:=by walk_at "gg"
 nes:∀y∈C.nes,∃ad fd,NeC K (E.cls y.1)/\cR K (E.cls y.1) "__eq__" ad/\aW P w K mg base CX0 k ad fd ["self","other"] (fV E (T.S y.2))/\L2.aP K fd ["self","other"] []:=by walk_at "gg"
 lns:∀y∈C.lns,∃ad fd,NeC K (E.cls y.1)/\cR K (E.cls y.1) "__len__" ad/\aW P w K mg base CX0 k ad fd ["self"] (fV E (T.S y.2))/\L2.aP K fd ["self"] []:=by walk_at "gg"
 ows:∀y∈C.ows,∀b,sH.lookup y.1=some b->∀z∈y.2,∃ad fd k0 nm,k0+2<=k/\bwN b=some nm/\NeC K (E.cls z.1)/\cR K (E.cls z.1) nm ad/\aW P w K mg base CX0 k0 ad fd ["self"] (fV E (T.S z.2))/\L2.aP K fd ["self"] []:=by walk_at "gg"
 gds:∀y∈C.gds,∃a es n,mg y.1=some (.ref a)/\K.lookup a=some ⟨.type "dict",none,.dict es n,#[]⟩/\W.KeysLit w.params es.toList/\(a==sysModules)=false/\∀z,findBy Value.isStrOf es z=(y.2.lookup z).map λf=>.ref (E.fna f):=by walk_at "gg"
 fvs:∀y∈C.fvs,∃fd ps,aW P w K mg base CX0 k (E.fna y.1) fd ps (fV E (T.S y.1))/\W.keepIn K (.ref (E.fna y.1))=true/\eL K fd ps y.2.1 [] y.2.2:=by walk_at "gg"
 mkp:∀s∈C.mkp,∃c xi ad fd ps,Mf P w K mg base E T k s.1 c xi ad fd ps/\eL K fd ps (s.2.1+1) s.2.2.1 (.arg 0::s.2.2.2.map up1):=by walk_at "gg"
 exs:∀y∈C.exs,∃ad fd,NeC K (E.cls y.1)/\cR K (E.cls y.1) "__eq__" ad/\aW P w K mg base CX0 k ad fd ["self","other"] (fV E (T.S y.2))/\L2.aP K fd ["self","other"] []/\EqL K (E.cls y.1)/\∀d∈T.cs,d≠y.1->EqD K (E.cls y.1) (E.cls d):=by walk_at "gg"
 kr:∀y∈C.ky,C.rz=true:=by walk_at "gg"
 kf:∀y∈C.ky,(y.1∈C.fns->∃ad fd ps,FkX P w K mg base E T k y.1 y.2 ad fd ps/\L2.aP K fd ps [])/\(y.1∈C.mks->∃c xi ad fd ps,MfX P w K mg base E T k y.1 y.2 c xi ad fd ps/\L2.aP K fd ps []):=by walk_at "gg"
 ks:∀s∈C.shs,∀y∈C.ky,y.1=s.1->∃ad fd ps,FkX P w K mg base E T k s.1 y.2 ad fd ps/\eL K fd ps s.2.1 s.2.2.1 s.2.2.2:=by walk_at "gg"
 km:∀s∈C.mkk,∀y∈C.ky,y.1=s.1->∃c xi ad fd ps,MfX P w K mg base E T k s.1 y.2 c xi ad fd ps/\eL K fd ps 1 s.2.1 (.arg 0::s.2.2.map up1):=by walk_at "gg"
 kp:∀s∈C.mkp,∀y∈C.ky,y.1=s.1->∃c xi ad fd ps,MfX P w K mg base E T k s.1 y.2 c xi ad fd ps/\eL K fd ps (s.2.1+1) s.2.2.1 (.arg 0::s.2.2.2.map up1):=by walk_at "gg"
 xc:∀y∈C.xcl,aMy P w K mg base E T k y.1 y.2:=by walk_at "gg"
 mts:∀s∈C.mts,∀y∈s.2.2.2,∃ad fd ps,Cls K (E.cls y.1)/\cR K (E.cls y.1) s.1 ad/\eL K fd ps (s.2.1+1) s.2.2.1 (.arg 0::y.2.2.map upA)/\
   (aW P w K mg base CX0 k ad fd ps (fV E (T.S y.2.1))∨(C.rz=true/\∃S0 X0,aW P w K mg base (CXo P w) k ad fd ps (CZ E S0 X0)/\∀xs G Q,T.S y.2.1 xs G Q->S0 xs G Q∨X0 xs G T.xp)):=by walk_at "gg"
 bmts:∀s∈C.bmts,∀y∈s.2.2.2,∃ad fd ps,Cls K (E.cls y.1)/\cR K (E.cls y.1) s.1 ad/\eL K fd ps (s.2.1+1) s.2.2.1 (.arg 0::y.2.2.map upA)/\aW P w K mg base CX0 k ad fd ps (fV E (T.S y.2.1)):=by walk_at "gg"
 byk:∀y∈C.byk,∃ad fd ps,Fk P w K mg base E T k y.1 y.2 ad fd ps/\L2.aP K fd ps []:=by walk_at "gg"
 bky:∀y∈C.bky,∃ad fd ps,Fk P w K mg base E T k y.1 y.2 ad fd ps/\L2.aP K fd ps []:=by walk_at "gg"
def aKm(K:W.Frag)(mg:Str->Option Value)(E:Ev)(cat:List J8)(ns:List Str):Prop:= ∃cs:List Addr,(∀p∈ns.zip cs,mg p.1=some (.ref p.2))/\ns.length=cs.length/\(∀c∈cs,LX.aH6 K c=true/\W.typeIn K (.ref c)=some (.type "type"))/\W.subIn K (.type "type") (.type "tuple")=some false/\∀c∈cat,LX.aCS K (E.cls c) cs=some true
structure Tf(P:J9)(w:World)(K:W.Frag)(mg:Str->Option Value)(base:Heap)(E:Ev)(T:Tb)(k:Nat)(C:Cfg):Prop where
 tr:C.tr=true->∀x f z,Gf P w K mg base (E.at f z) (T.at x) k C.inT
 ca:C.tr=true->aKm K mg E C.cat C.cln
 hh:C.tr=true->C.hs=true->∃kh,kh+1<40/\kh<=k/\Gf P w K mg base E T kh C.inH
structure Kn(X:Cx)(E:Ev)(T:Tb)(k:Nat)(C:Cfg):Prop where
 pl:Pl X E T (k+1)
 N:X.N=C.N
 nd:C.N.Nodup
 nm:X.env.scope.names=C.names
 kd:X.env.scope.kind= .function
 fn:∀x,(C.blk=false∨x∈C.own)->X.fn x=true
 ce:∀x,C.names.lookup x=some .cell->∃c,X.env.cells.lookup x=some c
 ps:PassesOwn (model X.prog X.w) X.A X.env X.xe
 gf:Gf X.prog X.w X.K X.mg X.base E T k C
 ow:(C.rz=true∨C.tr=true)->Own X
 xk:C.rz=true->∃EX,(∀e s',xeO X EX e s'->X.xe e s')/\KX E E.f0 E.z0 T.xp EX
 xi:aK0 X E T
 cm:C.cm=true->40<=k
 gu:C.rp=true->X.A.guards=some []
 tf:Tf X.prog X.w X.K X.mg X.base E T k C
theorem MW:∀y∈sH,bootBuiltins y.1=some (aAk y.2)/\y.1≠"__name__"/\(y.1==("__debug__":Str))=false:=by
 intro y hy;simp only[sH,List.mem_cons,List.not_mem_nil,or_false] at hy;rcases hy with rfl|rfl|rfl|rfl|rfl|rfl|rfl|rfl|rfl|rfl|rfl|rfl|rfl|rfl|rfl<;>exact⟨by first|exact PySem.boot_len|(with_unfolding_all rfl),by decide,by decide⟩
theorem aU{α β:Type}[BEq α][LawfulBEq α]:∀{l:List (α×β)} {x:α} {b:β},l.lookup x=some b->(x,b)∈l
 | [],_,_,h=>by cases h
 | (y,c)::r,x,b,h=>by
   rw[List.lookup_cons] at h;cases e:x==y with
   | true=>rw[e] at h;cases h;rw[beq_iff_eq.mp e];exact wDq ..
   | false=>rw[e] at h;exact wCq _ (aU h)
section
variable{X:Cx}{E:Ev}{T:Tb}{k:Nat}{C:Cfg}
theorem Kn.vis(K:Kn X E T k C)(h:aEj C x=true):Vis X.env.scope x:=by
 unfold aEj at h;unfold Vis;rw[K.nm];split at h
 . rename_i e;exact .inl e
 . rename_i e;exact .inr (.inl e)
 . rename_i e;exact .inr (.inr e)
 . cases h
theorem Kn.loc(K:Kn X E T k C)(h:PD C x=true):L2.Loc X.env.scope x/\(X.fn x=true∨X.env.scope.names.lookup x=some .local):=by
 unfold PD at h;unfold L2.Loc;rw[K.nm];split at h
 . rename_i e;exact⟨.inl e,.inr e⟩
 . rename_i e;exact⟨.inr e,.inl (K.fn x (by
     rw[Bool.or_eq_true] at h;exact h.imp (λz=>by simpa using z) λz=>List.contains_iff_mem.mp z))⟩
 . cases h
theorem Kn.gl(K:Kn X E T k C)(h:glB C x=true):Gl X x:=by
 unfold glB at h;unfold Gl Env.kindOf;rw[K.nm];exact beq_iff_eq.mp h
theorem rE(h:C.ky.lookup x=none):C.key x=x:=by unfold Cfg.key;rw[h];rfl
theorem oP(h:C.ky.lookup x=some y):C.key x=y:=by unfold Cfg.key;rw[h];rfl
theorem Kn.co(K:Kn X E T k C)(hz:C.rz=true){y:Str}{ad:Addr}{fd:Ja}{ps:List Str}{j:Nat}(F:∃S0 X0,aW X.prog X.w X.K X.mg X.base (CXo X.prog X.w) j ad fd ps (CZ E S0 X0)/\∀xs G Q,T.S y xs G Q->S0 xs G Q∨X0 xs G T.xp):Co X E (T.S y) j ad fd ps:=by
 obtain⟨S0,X0,F,h⟩:=F;obtain⟨EX,hx,kx⟩:=K.xk hz;exact Co.ofX F h hx kx
theorem bH(h:dP e=false):starEach (e::es) env=(false,eval e env)::starEach es env:=by
 cases e<;>first|rfl|(cases h)
theorem FJ(h:dP e=false):assignEach (e::es) env=(false,assign e env)::assignEach es env:=by
 cases e<;>first|rfl|(cases h)
theorem dC(h:AA o=false):attributeBase o f env w=w:=by
 unfold attributeBase;split
 . rename_i x _ _;have h:(x==("super":Str))=false:=h;rw[jd];rw[show(x !=(Str.ofString "super"))=true by show(!(x==("super":Str)))=true;rw[h];rfl];rfl
 . rfl
theorem gB(h:uA b=false):behindInMarks op b=false:=by
 cases b<;>first|rfl|(cases h)
theorem sC(h:uA e=false):∀x,foldedSetIterable e env x=pure x:=by
 intro x;cases e<;>first|rfl|(cases h)
theorem GI(h:aCn e=false):BA e:=by
 intro o i;cases e<;>first|rfl|(cases h)
theorem vU(K:Kn X E T k C)(sc:Scope):(relabel sc X.env).names=iP C sc:=by
 unfold relabel iP Env.kindOf;rw[K.nm,K.kd];simp
theorem GC(K:Kn X E T k C):∀{l:List (Str×Option Nat)},(∀p∈l,∀j,p.2=some j->X.N[j]? =some p.1/\X.env.kindOf p.1=some .cell/\(relabel sc X.env).names.lookup p.1=some .cell/\∃c,cl.lookup p.1=some c/\X.env.cells.lookup p.1=some c)->gR X sc cl (l.map (·.1)) (l.map (·.2))
 | [],_=>trivial
 | (n,none)::r,h=>by
   show gR X sc cl (r.map (·.1)) (r.map (·.2));exact GC K λp hp=>h p (wCq _ hp)
 | (n,some j)::r,h=>⟨h _ (wDq ..) j rfl,GC K λp hp=>h p (wCq _ hp)⟩
theorem gK:∀{l:List (Str×NameKind)} {p:Str×Option Nat} {j:Nat},p∈kU C l->p.2=some j->(p.1,NameKind.free)∈l/\slot C.N p.1=some j/\C.names.lookup p.1=some .cell
 | [],_,_,h,_=>by cases h
 | (n,kk)::r,p,j,h,e=>by
   unfold kU at h;split at h
   . rcases List.mem_cons.mp h with z|z
     . subst z;cases e
     . obtain⟨a,b⟩:=gK z e;exact⟨wCq _ a,b⟩
   . rcases List.mem_cons.mp h with z|z
     . subst z;cases e
     . obtain⟨a,b⟩:=gK z e;exact⟨wCq _ a,b⟩
   . split at h
     . rename_i j' hs;split at h
       . rename_i hc;rcases List.mem_cons.mp h with z|z
         . subst z;cases e;exact⟨wDq ..,hs,hc⟩
         . obtain⟨a,b⟩:=gK z e;exact⟨wCq _ a,b⟩
       . obtain⟨a,b⟩:=gK h e;exact⟨wCq _ a,b⟩
     . obtain⟨a,b⟩:=gK h e;exact⟨wCq _ a,b⟩
   . obtain⟨a,b⟩:=gK h e;exact⟨wCq _ a,b⟩
theorem KG:∀{l:List (Str×NameKind)} {acc:List (Str×Addr)} {n:Str} {c:Addr},(n,c)∈clos cells l acc->(n,c)∈acc∨(n,NameKind.free)∈l
 | [],_,_,_,h=>.inl h
 | (m,k)::r,acc,n,c,h=>by
   unfold clos at h;rcases KG h with z|z
   . split at z
     . rename_i hk;rcases List.mem_cons.mp z with e|z
       . cases e;subst hk;exact .inr (wDq ..)
       . exact .inl z
     . exact .inl z
   . exact .inr (wCq _ z)
theorem TD(h:vY C sc=true):C.cm=true:=by
 unfold vY at h;simp only[Bool.and_eq_true] at h;exact h.1.1.1.1
theorem Kn.block(K:Kn X E T k C)(h:vY C sc=true):∃cl,jO X ((kU C sc.names).map (·.1)) sc cl ((kU C sc.names).map (·.2))/\∀C0 s₀ H₀ ex,Kn (cxC X ((kU C sc.names).map (·.1)) sc cl C0 s₀ H₀ ex) E T k (xB C sc):=by
 unfold vY at h;simp only[Bool.and_eq_true,List.all_eq_true,decide_eq_true_eq] at h;obtain⟨⟨⟨⟨_,hk⟩,hn⟩,hd⟩,hc⟩:=h;have hk:sc.kind= .function:=beq_iff_eq.mp hk;have fr:∀y∈sc.names,y.2= .free->C.names.lookup y.1=some .cell:=λy hy e=>by
   have:=(hn y hy).2;rw[e] at this;simpa using this
 have ncell:∀x,(x,NameKind.cell)∈sc.names->(x,NameKind.free)∉sc.names:=λx hx hf=>by
   have:=(hn _ hx).1.1;simp[hf] at this
 have hf:∀y∈sc.names,y.2= .free->∃c,X.env.cells.lookup y.1=some c:=λy hy e=>K.ce y.1 (fr y hy e);have hcl:xS X.env.cells (clos X.env.cells sc.names []):=LD hf trivial;have look:∀n,(n,NameKind.free)∈sc.names->∃c,(clos X.env.cells sc.names []).lookup n=some c/\X.env.cells.lookup n=some c:=λn hn=>AM hcl (uV (.inr hn));refine⟨clos X.env.cells sc.names [],⟨aAE hf,(λx hx=>by
   cases e:(clos X.env.cells sc.names []).lookup x with
   | none=>rfl
   | some c =>
     rcases KG (aU e) with z|z
     . cases z
     . exact absurd z (ncell x hx)),hk,λy hy e=>?_,LK hcl λn hn=>uV (.inr hn),hcl,GC K λp hp j e=>?_⟩,λC0 s₀ H₀ ex=>⟨⟨K.pl.hK,K.pl.calm,K.pl.room,K.pl.cls,K.pl.fld⟩,rfl,hd,vU K sc,hk,(λx z=>by
   rcases z with z|z
   . cases z
   . obtain⟨y,hy,e⟩:=List.mem_map.mp z;obtain⟨h1,h2⟩:=List.mem_filter.mp hy;subst e;refine List.contains_iff_mem.mpr ?_;rw[show(y.1,NameKind.cell)=y from by rw[<-beq_iff_eq.mp h2]];exact h1),λx hx=>?_,PassesOwn.never,⟨K.gf.fns,K.gf.mks,K.gf.shs,K.gf.mkk,K.gf.gls,K.gf.tys,K.gf.blt,K.gf.eqs,K.gf.nes,K.gf.lns,K.gf.ows,K.gf.gds,K.gf.fvs,K.gf.mkp,K.gf.exs,(λ_ h=>nomatch h),(λ_ h=>nomatch h),(λ_ _ _ h=>nomatch h),(λ_ _ _ h=>nomatch h),(λ_ _ _ h=>nomatch h),(λ_ h=>nomatch h),(λs hs y hy=>let ⟨ad,fd,ps,a,b,c,d⟩:=K.gf.bmts s hs y hy;⟨ad,fd,ps,a,b,c,.inl d⟩),K.gf.bmts,K.gf.bky,K.gf.bky⟩,(λh=>by rcases h with h|h<;>cases h),(λh=>by cases h),⟨K.xi.xi,K.xi.fx⟩,K.cm,K.gu,⟨(λh=>by cases h),(λh=>by cases h),(λh=>by cases h)⟩⟩⟩
 . have:=(hn y hy).1.2;rw[e] at this;simpa using this
 . obtain⟨hm,hs,hcell⟩:=gK hp e;refine⟨by rw[K.N];exact pF hs,by unfold Env.kindOf;rw[K.nm];exact hcell,?_,look _ hm⟩;rw[vU K sc];have:=hc p hp;rw[e] at this;simpa using this
 . have hx:(iP C sc).lookup x=some .cell:=hx;have hm:=aU hx;unfold iP at hm;obtain⟨⟨n,kk⟩,hy,e⟩:=List.mem_map.mp hm;have e':(if (kk==NameKind.free&&C.names.lookup n==some NameKind.cell)=true then(n,NameKind.cell) else(n,kk))=(x,NameKind.cell):=e;split at e'
   . rename_i hcond;cases e';have:kk= .free:=by
       rw[Bool.and_eq_true] at hcond;exact beq_iff_eq.mp hcond.1
     subst this;obtain⟨c,h1,_⟩:=look x hy;exact⟨c,sJ (λz=>ncell x z hy) h1⟩
   . cases e';obtain⟨c,h1,_⟩:=yV (n:=C0+1) (cl:=clos X.env.cells sc.names []) hy;exact⟨c,h1⟩
theorem jE:∀{kws:List Keyword} {ks:List Str},kwN kws=some ks->(backToKw pos (keywordEach kws env)).all (·.1.isSome)=true/\(backToKw pos (keywordEach kws env)).filterMap (·.1)=ks/\(backToKw pos (keywordEach kws env)).any (·.1.isNone)=false/\kws.length=ks.length
 | [],ks,h=>by cases h;exact⟨rfl,rfl,rfl,rfl⟩
 | ⟨some n,v,p⟩::r,ks,h=>by
   unfold kwN at h;cases e:kwN r with
   | none=>rw[e] at h;cases h
   | some l =>
     rw[e] at h;cases h;obtain⟨a,b,c,d⟩:=jE (pos:=pos) (env:=env) e;refine⟨?_,?_,?_,by rw[List.length_cons,List.length_cons,d]⟩
     . show(true&&(backToKw pos (keywordEach r env)).all (·.1.isSome))=true;rw[a];rfl
     . show n::(backToKw pos (keywordEach r env)).filterMap (·.1)=n::l;rw[b]
     . show(false||(backToKw pos (keywordEach r env)).any (·.1.isNone))=false;rw[c];rfl
 | ⟨none,v,p⟩::r,ks,h=>by cases h
end
noncomputable abbrev Rk(C:Cfg)(J:Cx->Ev->Tb->CE->Prop):={c:CE // ∀{X E T k},Kn X E T k C->J X E T c}
noncomputable abbrev RE(C:Cfg)(e:Expr):=Rk C λX E T c=>JE X E e (wpE T c)
noncomputable abbrev RT(C:Cfg)(e:Expr):=Rk C λX E T c=>JT X E e (wpT T c)
noncomputable abbrev RL(C:Cfg)(es:List Expr):={a:Rk C λX E T c=>JA X E es (wpL T c) // ∀e∈es,dP e=false}
noncomputable abbrev RJ(C:Cfg)(es:List Expr):=Rk C λX E T c=>JJ X E es (wpJ T c)
noncomputable abbrev RK(C:Cfg)(ks:List Keyword):=Rk C λX E T c=>JK X E ks (wpL T c)
noncomputable abbrev RB(C:Cfg)(op:BoolOp)(vs:List Expr):=Rk C λX E T c=>∀pos,JE X E (.BoolOp op vs pos) (wpE T c)
noncomputable abbrev RWb(C:Cfg)(op:BoolOp)(vs:List Expr):=Rk C λX E T c=>∀pos,JW X E (.BoolOp op vs pos) (wpT T c)
noncomputable abbrev ROp(C:Cfg)(o:Option Expr):=Rk C λX E T c=>JO X E o (wpO T c)
noncomputable abbrev RTs(C:Cfg)(l:List Expr):=Rk C λX E T c=>YI X E l (wpT T c)
noncomputable abbrev RG(C:Cfg)(e:Expr):=Rk C λX E T c=>JG X E e (wpG T c)
noncomputable abbrev RGs(C:Cfg)(es:List Expr):={a:Rk C λX E T c=>JGs X E es (dM T c) // ∀e∈es,dP e=false}
noncomputable abbrev RI(C:Cfg)(tg e:Expr):=Rk C λX E T c=>JI X E tg e (wpI T c)
structure Tr where
 e:∀(C:Cfg) (m:Bool) (e:Expr),Option (RE C e)
 t:∀(C:Cfg) (e:Expr),Option (RT C e)
 l:∀(C:Cfg) (es:List Expr),Option (RL C es)
 j:∀(C:Cfg) (es:List Expr),Option (RJ C es)
 kk:∀(C:Cfg) (ks:List Keyword),Option (RK C ks)
 b:∀(C:Cfg) (op:BoolOp) (vs:List Expr),Option (RB C op vs)
 w:∀(C:Cfg) (op:BoolOp) (vs:List Expr),Option (RWb C op vs)
 g:∀(C:Cfg) (e:Expr),Option (RG C e)
 gs:∀(C:Cfg) (es:List Expr),Option (RGs C es)
 i:∀(C:Cfg) (tg e:Expr),Option (RI C tg e)
noncomputable def wth{α:Type}:(o:Option α)->Option {a // o=some a}
 | some a=>some ⟨a,rfl⟩
 | none=>none
noncomputable def ob1{α β:Type}(a:Option α)(f:α->β):Option β:=a.bind λx=>some (f x)
noncomputable def ob2{α β γ:Type}(a:Option α)(b:Option β)(f:α->β->γ):Option γ:=a.bind λx=>b.bind λy=>some (f x y)
noncomputable def ob3{α β γ δ:Type}(a:Option α)(b:Option β)(c:Option γ)(f:α->β->γ->δ):Option δ:=a.bind λx=>ob2 b c (f x)
noncomputable def ob4{α β γ δ ε:Type}(a:Option α)(b:Option β)(c:Option γ)(d:Option δ)(f:α->β->γ->δ->ε):Option ε:=a.bind λx=>ob3 b c d (f x)
noncomputable def orE{α:Type}:Option α->Option α->Option α
 | some a,_=>some a
 | none,b=>b
noncomputable def gd{α:Type}(b:Bool)(f:b=true->Option α):Option α:=if h:b=true then f h else none
section
variable{X:Cx}{E:Ev}{T:Tb}{k:Nat}{C:Cfg}
theorem gH:∀{es:List Expr},(∀e∈es,dP e=false)->(backTo pos (starEach es env)).any (·.1)=false
 | [],_=>rfl
 | e::r,h=>by
   rw[bH (h e (wDq ..))];show(false||(backTo pos (starEach r env)).any (·.1))=false;rw[gH λx hx=>h x (wCq _ hx)];rfl
theorem pR:∀{es:List Expr},(∀e∈es,dP e=false)->(assignEach es env).length=es.length/\(assignEach es env).findIdx? (·.1)=none
 | [],_=>⟨rfl,rfl⟩
 | e::r,h=>by
   obtain⟨a,b⟩:=pR (env:=env) (es:=r) λx hx=>h x (wCq _ hx);rw[FJ (h e (wDq ..))];refine⟨by rw[List.length_cons,List.length_cons,a],?_⟩;rw[List.findIdx?_cons];simp only[b];rfl
theorem aD3(h:(!uA c)=true):lastMarks [op,op'] [b,c]=false:=by
 show lastMarks [op'] [c]=false;exact gB (Bool.not_eq_true' _▸h)
theorem bnf(h:(!b)=true):b=false:=by cases b<;>first|rfl|cases h
theorem ba2(h:(a&&b)=true):a=true/\b=true:=Bool.and_eq_true_iff.mp h
theorem KH{α:Type}{l:List α}{p:α->Bool}{s:α}(h:l.find? p=some s):s∈l/\p s=true:=⟨List.mem_of_find?_eq_some h,List.find?_some h⟩
theorem pC(h:ZB x=true):(x==("__debug__":Str))=false/\(x==("__classdict__":Str))=false:=⟨bnf (ba2 h).1,bnf (ba2 h).2⟩
theorem Kn.sl(K:Kn X E T k C)(h:slot C.N x=some i):X.N[i]? =some x:=by rw[K.N];exact pF h
theorem Kn.ndX(K:Kn X E T k C):X.N.Nodup:=by rw[K.N];exact K.nd
theorem Kn.bl(K:Kn X E T k C)(h:C.blt.contains x=true):X.mg x=none:=K.gf.blt _ (List.contains_iff_mem.mp h)
theorem Kn.rm(K:Kn X E T k C):aR k X.A:=K.pl.room.mono (Nat.le_succ _)
theorem Kn.k40(K:Kn X E T k C)(h:C.cm=true):40<=k+1:=Nat.le_succ_of_le (K.cm h)
theorem nE(h:∀y∈e::r,dP y=false):starEach (e::r) env=(false,eval e env)::starEach r env:=bH (h e (wDq ..))
theorem sZ(h:∀y∈e::r,dP y=false):(backTo pos (starEach r env)).any (·.1)=false:=gH λy hy=>h y (wCq _ hy)
noncomputable def shP{β:Type}(x:Str)(n:Nat)(ks:List Str)(s:Str×Nat×List Str×β):Bool:=s.1==x&&(s.2.1==n&&s.2.2.1==ks)
theorem BE{β:Type}{x:Str}{l:List (Str×Nat×List Str×β)}{s:Str×Nat×List Str×β}(h:l.find? (shP x n ks)=some s):∃y,s=(x,n,ks,y)/\(x,n,ks,y)∈l:=by
 obtain⟨m,h⟩:=KH h;obtain⟨a,b,c,d⟩:=s;obtain⟨h1,h⟩:=ba2 h;obtain⟨h2,h3⟩:=ba2 h;cases beq_iff_eq.mp h1;cases beq_iff_eq.mp h2;cases beq_iff_eq.mp h3;exact⟨d,rfl,m⟩
theorem Kn.sh(K:Kn X E T k C){s:Str×Nat×List Str×List Ar}(hm:s∈C.shs):∃ad fd ps,Co X E (T.S (C.key s.1)) k ad fd ps/\X.mg s.1=some (.ref ad)/\W.keepIn X.K (.ref ad)=true/\(s.1==("__debug__":Str))=false/\eL X.K fd ps s.2.1 s.2.2.1 s.2.2.2:=by
 cases hy:C.ky.lookup s.1 with
 | none =>
   rw[rE hy];obtain⟨ad,fd,ps,F,hb⟩:=K.gf.shs s hm;exact⟨ad,fd,ps,.of F.ok,F.mg,F.kp,F.db,hb⟩
 | some y =>
   rw[oP hy];obtain⟨ad,fd,ps,F,hb⟩:=K.gf.ks s hm _ (aU hy) rfl;exact⟨ad,fd,ps,K.co (K.gf.kr _ (aU hy)) F.ok,F.mg,F.kp,F.db,hb⟩
theorem Kn.mkx(K:Kn X E T k C)(hm:s∈C.mkk):∃c xi ad fd ps,Mk X.K (E.cls c) ad/\Co X E (T.S xi) k ad fd ps/\X.mg s.1=some (.ref (E.cls c))/\DJ T c (C.key s.1) xi/\(s.1==("__debug__":Str))=false/\eL X.K fd ps 1 s.2.1 (.arg 0::s.2.2.map up1):=by
 cases hy:C.ky.lookup s.1 with
 | none =>
   rw[rE hy];obtain⟨c,xi,ad,fd,ps,F,hb⟩:=K.gf.mkk s hm;exact⟨c,xi,ad,fd,ps,F.mkr,.of F.ok,F.mg,F.ms,F.db,hb⟩
 | some y =>
   rw[oP hy];obtain⟨c,xi,ad,fd,ps,F,hb⟩:=K.gf.km s hm _ (aU hy) rfl;exact⟨c,xi,ad,fd,ps,F.mkr,K.co (K.gf.kr _ (aU hy)) F.ok,F.mg,F.ms,F.db,hb⟩
theorem Kn.mp(K:Kn X E T k C)(hm:s∈C.mkp):∃c xi ad fd ps,Mk X.K (E.cls c) ad/\Co X E (T.S xi) k ad fd ps/\X.mg s.1=some (.ref (E.cls c))/\DJ T c (C.key s.1) xi/\(s.1==("__debug__":Str))=false/\eL X.K fd ps (s.2.1+1) s.2.2.1 (.arg 0::s.2.2.2.map up1):=by
 cases hy:C.ky.lookup s.1 with
 | none =>
   rw[rE hy];obtain⟨c,xi,ad,fd,ps,F,hb⟩:=K.gf.mkp s hm;exact⟨c,xi,ad,fd,ps,F.mkr,.of F.ok,F.mg,F.ms,F.db,hb⟩
 | some y =>
   rw[oP hy];obtain⟨c,xi,ad,fd,ps,F,hb⟩:=K.gf.kp s hm _ (aU hy) rfl;exact⟨c,xi,ad,fd,ps,F.mkr,K.co (K.gf.kr _ (aU hy)) F.ok,F.mg,F.ms,F.db,hb⟩
theorem aIy(K:Kn X E T k C)(hg:glB C x=true)(hc:(C.fns.contains x||C.mks.contains x)=true)(a:RL C (e::r)):JE X E (.Call (.Name x p) (e::r) [] pos) (wpE T (.cal (C.key x) a.1.1)):=by
 rw[Bool.or_eq_true,List.contains_iff_mem,List.contains_iff_mem] at hc;cases hy:C.ky.lookup x with
 | none =>
   rw[rE hy];rcases hc with hc|hc
   . obtain⟨ad,fd,ps,F,hb⟩:=K.gf.fns x hc;exact UK (.of F.ok) K.rm (K.gl hg) F.mg F.kp hb F.db (a.1.2 K) (nE a.2) (sZ a.2)
   . obtain⟨c,xi,ad,fd,ps,F,hb⟩:=K.gf.mks x hc;exact XJ F.mkr (.of F.ok) K.pl.room (K.gl hg) F.mg hb F.ms F.db (a.1.2 K) (nE a.2) (sZ a.2)
 | some y =>
   rw[oP hy];have hz:=K.gf.kr _ (aU hy);obtain⟨f1,f2⟩:=K.gf.kf _ (aU hy);rcases hc with hc|hc
   . obtain⟨ad,fd,ps,F,hb⟩:=f1 hc;exact UK (K.co hz F.ok) K.rm (K.gl hg) F.mg F.kp hb F.db (a.1.2 K) (nE a.2) (sZ a.2)
   . obtain⟨c,xi,ad,fd,ps,F,hb⟩:=f2 hc;exact XJ F.mkr (K.co hz F.ok) K.pl.room (K.gl hg) F.mg hb F.ms F.db (a.1.2 K) (nE a.2) (sZ a.2)
theorem aDg(K:Kn X E T k C)(hg:glB C x=true)(hk:kwN kws=some ks)(hf:C.shs.find? (shP x (e::r).length ks)=some s)(a:RL C (e::r))(b:RK C kws) :
   JE X E (.Call (.Name x p) (e::r) kws pos) (wpE T (.cak (C.key x) a.1.1 b.1 s.2.2.2)):=by
 obtain⟨y,rfl,hm⟩:=BE hf;obtain⟨k1,k2,k3,k4⟩:=jE (pos:=pos) (env:=X.env) hk;obtain⟨ad,fd,ps,F,mg,kp,db,hb⟩:=K.sh hm;exact aHQ F K.rm (K.gl hg) mg kp hb db (a.1.2 K) (b.2 K) rfl k4 k1 k2 (nE a.2) (by rw[gH a.2,k3];rfl)
theorem aFk(K:Kn X E T k C)(hg:glB C x=true)(hk:kwN kws=some ks)(hf:C.shs.find? (shP x 0 ks)=some s)(b:RK C kws) :
   JE X E (.Call (.Name x p) [] kws pos) (wpE T (.cak (C.key x) .nil b.1 s.2.2.2)):=by
 obtain⟨y,rfl,hm⟩:=BE hf;obtain⟨k1,k2,k3,k4⟩:=jE (pos:=pos) (env:=X.env) hk;obtain⟨ad,fd,ps,F,mg,kp,db,hb⟩:=K.sh hm;exact aAJ F K.rm (K.gl hg) mg kp hb db (b.2 K) k4 k1 k2 (by rw[k3];rfl)
theorem aFf(K:Kn X E T k C)(hg:glB C x=true)(hk:kwN kws=some ks)(hf:C.mkk.find? (λs=>s.1==x&&s.2.1==ks)=some s)(b:RK C kws) :
   JE X E (.Call (.Name x p) [] kws pos) (wpE T (.cak (C.key x) .nil b.1 s.2.2)):=by
 obtain⟨hm,hp⟩:=KH hf;obtain⟨s,t,u⟩:=s;cases beq_iff_eq.mp (ba2 hp).1;cases beq_iff_eq.mp (ba2 hp).2;obtain⟨k1,k2,k3,k4⟩:=jE (pos:=pos) (env:=X.env) hk;obtain⟨c,xi,ad,fd,ps,M,F,mg,ms,db,hb⟩:=K.mkx hm;exact aCe M F K.pl.room (K.gl hg) mg hb ms db (b.2 K) k4 k1 k2 (by rw[k3];rfl)
theorem aFD(K:Kn X E T k C)(hg:glB C x=true)(hk:kwN kws=some ks)(hf:C.mkp.find? (shP x (e::r).length ks)=some s)(a:RL C (e::r))(b:RK C kws) :
   JE X E (.Call (.Name x p) (e::r) kws pos) (wpE T (.cak (C.key x) a.1.1 b.1 s.2.2.2)):=by
 obtain⟨y,rfl,hm⟩:=BE hf;obtain⟨k1,k2,k3,k4⟩:=jE (pos:=pos) (env:=X.env) hk;obtain⟨c,xi,ad,fd,ps,M,F,mg,ms,db,hb⟩:=K.mp hm;exact aBQ M F K.pl.room (K.gl hg) mg hb ms db (a.1.2 K) (b.2 K) rfl k4 k1 k2 (nE a.2) (by rw[gH a.2,k3];rfl)
theorem VA(K:Kn X E T k C):∀y∈C.eqs,EqM X E T k y.1 y.2:=λy hy=>⟨K.gf.eqs y hy⟩
theorem aJz(K:Kn X E T k C):∀y∈C.lns,LnM X E T k y.1 y.2:=λy hy=>⟨K.gf.lns y hy⟩
theorem aKN(K:Kn X E T k C):∀y∈C.exs,NeX X E T k y.1 y.2:=λy hy=>by
 obtain⟨ad,fd,n,a,b,c,l,d⟩:=K.gf.exs y hy;exact⟨⟨⟨ad,fd,a,b,c⟩,l,d⟩,n⟩
theorem ZG(K:Kn X E T k C)(h:C.mts.find? (shP m n ks)=some s):∀y∈s.2.2.2,YR X E T k m n ks y:=by
 obtain⟨z,rfl,hm⟩:=BE h;intro y hy;obtain⟨ad,fd,ps,a,b,c,d⟩:=K.gf.mts _ hm y hy;refine⟨ad,fd,ps,a,b,?_,c⟩;rcases d with d|⟨hz,d⟩
 . exact .of d
 . exact K.co hz d
variable(S:Tr)
noncomputable def aHU(C:Cfg)(x:Str)(p:Pos):Option (RE C (.Name x p)):=gd (ZB x) λhp=>match wth (slot C.N x) with
 | some i=>gd (aEj C x) λhv=>some ⟨.var i.1,λK=>aGO (K.sl i.2) (K.vis hv) (pC hp).1 (pC hp).2⟩
 | none=>gd (glB C x) λhg=>(gd (C.gls.contains x) λh=>some ⟨.glo x,λK=>by
     obtain⟨u,v,h1,h2,h3⟩:=K.gf.gls _ (List.contains_iff_mem.mp h);exact aFG (K.gl hg) h1 h2 h3 (pC hp).1⟩).or (gd (C.tys.contains x) λh=>some ⟨.glo x,λK=>by
     obtain⟨h1,⟨nn,h2,h3⟩,h4⟩:=K.gf.tys _ (List.contains_iff_mem.mp h);exact aIv (K.gl hg) h1 h2 h3 h4 (pC hp).1⟩)
noncomputable def aJx(C:Cfg)(v:Const)(j:Nat)(p:Pos):Option (RE C (.Constant v j p)):=match v with
 | .int i=>some ⟨.int i,λ_=>aGP⟩
 | .bool b=>some ⟨.bl b,λ_=>aIi⟩
 | .none=>some ⟨.non,λ_=>aEL⟩
 | .str s=>some ⟨.str s,λ_=>WA⟩
 | _=>none
noncomputable def aIg(C:Cfg)(a:Expr)(op:CmpOp)(b:Expr)(p:Pos):Option (RE C (.Compare a [op] [b] p)):=gd (!uA b) λhs =>
 orE (gd (!C.exs.isEmpty&&exB op) λh=>ob2 (S.e C false a) (S.e C false b) λa b=>⟨.cex op C.exs a.1 b.1,λK=>aHO K.pl (aKN K) (ba2 h).2 (gB (bnf hs)) (a.2 K) (b.2 K)⟩) <|
 orE (match op with
   | .Eq =>
     orE (gd C.tq λ_=>(wth C.eqs.head?).bind λy=>ob2 (S.e C false a) (S.e C false b) λa b=>⟨.teq y.1.1 y.1.2 a.1 b.1,λK=>aHA K.pl (VA K y.1 (List.mem_of_head? y.2)) (gB (bnf hs)) (a.2 K) (b.2 K)⟩) <|
     orE (gd (!C.eqs.isEmpty) λ_=>ob2 (S.e C false a) (S.e C false b) λa b=>⟨.ceq C.eqs a.1 b.1,λK=>aFO K.pl (VA K) (gB (bnf hs)) (a.2 K) (b.2 K)⟩) <|
     none
   | _=>none) <|
 ob2 (S.e C false a) (S.e C false b) λa b=>⟨.cmp op a.1 b.1,λK=>aEw K.pl (gB (bnf hs)) (a.2 K) (b.2 K)⟩
noncomputable def aKn(C:Cfg)(a:Expr)(ops:List CmpOp)(bs:List Expr)(p:Pos):Option (RE C (.Compare a ops bs p)):=match ops,bs with
 | [op],[b]=>aIg S C a op b p
 | [op,op'],[b,c]=>gd (!uA c) λhs=>ob3 (S.e C false a) (S.e C false b) (S.e C false c) λa b c=>⟨.chn op op' a.1 b.1 c.1,λK=>aGc K.pl (aD3 hs) (a.2 K) (b.2 K) (c.2 K)⟩
 | _,_=>none
noncomputable def aIZ(C:Cfg)(o:Option Expr):Option (ROp C o):=match o with
 | none=>some ⟨.nil,λ_=>aFb⟩
 | some e=>ob1 (S.e C false e) λe=>⟨.tst e.1,λK=>aAX (e.2 K)⟩
noncomputable def aH2(C:Cfg)(a s:Expr)(p:Pos):Option (RE C (.Subscript a s p)) :=
 match s with
 | .Slice lo hi none _=>ob3 (S.e C false a) (aIZ S C lo) (aIZ S C hi) λa l h=>⟨.sli a.1 l.1 h.1,λK=>aE3 K.pl (a.2 K) (l.2 K) (h.2 K)⟩
 | .Slice none none (some (.UnaryOp .USub (.Constant (.int 1) _ _) _)) _=>ob1 (S.e C false a) λa=>⟨.rev a.1,λK=>aHJ K.pl (a.2 K)⟩
 | s=>gd (!aCn s) λh=>ob2 (S.e C false a) (S.e C false s) λa i=>⟨.idx a.1 i.1,λK=>aFd K.pl (a.2 K) (i.2 K) (GI (bnf h))⟩
noncomputable def aLb(C:Cfg)(a:Expr)(f:Str)(p:Pos):Option (RE C (.Attribute a f p)):=gd (!AA a) λh=>ob1 (S.e C false a) λa =>
 ⟨.att a.1 f,λK=>aFC K.pl (a.2 K) (dC (bnf h))⟩
noncomputable def tZ(C:Cfg)(x:Str)(np:Pos)(e:Expr)(r:List Expr)(p:Pos):Option (RE C (.Call (.Name x np) (e::r) [] p)) :=
 gd (glB C x) λhg=>ob2 (wth (C.mkp.find? (shP x (e::r).length []))) (S.l C (e::r)) λs a=>⟨.cak (C.key x) a.1.1 .nil s.1.2.2.2,λK=>aFD K hg rfl s.2 a ⟨.nil,λ_=>JC⟩⟩
noncomputable def aHM(C:Cfg)(m:Bool)(x:Str)(np:Pos)(a:Expr)(p:Pos):Option (RE C (.Call (.Name x np) [a] [] p)) :=
 orE (gd (m&&(x==("list":Str)&&(glB C x&&(C.blt.contains x&&!dP a)))) λh=>ob1 (S.e C false a) λa=>⟨.lco a.1,λK=>by
   obtain⟨_,h⟩:=ba2 h;obtain⟨h1,h⟩:=ba2 h;obtain⟨g1,h⟩:=ba2 h;obtain⟨b1,st⟩:=ba2 h;cases beq_iff_eq.mp h1;exact aF2 K.pl (K.gl g1) (K.bl b1) (bH (bnf st)) (a.2 K)⟩) <|
 none
noncomputable def aLm(C:Cfg)(x:Str)(np:Pos)(e:Expr)(r:List Expr)(p:Pos)(hg:glB C x=true)(b:{b // sH.lookup x=some b}):Option (RE C (.Call (.Name x np) (e::r) [] p)) :=
 gd (C.blt.contains x&&(C.cm||!QM b.1)) λhc=>ob1 (S.l C (e::r)) λa =>
   have h40:C.cm=false->QM b.1=false:=λz=>bnf (by simpa [z] using (ba2 hc).2)
   match wth (C.ows.lookup x) with
   | some ls=>⟨.bow b.1 ls.1 a.1.1,λK=>by
     obtain⟨b1,b2,b3⟩:=MW _ (aU b.2);exact aFY K.pl (λz=>K.cm (by cases e:C.cm<;>first|rfl|(rw[h40 e] at z;cases z))) (λy hy=>⟨K.gf.ows _ (aU ls.2) b.1 b.2 y hy⟩) (K.gl hg) (K.bl (ba2 hc).1) b1 b2 b3 (a.1.2 K) (nE a.2) (sZ a.2)⟩
   | none =>
   ⟨.blt b.1 a.1.1,λK=>by
     obtain⟨b1,b2,b3⟩:=MW _ (aU b.2);exact aGY K.pl (λz=>K.k40 (by cases e:C.cm<;>first|rfl|(rw[h40 e] at z;cases z))) (K.gl hg) (K.bl (ba2 hc).1) b1 b2 b3 (a.1.2 K) (nE a.2) (sZ a.2)⟩
noncomputable def TM(C:Cfg)(m:Bool)(x:Str)(np:Pos)(es:List Expr)(kws:List Keyword)(p:Pos):Option (RE C (.Call (.Name x np) es kws p)):=match es,kws with
 | e::r,[] =>
   orE (tZ S C x np e r p) <|
   orE (match r with
     | []=>aHM S C m x np e p
     | _=>none) <|
   gd (glB C x) λhg=>match wth (sH.lookup x) with
     | some b=>aLm S C x np e r p hg b
     | none =>
       orE (ob2 (wth (C.shs.find? (shP x (e::r).length []))) (S.l C (e::r)) λs a=>(⟨.cak (C.key x) a.1.1 .nil s.1.2.2.2,λK=>aDg K hg rfl s.2 a ⟨.nil,λ_=>JC⟩⟩:RE C _)) <|
       gd (C.fns.contains x||C.mks.contains x) λhc=>ob1 (S.l C (e::r)) λa=>⟨.cal (C.key x) a.1.1,λK=>aIy K hg hc a⟩
 | e::r,kw::kws=>gd (glB C x) λhg=>(wth (kwN (kw::kws))).bind λks =>
   ob3 (wth (C.shs.find? (shP x (e::r).length ks.1))) (S.l C (e::r)) (S.kk C (kw::kws)) λs a b=>⟨.cak (C.key x) a.1.1 b.1 s.1.2.2.2,λK=>aDg K hg ks.2 s.2 a b⟩
 | [],kw::kws=>gd (glB C x) λhg=>(wth (kwN (kw::kws))).bind λks =>
   orE (ob2 (wth (C.shs.find? (shP x 0 ks.1))) (S.kk C (kw::kws)) λs b=>(⟨.cak (C.key x) .nil b.1 s.1.2.2.2,λK=>aFk K hg ks.2 s.2 b⟩:RE C _)) <|
   ob2 (wth (C.mkk.find? λs=>s.1==x&&s.2.1==ks.1)) (S.kk C (kw::kws)) λs b=>⟨.cak (C.key x) .nil b.1 s.1.2.2,λK=>aFf K hg ks.2 s.2 b⟩
 | [],[]=>none
noncomputable def aL5(C:Cfg)(o:Expr)(mth:Str)(ap:Pos)(es:List Expr)(kws:List Keyword)(p:Pos)(hb:(!AA o)=true)(hl:(ap.endLine==p.line)=true):Option (RE C (.Call (.Attribute o mth ap) es kws p)):=match es,kws with
 | [],[]=>ob2 (wth (C.mts.find? (shP mth 0 []))) (S.e C false o) λs o=>⟨.met mth s.1.2.2.2 o.1 .nil,λK=>aCl K.rm (o.2 K) (ZG K s.2) (dC (bnf hb)) hl⟩
 | e::r,[]=>gd (decide ((e::r).length<29)) λh=>ob3 (wth (C.mts.find? (shP mth (e::r).length []))) (S.e C false o) (S.l C (e::r)) λs o a=>⟨.met mth s.1.2.2.2 o.1 a.1.1,λK=>aHe K.rm (o.2 K) (a.1.2 K) (ZG K s.2) (dC (bnf hb)) hl (by
     unfold methodCallForm;rw[show(backTo p (starEach (e::r) _)).all (λx=> !x.1)=true by rw[List.all_eq_true];intro x hx;simpa using List.any_eq_false.mp (gH a.2) x hx];exact decide_eq_true (Nat.lt_succ_of_lt (of_decide_eq_true h))) (nE a.2) (sZ a.2)⟩
 | [],kw::kws=>gd (decide ((kw::kws).length<29)) λh=>(wth (kwN (kw::kws))).bind λks=>ob3 (wth (C.mts.find? (shP mth 0 ks.1))) (S.e C false o) (S.kk C (kw::kws)) λs o b=>⟨.met mth s.1.2.2.2 o.1 b.1,λ{X _ _ _} K=>by
     obtain⟨k1,k2,k3,k4⟩:=jE (pos:=p) (env:=X.env) ks.2;refine aBV K.rm (o.2 K) (b.2 K) (ZG K s.2) k4 k1 k2 (by rw[k3];rfl) (dC (bnf hb)) hl ?_;unfold methodCallForm;rw[k1];show decide (0+(kw::kws).length+(if (backToKw p (keywordEach (kw::kws) X.env)).isEmpty=true then 0 else 1)<30)=true;have h:=of_decide_eq_true h;refine decide_eq_true ?_;split<;>omega⟩
 | _,_=>none
noncomputable def aMB(C:Cfg)(o:Expr)(mth:Str)(ap:Pos)(es:List Expr)(kws:List Keyword)(p:Pos):Option (RE C (.Call (.Attribute o mth ap) es kws p)):=gd (!AA o) λhb=>gd (ap.endLine==p.line) λhl =>
 orE (match es,kws with
 | [],[] =>
   orE (gd (mth==("bit_length":Str)) λh=>ob1 (S.e C false o) λo=>⟨.bln o.1,λK=>by cases beq_iff_eq.mp h;exact aGm (o.2 K) (dC (bnf hb)) hl⟩) <|
   orE (gd (mth==("pop":Str)) λh=>ob1 (S.e C false o) λo=>⟨.pol o.1,λK=>by cases beq_iff_eq.mp h;exact aF5 (o.2 K) (dC (bnf hb)) hl⟩) <|
   gd (mth==("reverse":Str)) λh=>ob1 (S.e C false o) λo=>⟨.rvs o.1,λK=>by cases beq_iff_eq.mp h;exact aHn (o.2 K) (dC (bnf hb)) hl⟩
 | _,_=>none) <|
 orE (aL5 S C o mth ap es kws p hb hl) <|
 match es,kws with
 | [e],[]=>gd (!dP e) λhs =>
   orE (gd (mth==("join":Str)) λh=>ob2 (S.e C false o) (S.e C false e) λo e=>⟨.joi o.1 e.1,λK=>by cases beq_iff_eq.mp h;exact aFo (o.2 K) (e.2 K) (dC (bnf hb)) (bH (bnf hs)) hl⟩) <|
   orE (gd (mth==("append":Str)) λh=>ob2 (S.e C false o) (S.e C false e) λo e=>⟨.app o.1 e.1,λK=>by cases beq_iff_eq.mp h;exact aHP (o.2 K) (e.2 K) (dC (bnf hb)) (bH (bnf hs)) hl⟩) <|
   none
 | _,_=>none
theorem aE1(K:Kn X E T k C){tg j5 elt:Expr}{ifs:List Expr}{sc:Scope}{p:Pos}{m:Bool}(h:(vY C sc&&!uA j5)=true)(i:RI C tg j5)(g:RG (xB C sc) tg)(t:RTs (xB C sc) ifs)(e:RE (xB C sc) elt) :
   JE X E (.ListComp elt [⟨tg,j5,ifs,0⟩] sc p) (wpE T (.cmpr m g.1 i.1 t.1 e.1 ((kU C sc.names).map (·.2)))):=by
 obtain⟨cl,B,KB⟩:=K.block (ba2 h).1;exact aBn B K.pl (K.k40 (TD (ba2 h).1)) (i.2 K) (λC0 s₀ H₀ ex=>g.2 (KB C0 s₀ H₀ ex)) (λC0 s₀ H₀ ex=>t.2 (KB C0 s₀ H₀ ex)) (λC0 s₀ H₀ ex=>e.2 (KB C0 s₀ H₀ ex)) (sC (bnf (ba2 h).2))
noncomputable def tTs(C:Cfg)(l:List Expr):Option (RTs C l):=match l with
 | []=>some ⟨.nil,λ_=>aMh⟩
 | [c]=>ob1 (S.t C c) λc=>⟨c.1,λK=>aLv (c.2 K)⟩
 | _=>none
noncomputable def tE(C:Cfg)(m:Bool)(e:Expr):Option (RE C e):=match e with
 | .Name x p=>aHU C x p
 | .Constant v j p=>aJx C v j p
 | .BinOp a op b _ =>
   orE (match op with
     | .Add=>gd m λ_=>ob2 (S.e C false a) (S.e C false b) λa b=>⟨.ladd a.1 b.1,λK=>aBi (a.2 K) (b.2 K)⟩
     | _=>none) <|
   ob2 (S.e C false a) (S.e C false b) λa b=>⟨.bin op a.1 b.1,λK=>aF6 K.pl (a.2 K) (b.2 K)⟩
 | .UnaryOp op a _=>ob1 (S.e C false a) (λa=>match op with
     | .USub=>(some ⟨.neg a.1,λK=>aFT (a.2 K)⟩:Option (RE C _))
     | .Not =>
       some ⟨.no a.1,λK=>aJB K.pl (a.2 K)⟩
     | _=>none) |>.join
 | .BoolOp op vs p=>ob1 (S.b C op vs) λb=>⟨b.1,λK=>b.2 K p⟩
 | .Compare a ops bs p=>aKn S C a ops bs p
 | .Dict ks vs p=>match ks,vs with
   | [],[]=>some ⟨.emp,λ_=>aGy⟩
   | _,_=>none
 | .Tuple es _ _=>ob1 (S.l C es) λa=>⟨.tup a.1.1,λK=>aHr (a.1.2 K)⟩
 | .List es _=>ob1 (S.l C es) λa=>⟨.lst m a.1.1,λK=>aF8 (a.1.2 K)⟩
 | .Subscript a s p=>aH2 S C a s p
 | .Attribute a f p=>aLb S C a f p
 | .Call f es kws p=>(match f with
   | .Name x np=>TM S C m x np es kws p
   | .Attribute o mth ap=>aMB S C o mth ap es kws p
   | _=>none)
 | .ListComp elt gens sc _=>(match gens with
   | [⟨tg,j5,ifs,0⟩]=>gd (vY C sc&&!uA j5) λh=>ob4 (S.i C tg j5) (S.g (xB C sc) tg) (tTs S (xB C sc) ifs) (S.e (xB C sc) false elt) λi g t e=>⟨.cmpr m g.1 i.1 t.1 e.1 ((kU C sc.names).map (·.2)),λK=>aE1 K h i g t e⟩
   | _=>none)
 | .JoinedStr (a::b::r) _=>ob1 (S.j C (a::b::r)) λj=>⟨.fst j.1,λK=>aGN (j.2 K)⟩
 | _=>none
noncomputable def tJ(C:Cfg)(es:List Expr):Option (RJ C es):=match es with
 | []=>some ⟨.nil,λ_=>aFh⟩
 | e::r=>(match e with
   | .FormattedValue e (-1) none _=>ob2 (S.e C false e) (S.j C r) λe r=>⟨.cons e.1 r.1,λK=>aH7 (e.2 K) (r.2 K) rfl⟩
   | .Constant (.str s) _ _=>ob1 (S.j C r) λr=>⟨.cons (.str s) r.1,λK=>aGL WA (r.2 K) rfl⟩
   | _=>none)
noncomputable def tL(C:Cfg)(es:List Expr):Option (RL C es):=match es with
 | []=>some ⟨⟨.nil,λ_=>aEk⟩,λ_ h=>nomatch h⟩
 | e::r=>gd (!dP e) λhs=>ob2 (S.e C false e) (S.l C r) λe r=>⟨⟨.cons e.1 r.1.1,λK=>aB8 (e.2 K) (r.1.2 K) (bH (bnf hs))⟩,List.forall_mem_cons.mpr ⟨bnf hs,r.2⟩⟩
noncomputable def tK(C:Cfg)(ks:List Keyword):Option (RK C ks):=match ks with
 | []=>some ⟨.nil,λ_=>JC⟩
 | ⟨_,v,_⟩::r=>ob2 (S.e C false v) (S.kk C r) λv r=>⟨.cons v.1 r.1,λK=>aBO (v.2 K) (r.2 K)⟩
noncomputable def tB(C:Cfg)(op:BoolOp)(vs:List Expr):Option (RB C op vs):=match vs with
 | []=>none
 | [a]=>ob1 (S.e C false a) λa=>⟨a.1,λK _=>aF9 (a.2 K)⟩
 | a::b::r=>ob2 (S.e C false a) (S.b C op (b::r)) λa b=>match op with
   | .And=>⟨.an a.1 b.1,λK p=>aI6 K.pl (a.2 K) (b.2 K p)⟩
   | .Or=>⟨.oo a.1 b.1,λK p=>aH4 K.pl (a.2 K) (b.2 K p)⟩
noncomputable def tW(C:Cfg)(op:BoolOp)(vs:List Expr):Option (RWb C op vs):=match vs with
 | []=>none
 | [a]=>ob1 (S.t C a) λa=>match op with
   | .And=>⟨a.1,λK _=>aG9 (a.2 K)⟩
   | .Or=>⟨a.1,λK _=>aGH (a.2 K)⟩
 | a::b::r=>ob2 (S.t C a) (S.w C op (b::r)) λa b=>match op with
   | .And=>⟨.an a.1 b.1,λK p=>aKq (a.2 K) (b.2 K p)⟩
   | .Or=>⟨.oo a.1 b.1,λK p=>aJI (a.2 K) (b.2 K p)⟩
noncomputable def tTC(C:Cfg)(a:Expr)(ops:List CmpOp)(bs:List Expr)(p:Pos):Option (RT C (.Compare a ops bs p)):=match ops,bs with
 | [op],[b]=>gd (!uA b) λhs =>
   orE (match op with
     | .Eq=>gd (!C.eqs.isEmpty) λ_=>ob2 (S.e C false a) (S.e C false b) λa b=>⟨.tsb (.ceq C.eqs a.1 b.1),λK=>aEV K.pl (VA K) (gB (bnf hs)) (a.2 K) (b.2 K)⟩
     | _=>none) <|
   ob2 (S.e C false a) (S.e C false b) λa b=>⟨.tsb (.cmp op a.1 b.1),λK=>aHf K.pl (gB (bnf hs)) (a.2 K) (b.2 K)⟩
 | [op,op'],[b,c]=>gd (!uA c) λhs=>ob3 (S.e C false a) (S.e C false b) (S.e C false c) λa b c=>⟨.tsb (.chn op op' a.1 b.1 c.1),λK=>aEr K.pl (aD3 hs) (a.2 K) (b.2 K) (c.2 K)⟩
 | _,_=>none
noncomputable def tT(C:Cfg)(e:Expr):Option (RT C e):=match e with
 | .BoolOp op vs p=>ob1 (S.w C op vs) λw=>⟨w.1,λK=>(w.2 K p).jt⟩
 | .UnaryOp .Not a _=>ob1 (S.t C a) λa=>⟨.no a.1,λK=>aKx (a.2 K)⟩
 | .Compare a ops bs p=>tTC S C a ops bs p
 | .Name x p=>ob1 (S.e C false (.Name x p)) λe =>
   if !C.lns.isEmpty then⟨.tso C.lns e.1,λK=>aEU K.pl (aJz K) (e.2 K) λ_=>rfl⟩ else
   ⟨.tst e.1,λK=>BG K.pl (e.2 K) λ_=>rfl⟩
 | .Call f es kws p=>ob1 (S.e C false (.Call f es kws p)) λe=>⟨.tst e.1,λK=>BG K.pl (e.2 K) λ_=>rfl⟩
 | .Subscript a b p=>ob1 (S.e C false (.Subscript a b p)) λe=>⟨.tst e.1,λK=>BG K.pl (e.2 K) λ_=>rfl⟩
 | .Attribute a f p=>ob1 (S.e C false (.Attribute a f p)) λe=>⟨.tst e.1,λK=>BG K.pl (e.2 K) λ_=>rfl⟩
 | _=>none
noncomputable def tG(C:Cfg)(e:Expr):Option (RG C e):=match e with
 | .Name x _=>gd (PD C x) λh=>ob1 (wth (slot C.N x)) λi=>⟨.gn i.1,λK=>AQ K.ndX (K.sl i.2) (K.loc h).1 (K.loc h).2⟩
 | .Tuple es _ _=>gd C.cm λh=>ob1 (S.gs C es) λg=>⟨.gt es.length g.1.1,λK=>aFt K.pl (K.k40 h) (g.1.2 K) (pR g.2).1 (pR g.2).2⟩
 | _=>none
noncomputable def tGs(C:Cfg)(es:List Expr):Option (RGs C es):=match es with
 | []=>some ⟨⟨.nil,λ_=>aBG⟩,λ_ h=>nomatch h⟩
 | e::r=>gd (!dP e) λhs=>ob2 (S.g C e) (S.gs C r) λg r=>⟨⟨.cons g.1 r.1.1,λK=>TZ (g.2 K) (r.1.2 K) (by rw[FJ (bnf hs)];rfl)⟩,List.forall_mem_cons.mpr ⟨bnf hs,r.2⟩⟩
noncomputable def tI(C:Cfg)(tg e:Expr):Option (RI C tg e):=match e with
 | .Call (.Name x p) es kws pos =>
   if x = "zip" then(match kws,tg,es with
     | [],.Tuple ..,e::r=>gd (x==("zip":Str)&&(glB C x&&C.blt.contains x)) λh=>ob1 (S.l C (e::r)) λa=>⟨.izp a.1.1,λK=>by
         cases beq_iff_eq.mp (ba2 h).1;exact aGF K.pl (K.gl (ba2 (ba2 h).2).1) (K.bl (ba2 (ba2 h).2).2) (a.1.2 K) (nE a.2) (sZ a.2)⟩
     | _,_,_=>none) else
   if x = "range" then(match kws,es with
     | [],[a]=>gd (x==("range":Str)&&(glB C x&&(C.blt.contains x&&!dP a))) λh=>ob1 (S.e C false a) λa=>⟨.irg (.cons a.1 .nil),λK=>by
         obtain⟨h1,h⟩:=ba2 h;obtain⟨g1,h⟩:=ba2 h;obtain⟨b1,st⟩:=ba2 h;cases beq_iff_eq.mp h1;exact aCs (K.gl g1) (K.bl b1) (a.2 K) (bH (bnf st))⟩
     | [],[a,b]=>gd (x==("range":Str)&&(glB C x&&(C.blt.contains x&&(!dP a&&!dP b)))) λh=>ob2 (S.e C false a) (S.e C false b) λa b=>⟨.irg (.cons a.1 (.cons b.1 .nil)),λK=>by
         obtain⟨h1,h⟩:=ba2 h;obtain⟨g1,h⟩:=ba2 h;obtain⟨b1,h⟩:=ba2 h;obtain⟨s1,s2⟩:=ba2 h;cases beq_iff_eq.mp h1;exact aAA (K.gl g1) (K.bl b1) (a.2 K) (b.2 K) (by rw[bH (bnf s1),bH (bnf s2)];rfl) (bH (bnf s2))⟩
     | _,_=>none) else
   if x = "enumerate" then(match kws,tg,es with
     | [],.Tuple ..,[a]=>gd (x==("enumerate":Str)&&(glB C x&&(C.blt.contains x&&!dP a))) λh=>ob1 (S.e C false a) λa=>⟨.ien a.1,λK=>by
         obtain⟨h1,h⟩:=ba2 h;obtain⟨g1,h⟩:=ba2 h;obtain⟨b1,st⟩:=ba2 h;cases beq_iff_eq.mp h1;exact aGT K.pl (K.gl g1) (K.bl b1) (a.2 K) (bH (bnf st))⟩
     | _,_,_=>none) else
   ob1 (S.e C false (.Call (.Name x p) es kws pos)) λe=>⟨.isq e.1,λK=>VE K.pl (e.2 K)⟩
 | e=>gd (!uA e) λ_=>ob1 (S.e C false e) λe=>⟨.isq e.1,λK=>VE K.pl (e.2 K)⟩
end
noncomputable def trN:Nat->Tr
 | 0=>{
   e:=λ_ _ _=>none,t:=λ_ _=>none,l:=λ_ _=>none,kk:=λ_ _=>none,b:=λ_ _ _=>none,w:=λ_ _ _=>none,g:=λ_ _=>none,gs:=λ_ _=>none,i:=λ_ _ _=>none,
   j:=λ_ _=>none,
   }
 | n+1=>{
   e:=tE (trN n),t:=tT (trN n),l:=tL (trN n),kk:=tK (trN n),b:=tB (trN n),w:=tW (trN n),g:=tG (trN n),gs:=tGs (trN n),i:=tI (trN n),
   j:=tJ (trN n),
   }
section
variable{X:Cx}{E:Ev}{T:Tb}{k:Nat}{C:Cfg}
noncomputable abbrev RS(C:Cfg)(s:Stmt):={c:CS // ∀{X E T k},Kn X E T k C->JS X E s (wpS T c)}
noncomputable abbrev RSs(C:Cfg)(s:List Stmt):={c:CS // ∀{X E T k},Kn X E T k C->JSs X E s (wpS T c)}
structure TrS where
 s:∀(C:Cfg) (s:Stmt),Option (RS C s)
 ss:∀(C:Cfg) (l:List Stmt),Option (RSs C l)
theorem BK(K:Kn X E T k C):X.env.blockKind= .function:=by
 unfold Env.blockKind;rw[K.kd];rfl
noncomputable def aLp:Expr->Bool
 | .Tuple .. =>true
 | _=>false
noncomputable def aEv:Expr->Bool
 | .Tuple vs _ _=> !(vs.all (foldedForSure 8))
 | _=>false
theorem aFV(h:aLp value=false):swappedStores [.Tuple ts kt pt] value env=pure none:=by
 cases value<;>first|rfl|(cases h)
theorem aA6{ts vs:List Expr}{kt kv:Nat}{pt pv:Pos}{env:Env}(h:vs.all (foldedForSure 8)=true):swappedStores [.Tuple ts kt pt] (.Tuple vs kv pv) env=pure none:=by
 unfold swappedStores;dsimp only;split
 . rfl
 . split
   . rfl
   . split
     . rfl
     . first|rfl|rw[jd h]
theorem WZ(h:¬aEv v=true):swappedStores [.Tuple ts kt pt] v env=pure none:=by
 cases v with
 | Tuple vs kv pv =>
   refine aA6 ?_;cases e:vs.all (foldedForSure 8) with
   | true=>rfl
   | false=>exact absurd (show(!(vs.all (foldedForSure 8)))=true by rw[e];rfl) h
 | _=>exact aFV rfl
theorem aL3:(Expr.Name x p).pos=p:=rfl
theorem aGt(K:Kn X E T k C)(hx:C.names.lookup x=some .local)(hy:C.names.lookup y=some .local)(hl:py.line=px.line)(hne:x≠y)(sa:dP a=false)(sb:dP b=false)
   (nf: [a,b].all (foldedForSure 8)=false) (nc: [a,b].all (constantsAlone 8)=false):swappedStores [.Tuple [.Name x px,.Name y py] kt pt] (.Tuple [a,b] k2 pt2) X.env=pure (some [x,y]):=by
 unfold swappedStores;dsimp only;have kx:(X.env.kindOf x==some .local)=true:=by unfold Env.kindOf;rw[K.nm,hx];rfl
 have ky:(X.env.kindOf y==some .local)=true:=by unfold Env.kindOf;rw[K.nm,hy];rfl
 have e:∀e:Expr,dP e=false->(match e with|.Starred .. =>true|_=>false)=false:=λe h=>by cases e<;>first|rfl|(cases h)
 have c1:(!([Expr.Name x px,Expr.Name y py].length==2||[Expr.Name x px,Expr.Name y py].length==3)||[a,b].length !=[Expr.Name x px,Expr.Name y py].length||X.env.blockKind !=ScopeKind.function)=false:=by
   rw[BK K];rfl
 rw[jb (by rw[c1];exact Bool.false_ne_true)];have nm:([x,y]:List Str).eraseDups.length=2:=by
   have hb:(y==x)=false:=beq_eq_false_iff_ne.mpr (Ne.symm hne);simp[List.eraseDups_cons,hb]
 split
 . rename_i h2;exfalso
   simp only[List.any_cons,List.any_nil,Bool.or_false,Bool.or_eq_true] at h2;rcases h2 with h2|h2
   . cases a<;>first|(cases h2;done)|(cases sa)
   . cases b<;>first|(cases h2;done)|(cases sb)
 . simp only[List.filterMap_cons,List.filterMap_nil,kx,ky,List.head?_cons,Option.map_some,Option.getD_some,Bool.true_and,aL3,hl,beq_self_eq_true,if_true,List.length_cons,List.length_nil,nm,nf,nc];rfl
theorem aAM(h1:slot N x=some i)(h2:slot N y=some j)(hne:x≠y):i≠j:=λe=>by
 subst e;have a1:=pF h1;have a2:=pF h2;rw[a1] at a2;exact hne (Option.some.inj a2)
noncomputable def WX(C:Cfg):Expr->Bool
 | .ListComp .. =>true
 | .List .. =>true
 | .Name x _=>C.ls.contains x
 | _=>false
theorem JD(K:Kn X E T k C)(c3:(C.names.lookup x==some .cell)=true) :
   swapsWithSole [.Name x px] (.ListComp elt gens sc vp) l X.env=pure false:=by
 unfold swapsWithSole swapsWith;dsimp only;have e1:X.env.kindOf x=C.names.lookup x:=by unfold Env.kindOf;rw[K.nm]
 rw[BK K,e1,beq_iff_eq.mp c3];rfl
theorem rX(h:wP e=false):swapsWith e t l env=pure false:=by
 cases e<;>first|rfl|(cases h)
theorem GV(K:Kn X E T k C)(c3:(C.names.lookup x==some .local)=true)(c4:(px.line==vp.line)=true)(c5:(!(sc.names.any λy=>y.1==x&&(y.2==.local||y.2==.cell)))=true) :
   swapsWith (.ListComp elt gens sc vp) (some (.Name x px)) l X.env=pure true:=by
 unfold swapsWith;dsimp only;have e1:X.env.kindOf x=C.names.lookup x:=by unfold Env.kindOf;rw[K.nm]
 rw[BK K,e1,c3];have e2:(!(sc.names.any λ(n,k)=>n==x&&(k==.local||k==.cell)))=true:=by rw[<-c5]
 show pure (true&&true&&(px.line==vp.line)&&!(sc.names.any λ(n,k)=>n==x&&(k==.local||k==.cell)))=pure true;rw[c4,e2];rfl
theorem oE(h:wP e=false):swapsWithSole [t] e l env=pure false:=rX h
theorem aCE(h:aCn i=false)(v:Value):assign (.Subscript o i pos') env v=(do
     let ov <-holding [v] (eval o env)
     let iv <-holding [v,ov] (eval i env)
     standAt pos'
     holding [v,ov,iv] (setItem ov iv v)
     release [v,ov,iv] []):=by
 cases i<;>first|rfl|(cases h)
theorem PZ(h:WX C v=true):swapsWithSole [.Tuple gs kt pt] v l env=pure false:=by
 cases v<;>first|rfl|(cases h)
theorem aAm{v:Expr}(h:WX C v=true):¬aEv v=true:=by
 cases v<;>first|(intro z;cases z;done)|(cases h)
variable(S:Tr)(U:TrS)
noncomputable def YW(C:Cfg)(t v:Expr)(p:Pos):Option (RS C (.Assign [t] v p)):=match t with
 | .Name x px=>(match v with
   | .ListComp elt gens sc vp=>orE (gd (PD C x&&C.names.lookup x==some .cell) λh=>ob2 (wth (slot C.N x)) (S.e C (C.M.contains x) (.ListComp elt gens sc vp)) λi v=>⟨.asg (.gn i.1) v.1,λK=>BV (v.2 K) (AQ K.ndX (K.sl i.2) (K.loc (ba2 h).1).1 (K.loc (ba2 h).1).2) (JD K (ba2 h).2) rfl rfl⟩) <|
     (match gens with
     | [⟨tg,j5,ifs,0⟩]=>gd (PD C x&&(C.names.lookup x==some .local&&(px.line==vp.line&&!(sc.names.any λy=>y.1==x&&(y.2==.local||y.2==.cell))))) λh=>gd (vY C sc&&!uA j5) λhb=>(wth (slot C.N x)).bind λi=>ob4 (S.i C tg j5) (S.g (xB C sc) tg) (tTs S (xB C sc) ifs) (S.e (xB C sc) false elt) λit g t e=>⟨.asg (.gn i.1) (.cmpr (C.M.contains x) g.1 it.1 t.1 e.1 ((kU C sc.names).map (·.2))),λK=>by
         obtain⟨_,h⟩:=ba2 h;obtain⟨c3,h⟩:=ba2 h;obtain⟨c4,c5⟩:=ba2 h;obtain⟨cl,B,KB⟩:=K.block (ba2 hb).1;exact aBg B K.pl (K.k40 (TD (ba2 hb).1)) K.ndX (K.sl i.2) (by rw[K.nm];exact beq_iff_eq.mp c3) (it.2 K) (λC0 s₀ H₀ ex=>g.2 (KB C0 s₀ H₀ ex)) (λC0 s₀ H₀ ex=>t.2 (KB C0 s₀ H₀ ex)) (λC0 s₀ H₀ ex=>e.2 (KB C0 s₀ H₀ ex)) (GV K c3 c4 c5) (sC (bnf (ba2 hb).2))⟩
     | _=>none)
   | v=>gd (PD C x&&!wP v) λh=>ob2 (wth (slot C.N x)) (S.e C (C.M.contains x) v) λi v=>⟨.asg (.gn i.1) v.1,λK=>BV (v.2 K) (AQ K.ndX (K.sl i.2) (K.loc (ba2 h).1).1 (K.loc (ba2 h).1).2) (oE (bnf (ba2 h).2)) rfl rfl⟩)
 | .Attribute o f _=>gd (!wP v) λh=>ob2 (S.e C false o) (S.e C false v) λo v=>⟨.fld o.1 f v.1,λK=>aEs K.pl (o.2 K) (v.2 K) (rX (bnf h))⟩
 | .Subscript o i _=>gd (!wP v&&!aCn i) λh=>ob3 (S.e C false o) (S.e C false i) (S.e C false v) λo i v=>⟨.sub o.1 i.1 v.1,λK=>aGa (v.2 K) (o.2 K) (i.2 K) (aCE (bnf (ba2 h).2)) (oE (bnf (ba2 h).1)) rfl⟩
 | .Tuple gs kt pt =>
   orE (gd (WX C v&&C.cm) λh=>ob2 (S.e C false v) (S.gs C gs) λv g=>⟨.asg (.gl gs.length g.1.1) v.1,λK=>BV (v.2 K) (aEH K.pl (K.k40 (ba2 h).2) (g.1.2 K) (pR g.2).1 (pR g.2).2) (PZ (ba2 h).1) (WZ (aAm (ba2 h).1)) rfl⟩) <|
   if hp :aEv v=true then(match gs,v with
     | [.Name x px,.Name y py],.Tuple [a,b] _ _=>gd (C.names.lookup x==some .local&&(C.names.lookup y==some .local&&(py.line==px.line&&(x !=y&&(!dP a&&(!dP b&&(!([a,b].all (constantsAlone 8))&&C.cm))))))) λh=>ob4 (wth (slot C.N x)) (wth (slot C.N y)) (S.e C (C.M.contains x) a) (S.e C (C.M.contains y) b) λi j a b=>⟨.par i.1 j.1 a.1 b.1,λK=>by
         obtain⟨c1,h⟩:=ba2 h;obtain⟨c2,h⟩:=ba2 h;obtain⟨c3,h⟩:=ba2 h;obtain⟨c4,h⟩:=ba2 h;obtain⟨c5,h⟩:=ba2 h;obtain⟨c6,h⟩:=ba2 h;obtain⟨c7,hcm⟩:=ba2 h;have c1:=beq_iff_eq.mp c1;have c2:=beq_iff_eq.mp c2;have c4:=bne_iff_ne.mp c4;exact aEB K.pl (K.k40 hcm) K.ndX (K.sl i.2) (K.sl j.2) (aAM i.2 j.2 c4) (by rw[K.nm];exact c1) (by rw[K.nm];exact c2) (a.2 K) (b.2 K) (bH (bnf c5)) (bH (bnf c6)) (aGt K c1 c2 (beq_iff_eq.mp c3) c4 (bnf c5) (bnf c6) (bnf hp) (bnf c7)) rfl⟩
     | _,_=>none)
   else gd (!wP v) λh=>ob2 (S.e C false v) (S.g C (.Tuple gs kt pt)) λv g=>⟨.asg g.1 v.1,λK=>BV (v.2 K) (g.2 K) (oE (bnf h)) (WZ hp) rfl⟩
 | _=>none
noncomputable def tS(C:Cfg)(s:Stmt):Option (RS C s):=match s with
 | .Expr e _=>(match e with
   | .Constant (.str _) _ _=>some ⟨.nil,λ_=>aFP⟩
   | e=>gd (!wP e) λh=>ob1 (S.e C false e) λe=>⟨.ex e.1,λK=>aKd (e.2 K) (rX (bnf h))⟩)
 | .Pass _=>some ⟨.nil,λ_=>aBy⟩
 | .Raise v f _ =>
   some ⟨.nev,λ_=>aFx⟩
 | .Return o _=>(match o with
   | none=>some ⟨.retN,λ_=>aBF⟩
   | some e=>ob1 (S.e C C.rm e) λe=>⟨.ret e.1,λK=>aHH (e.2 K)⟩)
 | .If c a b _=>ob3 (S.t C c) (U.ss C a) (U.ss C b) λc a b=>⟨.iff c.1 a.1 b.1,λK=>aJX (c.2 K) (a.2 K) (b.2 K)⟩
 | .While c b [] _=>ob1 (S.t C c) λc=>match U.ss C b with
   | some b=>⟨.wh c.1 b.1,λK=>aDM K.ps (c.2 K) (b.2 K)⟩
   | none=>⟨.wh c.1 .nev,λK=>aDM K.ps (c.2 K) aBI⟩
 | .For tg it b [] _=>gd (!uA it&&C.cm) λh=>ob3 (S.i C tg it) (S.g C tg) (U.ss C b) λi g b=>⟨.fr g.1 i.1 b.1,λK=>aHC K.pl (K.k40 (ba2 h).2) K.ps (i.2 K) (g.2 K) (b.2 K) (sC (bnf (ba2 h).1))⟩
 | .Assign [t] v p=>YW S C t v p
 | _=>none
noncomputable def tSs(C:Cfg)(l:List Stmt):Option (RSs C l):=match l with
 | []=>some ⟨.nil,λ_=>aHh⟩
 | [s]=>ob1 (U.s C s) λs=>⟨s.1,λK=>aEo (s.2 K)⟩
 | s::t::r=>ob2 (U.s C s) (U.ss C (t::r)) λs r=>⟨.seq s.1 r.1,λK=>aHN (s.2 K) (r.2 K)⟩
end
noncomputable def trS:Nat->TrS
 | 0=>⟨λ_ _=>none,λ_ _=>none⟩
 | n+1=>⟨tS (trN n) (trS n),tSs (trS n)⟩
noncomputable def cSs(n:Nat)(C:Cfg)(l:List Stmt):Option CS:=((trS n).ss C l).map (·.1)
theorem aHs(h:cSs n C l=some c)(K:Kn X E T k C):JSs X E l (wpS T c):=by
 obtain⟨r,_,rfl⟩:=Option.map_eq_some_iff.mp h;exact r.2 K
structure aQ(K:W.Frag)(x qual:Str)(st:Stmt)(dV:Value)(f:Addr)(fd:Ja):Prop where
 ex :∃(oc:Value) (od:Option Addr) (kV doc pm:Value) (an:Option Addr) (cdv ct:Value) (osl:Array (Option Value)),
   fd=W.fnOf x qual (fE st) (dG st) (bS st) dV kV doc pm an cdv ct/\K.lookup f=some ⟨oc,od,.func fd,osl⟩/\W.codeIn K cdv qual=true
 kp:W.keepIn K (.ref f)=true
noncomputable def Wk(Q:PK1):PK1:=λx G=>∃G2:Gh,(∀a o,G2 a=some o->G a=some o)/\(Q x G2∨(∃p xs,x= .ref p/\G2 p=none/\G p=some (.lst xs)/\Q (.lst xs) G2)∨∃p c ns xs,x= .ref p/\G2 p=none/\G p=some (.ins c ns xs)/\Q (.ob c ns xs) G2)
theorem Wk.here(q:Q x G):Wk Q x G:=⟨G,λ_ _ z=>z,.inl q⟩
theorem Wk.of{Q:PK1}{x:PV}{G G2:Gh}(q:Q x G2)(h:∀a o,G2 a=some o->G a=some o):Wk Q x G:=⟨G2,h,.inl q⟩
theorem Wk.frz(hG:G p=some (.lst xs))(q:Q (.lst xs) G2)(h:∀a o,G2 a=some o->G a=some o)(n:G2 p=none):Wk Q (.ref p) G:=⟨G2,h,.inr (.inl ⟨p,xs,rfl,n,hG,q⟩)⟩
theorem US(kq:Kq E F Z Q' Q)(s1:aJ Z Z1)(S1:Sim E F H1 Z1 G1)(r1:RP E Z1 y v)(w:Wk Q' y G1):Q v H1:=by
 obtain⟨G2,hG,q1|⟨p,xs,e,n,hp,q1⟩|⟨p,c,ns,xs,e,n,hp,q1⟩⟩:=w
 . exact kq _ _ _ _ _ s1 (S1.weak hG) r1 q1
 case inr.inr =>
   subst e;have e:v= .ref p:=r1;subst e;obtain⟨z,o',ho,dx,vs,e,l,t⟩:=S1.g _ _ hp;subst e;refine kq (.ob c ns xs) _ _ _ _ (s1.trans (bE z _)) ((S1.frz hp ho).weak λa o q=>?_) ⟨p,dx,vs,rfl,aS,l,t.mono (bE z _)⟩ q1;by_cases ea:a=p
   . subst ea;rw[n] at q;cases q
   . rw[uN ea];exact hG a o q
 . subst e;have e:v= .ref p:=r1;subst e;obtain⟨z,o',ho,vs,e,t⟩:=S1.g _ _ hp;subst e;refine kq _ _ _ _ _ (s1.trans (bE z _)) ((S1.frz hp ho).weak λa o q=>?_) (jQ z t) q1;by_cases ea:a=p
   . subst ea;rw[n] at q;cases q
   . rw[uN ea];exact hG a o q
noncomputable def aH(Q:PK1):eU:=⟨λ_ G=>Wk Q .non G,Wk Q,λ_ _=>False,λ_ _=>False⟩
structure XL(st:Stmt)(ps:List Str)(C:Cfg):Prop where
 sc:AI C.N ps (bS st)
 nm:(bS st).names=C.names
 bk:C.blk=false
structure Ck(K:W.Frag)(E:Ev)(T:Tb):Prop where
 hK:E.K=K
 cls:YC E T.cs
 fld:∀c f,(c,f)∈T.fl->Cls K (E.cls c)/\eS K (E.cls c) f
structure Xo(K:W.Frag)(mg:Str->Option Value)(E:Ev)(T:Tb):Prop where
 xi:∀c n r,(c,n,r)∈T.xi->XAt K (E.cls c)/\((∃a,mg n=some (.ref a)/\W.kitOne K (.ref (E.cls c)) (.ref a)=some r)∨∃t,mg n=none/\bootBuiltins n=some (.type t)/\n≠"__name__"/\W.kitOne K (.ref (E.cls c)) (.type t)=some r)
 fx:∀c f,(c,f)∈T.fx->XAt K (E.cls c)/\W.findIn K (.ref (E.cls c)) f=some none
theorem Xo.no{K:W.Frag}{mg:Str->Option Value}{E:Ev}{T:Tb}(h1:T.xi=[])(h2:T.fx=[]):Xo K mg E T:=⟨(λc n r h=>by rw[h1] at h;cases h),(λc f h=>by rw[h2] at h;cases h)⟩
theorem Tf.no{P:J9}{w:World}{K:W.Frag}{mg:Str->Option Value}{base:Heap}{E:Ev}{T:Tb}{k:Nat}{C:Cfg}(h:C.tr=false):Tf P w K mg base E T k C:=⟨(λz=>by rw[h] at z;cases z),(λz=>by rw[h] at z;cases z),(λz=>by rw[h] at z;cases z)⟩
theorem aId{P:J9}{w:World}{K:W.Frag}{mg:Str->Option Value}{base:Heap}{E:Ev}{T:Tb}{k n:Nat}{C:Cfg}{x qual:Str}{st:Stmt}{dV:Value}{f:Addr}{fd:Ja}{ps:List Str}{sp:Sp3}{code:CS}
   (F:aQ K x qual st dV f fd) (D:XL st ps C) (ck:Ck K E T) (gf:Gf P w K mg base E T k C) (hc:cSs n C (dG st)=some code) (xo:Xo K mg E T) (tf:Tf P w K mg base E T k C) (hz:C.rz=false) (hcm:C.cm=true->40<=k) (hrp:C.rp=true->79<=k)
   (len:∀xs G Q,sp xs G Q->xs.length=ps.length) (hw:∀xs G Q,sp xs G Q->wpS T code (aH Q) (aB C.N.length xs) G):aW P w K mg base CX0 (k+2) f fd ps (fV E sp):=by
 obtain⟨oc,od,kV,doc,pm,an,cdv,ct,osl,e,lk,hcd⟩:=F.ex;subst e;refine aIY lk hcd D.sc (by rintro vs H Q E' ⟨xs,Z,G,F',Q',r,S,q,kq⟩;rw[<-r.length];exact len xs G Q' q) λA outer s H vs Q E' hr hsp=>?_;obtain⟨xs,Z,G,F',Q',r,S,q,kq⟩:=hsp;have kn:Kn (OY CX0 P w K mg base C.N qual (bS st) f cdv A outer s H E').nox E T k C:=by
   refine⟨⟨ck.hK,(λz=>Option.isNone_iff_eq_none.mpr (hr.hd z)),hr,ck.cls,ck.fld⟩,rfl,D.sc.nd,D.nm,D.sc.kind,λ_ _=>rfl,λy hy=>?_,PassesOwn.never,gf,λ_=>⟨rfl,rfl⟩,(λz=>by rw[hz] at z;cases z),⟨xo.xi,xo.fx⟩,hcm,(λz=>hr.gd (Nat.succ_le_succ (hrp z))),tf⟩;exact wS (n:=s.heap.objs.size+1) (by rw[D.nm];exact hy)
 have js:=aHs hc kn F';refine⟨_,js.nox,aB C.N.length xs,Z,G,aH Q',RSt.start r,S,hw xs G Q' q,⟨?_,?_,?_,?_⟩⟩
 . rintro σ1 σ2 Z1 G1 H1 s1 S1 rs1 w;exact US kq s1 S1 oA w
 . rintro y v Z1 G1 H1 s1 S1 r1 w;exact US kq s1 S1 r1 w
 . rintro σ1 σ2 Z1 G1 H1 s1 S1 rs1 z;exact z
 . rintro σ1 σ2 Z1 G1 H1 s1 S1 rs1 z;exact z
def AX:Sp3:=λxs G Q=>∃ns:List Int,xs=[.scr ns]/\ns.length<=63/\∀G',Q (.bl true) G'
noncomputable def MC(K:W.Frag):Sp:=λvs H Q _=>∃(p:Addr) (ns:List Int),vs=[.ref p]/\SqL K H p (ns.map V.int)/\ns.length<=63/\∀H',Q (.bl true) H'
theorem aHD(h0:aJ E.z0 H)(hf:aJ E.f0 λ_=>none)(h:MC E.K vs H Q X):fV E AX vs H Q X:=by
 obtain⟨p,ns,e,hS,hl,q⟩:=h;subst e;refine⟨[.scr ns],H,λ_=>none,λ_=>none,λx _=>x= .bl true,⟨.ref p,[],rfl,⟨p,rfl,hS⟩,rfl⟩,⟨aJ.refl H,(λa o z=>nomatch z),(λa o z=>nomatch z),h0,hf⟩,⟨ns,rfl,hl,λ_=>rfl⟩,?_⟩;intro x v Z1 G1 H1 s1 S1 r1 e;subst e;have e:v= .bl true:=r1;subst e;exact q H1
theorem NP{K:W.Frag}{H:Hp}{a:Addr}{ns:List Int}(hl:ns.length<=63)(_:VV H)(h:SqL K H a (ns.map V.int)):MC K [.ref a] H (λv _=>v= .bl true) λ_ _ _=>False:=⟨a,ns,rfl,h,hl,λ_=>rfl⟩
theorem aCj{K:W.Frag}{x qual:Str}{st:Stmt}{f:Addr}{oc:Value}{od an:Option Addr}{osl:Array (Option Value)}{dV kV doc pm cdv ct:Value}(l:K.lookup f=some ⟨oc,od,.func (W.fnOf x qual (fE st) (dG st) (bS st) dV kV doc pm an cdv ct),osl⟩)
   (c:W.codeIn K cdv qual=true) (k:W.keepIn K (.ref f)=true):aQ K x qual st dV f (W.fnOf x qual (fE st) (dG st) (bS st) dV kV doc pm an cdv ct):=⟨⟨oc,od,kV,doc,pm,an,cdv,ct,osl,rfl,l,c⟩,k⟩
theorem aQ.binds{K:W.Frag}{x qual:Str}{st:Stmt}{dV:Value}{f:Addr}{fd:Ja}{ps:List Str}(F:aQ K x qual st dV f fd)
   (h:∀(kV doc pm:Value) (an:Option Addr) (cdv ct:Value) (s:J7) (us:List Value),K.In s.heap->us.length=ps.length->BindsTo s (W.fnOf x qual (fE st) (dG st) (bS st) dV kV doc pm an cdv ct) ⟨us,[]⟩ (ps.zip us)):L2.aP K fd ps []:=by
 obtain⟨oc,od,kV,doc,pm,an,cdv,ct,osl,rfl,lk,hcd⟩:=F.ex;intro s us hK hl;rw[List.append_nil] at hl ⊢;exact h kV doc pm an cdv ct s us hK hl
theorem aQ.sh{K:W.Frag}{st:Stmt}{dV:Value}{ps:List Str}{n:Nat}{ks:List Str}{ar:List Ar}(F:aQ K x qual st dV f fd)(hl:ar.length=ps.length)
   (h:∀(kV doc pm:Value) (an:Option Addr) (cdv ct:Value) (s:J7) (us ws:List Value),K.In s.heap->us.length=n->ws.length=ks.length->∃bs,BindsTo s (W.fnOf x qual (fE st) (dG st) (bS st) dV kV doc pm an cdv ct) ⟨us,ks.zip ws⟩ (ps.zip bs)/\∀vs zs,aI vs us->aI zs ws->aI (ar.map (Ar.valV (vs++zs))) bs):eL K fd ps n ks ar:=by
 obtain⟨oc,od,kV,doc,pm,an,cdv,ct,osl,rfl,lk,hcd⟩:=F.ex;exact⟨hl,h kV doc pm an cdv ct⟩
noncomputable def Ar.valB(us:List Value):Ar->Value
 | .arg i=>us.getD i .none
 | .bl b=>.bool b
 | _=>.none
noncomputable def Ar.smp:Ar->Bool
 | .int _=>false
 | .str _=>false
 | _=>true
theorem MO(r:aI vs us):∀{ar:List Ar},ar.all Ar.smp=true->aI (ar.map (Ar.valV vs)) (ar.map (Ar.valB us))
 | [],_=>.nil
 | a::t,h=>by
   rw[List.all_cons,Bool.and_eq_true] at h;refine .cons ?_ (MO r h.2);cases a with
   | arg i =>
     show aN (vs.getD i .non) (us.getD i .none);rw[List.getD_eq_getElem?_getD,List.getD_eq_getElem?_getD];cases e:vs[i]? with
     | none =>
       rw[List.getElem?_eq_none_iff] at e;rw[List.getElem?_eq_none_iff.mpr (by rw[<-r.length];exact e)];rfl
     | some x =>
       obtain⟨u,hu,k⟩:=r.get e;rw[hu];exact k
   | non=>rfl
   | bl b=>rfl
   | int i=>cases h.1
   | str x=>cases h.1
theorem aQ.sh2{K:W.Frag}{x qual:Str}{st:Stmt}{dV:Value}{f:Addr}{fd:Ja}{ps:List Str}{n:Nat}{ks:List Str}{ar:List Ar}(F:aQ K x qual st dV f fd)
   (h:∀(kV doc pm:Value) (an:Option Addr) (cdv ct:Value) (s:J7) (us ws:List Value),K.In s.heap->us.length=n->ws.length=ks.length->BindsTo s (W.fnOf x qual (fE st) (dG st) (bS st) dV kV doc pm an cdv ct) ⟨us,ks.zip ws⟩ (ps.zip (ar.map (Ar.valB (us++ws))))) (hl:ar.length=ps.length:=by rfl) (hs:ar.all Ar.smp=true:=by rfl):eL K fd ps n ks ar :=
 F.sh hl λkV doc pm an cdv ct s us ws hK hu hw=>⟨_,h kV doc pm an cdv ct s us ws hK hu hw,λ_ _ r rz=>MO (r.append rz) hs⟩
structure FM(P:J9)(w:World)(K:W.Frag)(mg:Str->Option Value)(base:Heap)(E:Ev)(T:Tb)(lv:Nat)(ad:Addr)(fd:Ja)(ps:List Str)(x:Str):Prop where
 ok:aW P w K mg base CX0 lv ad fd ps (fV E (T.S x))
 kp:W.keepIn K (.ref ad)=true
 bd:L2.aP K fd ps []
section
variable{P:J9}{w:World}{K:W.Frag}{mg:Str->Option Value}{base:Heap}{E:Ev}{T:Tb}{lv k:Nat}{ad:Addr}{fd:Ja}{ps:List Str}{x:Str}
theorem FM.g(h:FM P w K mg base E T lv ad fd ps x)(m:mg x=some (.ref ad))(hk:lv<=k:=by decide)(db:(x==("__debug__":Str))=false:=by decide +kernel):∃ad fd ps,Fk P w K mg base E T k x x ad fd ps/\L2.aP K fd ps []:=⟨_,_,_,⟨h.ok.mono hk,m,h.kp,db⟩,h.bd⟩
theorem FM.s(h:FM P w K mg base E T lv ad fd ps x)(m:mg x=some (.ref ad))(sh:eL K fd ps n ks ar)(hk:lv<=k:=by decide)(db:(x==("__debug__":Str))=false:=by decide +kernel):∃ad fd ps,Fk P w K mg base E T k x x ad fd ps/\eL K fd ps n ks ar:=⟨_,_,_,⟨h.ok.mono hk,m,h.kp,db⟩,sh⟩
end
theorem IR{mg:Str->Option Value}(h:mg x=some (.int i t)):∃u v,mg x=some u/\aN v u/\RP E (λ_=>none) (.int i) v:=⟨_,.int i,h,⟨t,rfl⟩,rfl⟩
theorem RN{E:Ev}{mg:Str->Option Value}{x:Str}(h:mg x=some (.ref a))(e:E.cls c=a):∃u v,mg x=some u/\aN v u/\RP E (λ_=>none) (.cl c) v:=⟨_,.ref a,h,rfl,by rw[<-e];rfl⟩
theorem MR{E:Ev}{K:W.Frag}{mg:Str->Option Value}{x:Str}{n:Nat}{sl:Array (Option Value)}(hK:E.K=K)(h:mg x=some (.ref a))(l:K.lookup a=some ⟨.type "tuple",none,.seq #[.int i t,.int j u] n,sl⟩):∃u v,mg x=some u/\aN v u/\RP E (λ_=>none) (.tup [.int i,.int j]) v :=
 ⟨_,.ref a,h,rfl,a,[.int i,.int j],rfl,.inr ⟨_,_,_,by rw[hK];exact l,rfl,rfl,by show 2<=sizeLine;decide,.cons ⟨t,rfl⟩ (.cons ⟨u,rfl⟩ .nil),rfl⟩,_,_,rfl,rfl,_,_,rfl,rfl,rfl⟩
theorem aCv{E:Ev}{K:W.Frag}{mg:Str->Option Value}{x:Str}{n:Nat}{sl:Array (Option Value)}(hK:E.K=K)(h:mg x=some (.ref a))(l:K.lookup a=some ⟨.type "tuple",none,.seq #[.int i t,.int j u,.int k v] n,sl⟩):∃u v,mg x=some u/\aN v u/\RP E (λ_=>none) (.tup [.int i,.int j,.int k]) v :=
 ⟨_,.ref a,h,rfl,a,[.int i,.int j,.int k],rfl,.inr ⟨_,_,_,by rw[hK];exact l,rfl,rfl,by show 3<=sizeLine;decide,.cons ⟨t,rfl⟩ (.cons ⟨u,rfl⟩ (.cons ⟨v,rfl⟩ .nil)),rfl⟩,_,_,rfl,rfl,_,_,rfl,rfl,_,_,rfl,rfl,rfl⟩
theorem hU{mg:Str->Option Value}(h:∃u v,mg x=some u/\aN v u/\RP E (λ_=>none) y v)(e:z=y):∃u v,mg x=some u/\aN v u/\RP E (λ_=>none) z v:=e▸h
end L3
namespace L3
open PySem PySem.W PyProof.Rows
theorem aKj{p q:J9}{loose:List Str}{Xt:J7->Bool}{α:Type}{Yf:J7->α}{Ya:World->α}{N:Nat}{g0:Bool}{H₀:Params->Heap}{gs₀:Array GenState}{d₀:Drawn}{k₀ m₀:Nat}{ann:Option Value}{M:Nat}
   (open_:∀w:World,(fencedOpening treeTable p w N).map (λs=>(s.heap,s.gens,s.drawn,s.toks))=some (H₀ w.params,gs₀,d₀,k₀))
   (size:∀w:World,((H₀ w.params).isNs mainGlobals&&gs₀.size==0,(H₀ w.params).objs.size,(H₀ w.params).nsMap mainGlobals "__annotations__")=(true,m₀,ann)) (le:Nat.ble M N=true)
   (run:∀(w:World) (os:OsState),∃s₁,topRun treeTable p w m₀ ann M ⟨H₀ w.params,gs₀,d₀,k₀,os⟩ (topStub p)=some s₁/\
     (staticsOk (importedModules p.main.body) (H₀ w.params) s₁.heap&&namesBound p s₁.heap&&gensDone s₁&&laidKept (H₀ w.params) s₁.heap,openSeen q loose (importedModules p.main.body) Xt g0 s₁,Yf s₁)=(true,openGood q loose,Ya w)):LeftO p q loose Xt Yf Ya N g0:=λw=>by
 obtain⟨⟨h,gs,d,k,os⟩,e,e'⟩:=Option.map_eq_some_iff.mp (open_ w);obtain⟨rfl,rfl,rfl,rfl⟩:h=H₀ w.params/\gs=gs₀/\d=d₀/\k=k₀:=by simpa using e'
 obtain⟨z1,z2,z3⟩:_/\_/\_:=by simpa only [Prod.mk.injEq] using size w
 obtain⟨s₁,r,l⟩:=run w os;obtain⟨l1,l2,l3⟩:_/\_/\_:=by simpa only [Prod.mk.injEq] using l
 have r:=topRun_mono (N-M) _ _ _ _ r;rw[show M+(N-M)=N by have:=Nat.le_of_ble_eq_true le;omega] at r;have t:topFrom treeTable p w N ⟨H₀ w.params,gs,d,k,os⟩=some s₁:=by
   unfold topFrom;dsimp only;rw[z1,z2,z3,r];show(match staticsOk (importedModules p.main.body) (H₀ w.params) s₁.heap&&namesBound p s₁.heap&&gensDone s₁&&laidKept (H₀ w.params) s₁.heap with|true=>_|false=>_)=_;rw[l1]
 unfold openEnds;rw[e];show(topFrom treeTable p w N _).map _=_;rw[t];exact congrArg some (Prod.ext l2 l3)
noncomputable def aKa(o:Option (J7×Thread))(s:J7):J7:=match o with|some x=>x.1|none=>s
noncomputable def aJq(o:Option (Flow×J7×Code×Pos))(s:J7):J7:=match o with|some x=>x.2.1|none=>s
end L3
namespace L3
open PySem PySem.Spec
open PyProof.Rows hiding St
open L2
local macro_rules|`(%[$x|_])=>`(CE.cons $x CE.nil)|`(%[$x,$y,*|_])=>`(CE.cons $x %[$y,*|_])
section
variable{G:Gh}{Q:PK1}{x y:PV}{i j:Int}{s:Str}{b c:Bool}{a:Addr}
theorem fN:pI C g (.int i) (.int j) G Q=(C i j/\Q (g i j) G):=rfl
theorem bD:xR .Add=FZ:=rfl
theorem jB:xR .Sub=pI (λ_ _=>True) λi j=>.int (i-j):=rfl
theorem fH:xR .Mult (.int i) (.int j) G Q=(oZ i j/\Q (.int (i*j)) G):=rfl
theorem iN:xR .FloorDiv=pI sO λi j=>.int (i/j):=rfl
theorem uX:xR .Mod=pI aC3 λi j=>.int (i%j):=rfl
theorem XW:xR .Pow=pI NO λi j=>.int (i^j.toNat):=rfl
theorem bR:FZ (.int i) (.int j) G Q=Q (.int (i+j)) G:=rfl
theorem jC:FZ (.str s) (.str t) G Q=(s.length+t.length<=sizeLine/\Q (.str (s++t)) G):=rfl
theorem aJ9:FZ (.tup xs) (.tup ys) G Q=(xs.length+ys.length<=sizeLine/\Q (.tup (xs++ys)) G):=rfl
theorem mO:lA .Lt=pI (λ_ _=>True) λi j=>.bl (decide (i<j)):=rfl
theorem BI:lA .LtE=pI (λ_ _=>True) λi j=>.bl (decide (i<=j)):=rfl
theorem yZ:lA .Gt=pI (λ_ _=>True) λi j=>.bl (decide (j<i)):=rfl
theorem zX:lA .GtE=pI (λ_ _=>True) λi j=>.bl (decide (j<=i)):=rfl
theorem cD:lA .Eq=pEq false:=rfl
theorem mJ:lA .NotEq=pEq true:=rfl
theorem AJ:lA .Is=pIs false:=rfl
theorem TN:lA .IsNot=pIs true:=rfl
theorem cL:pEq false (.int i) (.int j) G Q=Q (.bl (decide (i=j))) G:=by
 show(true=true/\true=true/\Q (.bl (i==j)) G)=_;simp only[true_and];congr 2
theorem lP:pEq true (.int i) (.int j) G Q=Q (.bl (!decide (i=j))) G:=by
 show(true=true/\true=true/\Q (.bl (!(i==j))) G)=_;simp only[true_and];congr 2
theorem aV:rL (.bl b) G R=R b G:=rfl
theorem WV:rL .non G R=R false G:=rfl
theorem WF:rL (.tup xs) G R=R (!xs.isEmpty) G:=rfl
theorem uW:aBR (.int i) G Q=Q (.int (-i)) G:=rfl
theorem CF:pIs false .non .non G Q=Q (.bl true) G:=propext ⟨λh=>h.elim (λz=>z.2) (λz=>absurd rfl z.1),λh=>.inl ⟨rfl,h⟩⟩
theorem ZC:pIs true .non .non G Q=Q (.bl false) G:=propext ⟨λh=>h.elim (λz=>z.2) (λz=>absurd rfl z.1),λh=>.inl ⟨rfl,h⟩⟩
theorem MY(h:x≠.non):pIs false x .non G Q=Q (.bl false) G:=propext ⟨λz=>z.elim (λz=>absurd z.1 h) (λz=>z.2),λq=>.inr ⟨h,q⟩⟩
theorem aAx:pIs false (.bl c) (.bl b) G Q=Q (.bl (c==b)) G:=propext ⟨by rintro⟨_,e,q⟩;cases e;exact q,λq=>⟨_,rfl,q⟩⟩
theorem gC:mU (.tup xs) (.int i) G Q=(∃v,atI xs i=some v/\Q v G):=rfl
theorem VI:mU (.scr ns) (.int i) G Q=(∃n,atI ns i=some n/\Q (.int n) G):=rfl
theorem cA:mU (.lst xs) (.int i) G Q=(∃v,atI xs i=some v/\Q v G):=by
 show(∃ys v,some xs=some ys/\_)=_;exact propext ⟨by rintro⟨_,v,e1,h⟩;cases e1;exact⟨v,h⟩,by rintro⟨v,h⟩;exact⟨_,v,rfl,h⟩⟩
theorem eG(h:G a=some (.lst xs)):aX G (.ref a)=some xs:=by unfold aX;dsimp only;rw[h]
theorem yM:aX G (.lst xs)=some xs:=rfl
theorem dI:aX (gup G a (.lst xs)) (.ref a)=some xs:=eG aD
theorem pK(h:G a=some (.lst xs)):mU (.ref a) (.int i) G Q=(∃v,atI xs i=some v/\Q v G):=by
 show(∃ys v,aX G (.ref a)=some ys/\_)=_;rw[eG h];exact propext ⟨by rintro⟨_,v,e1,h⟩;cases e1;exact⟨v,h⟩,by rintro⟨v,h⟩;exact⟨_,v,rfl,h⟩⟩
theorem DE:mU (.ref a) (.int i) (gup G a (.lst xs)) Q=(∃v,atI xs i=some v/\Q v (gup G a (.lst xs))):=pK aD
theorem CM(h:G a=some (.lst xs)):aBC (.ref a) (.int i) v G R=(∃j,ixN xs.length i=some j/\R (gup G a (.lst (xs.set j v)))):=propext
 ⟨by rintro⟨_,_,_,j,e1,e2,e3,e4,r⟩;cases e1;cases e2;rw[h] at e3;cases e3;exact⟨j,e4,r⟩,by rintro⟨j,e4,r⟩;exact⟨_,_,_,j,rfl,rfl,h,e4,r⟩⟩
theorem VH:aBC (.ref a) (.int i) v (gup G a (.lst xs)) R=(∃j,ixN xs.length i=some j/\R (gup G a (.lst (xs.set j v)))):=by
 rw[CM aD];simp only[cS]
variable{cs:List J8}
theorem pS:cT cs .len [.tup xs] G Q=Q (.int xs.length) G:=by
 refine propext ⟨λh=>?_,λq=>.inl ⟨_,rfl,q⟩⟩;rcases h with ⟨ys,e,q⟩|⟨ys,e,q⟩|⟨z,e,_⟩|⟨ys,e,q⟩
 . cases e;exact q
 . cases e
 . cases e
 . cases e
theorem BY:cT cs .len [.scr xs] G Q=Q (.int xs.length) G:=by
 refine propext ⟨λh=>?_,λq=>.inr (.inl ⟨_,rfl,q⟩)⟩;rcases h with ⟨ys,e,q⟩|⟨ys,e,q⟩|⟨z,e,_⟩|⟨ys,e,q⟩
 . cases e
 . cases e;exact q
 . cases e
 . cases e
theorem XV:cT cs .len [.lst xs] G Q=Q (.int xs.length) G:=by
 refine propext ⟨λh=>?_,λq=>.inr (.inr (.inr ⟨_,rfl,q⟩))⟩;rcases h with ⟨ys,e,q⟩|⟨ys,e,q⟩|⟨z,e,_⟩|⟨ys,e,q⟩
 . cases e
 . cases e
 . cases e
 . cases e;exact q
theorem DB:cT cs .abs [.int i] G Q=Q (.int (i.natAbs:Int)) G:=rfl
theorem rC:cT cs .max [.int i,.int j] G Q=Q (.int (max i j)) G:=rfl
theorem VU:cT cs .min [.int i,.int j] G Q=Q (.int (min i j)) G:=rfl
theorem aIH:cT cs .int [.int i] G Q=Q (.int i) G:=rfl
theorem mK:cT cs .int [.bl b] G Q=Q (.int (if b then 1 else 0)) G:=rfl
theorem uK(h:nX x G=some n):cT cs .isi [x,.ty T] G Q=(T∈mS/\Q (.bl (tQ n T)) G):=propext
 ⟨by rintro⟨hT,h'⟩;exact⟨hT,by
   rcases h' with ⟨m,e,q⟩|⟨c,e,_,q⟩
   . rw[h] at e;cases e;exact q
   . exfalso;cases x<;>first|(cases e;done)|skip
     . cases h
     . unfold nX at h;unfold PL at e;dsimp only at h e;split at h
       . rename_i q;rw[q] at e;cases e
       . cases h⟩,by rintro⟨hT,q⟩;exact⟨hT,.inl ⟨n,h,q⟩⟩⟩
theorem aIP:nX (.int i) G=some "int":=rfl
theorem aKV:nX (.bl b) G=some "bool":=rfl
theorem aIa:nX (.str s) G=some "str":=rfl
theorem aIh:nX .non G=some "NoneType":=rfl
theorem aJp:nX (.tup xs) G=some "tuple":=rfl
theorem aJa:nX (.lst xs) G=some "list":=rfl
theorem UU:cT cs .isi [.int i,.ty T] G Q=(T∈mS/\Q (.bl (tQ "int" T)) G):=uK rfl
theorem CA:cT cs .isi [.tup xs,.ty T] G Q=(T∈mS/\Q (.bl (tQ "tuple" T)) G):=uK rfl
theorem aAq:cT cs .isi [.bl b,.ty T] G Q=(T∈mS/\Q (.bl (tQ "bool" T)) G):=uK rfl
theorem BM{c:J8}:cT cs .isi [.ob c ns xs,.cl c] G Q=(c∈cs/\Q (.bl true) G):=propext
 ⟨by rintro⟨hc,h'⟩;exact⟨hc,by
   rcases h' with ⟨m,e,q⟩|⟨c',e,_,q⟩
   . cases e
   . cases e;rw[decide_eq_true rfl] at q;exact q⟩,by rintro⟨hc,q⟩;exact⟨hc,.inr ⟨c,rfl,hc,by rw[decide_eq_true rfl];exact q⟩⟩⟩
theorem lR:cT cs .tuple [.lst xs] G Q=Q (.tup xs) G:=propext
 ⟨λh=>by
   rcases h with ⟨ys,e,q⟩|⟨ys,e,q⟩
   . cases e
   . cases e;exact q,λq=>.inr ⟨_,rfl,q⟩⟩
theorem RY(h:G a=some (.lst xs)):cT cs .tuple [.ref a] G Q=Q (.tup xs) G:=propext
 ⟨λh'=>by
   rcases h' with ⟨ys,e,q⟩|⟨ys,e,q⟩
   . cases e
   . rw[eG h] at e;cases e;exact q,λq=>.inr ⟨_,eG h,q⟩⟩
theorem DG:cT cs .tuple [.ref a] (gup G a (.lst xs)) Q=Q (.tup xs) (gup G a (.lst xs)):=RY aD
theorem jK:cT cs .all [.lst xs] G Q=(∃b,zJ xs=some b/\Q (.bl b) G):=propext
 ⟨by rintro⟨_,b,e,eb,q⟩;cases e;exact⟨b,eb,q⟩,by rintro⟨b,eb,q⟩;exact⟨_,b,rfl,eb,q⟩⟩
theorem lI:nM true G xs Q= ∀p,G p=none->Q (.ref p) (gup G p (.lst xs)):=rfl
theorem cO:nM false G xs Q=Q (.lst xs) G:=rfl
theorem iY:aAo (.tup xs) G R=R (λ_=>True) xs G:=rfl
theorem gE:aAo (.lst xs) G R=R (λ_=>True) xs G:=rfl
theorem aJF:aAo (.scr xs) G R=R (λ_=>True) (xs.map .int) G:=rfl
theorem MF{α:Type}{v:α}{R:α->Prop}:(∃c,some v=some c/\R c)=R v:=propext ⟨by rintro⟨_,e,r⟩;cases e;exact r,λr=>⟨v,rfl,r⟩⟩
end
theorem at0{α:Type}{x:α}{xs:List α}:atI (x::xs) 0=some x:=cF (xs:=x::xs) (j:=0) rfl
theorem at1{α:Type}{x y:α}{xs:List α}:atI (x::y::xs) 1=some y:=cF (xs:=x::y::xs) (j:=1) rfl
theorem at2{α:Type}{x y z:α}{xs:List α}:atI (x::y::z::xs) 2=some z:=cF (xs:=x::y::z::xs) (j:=2) rfl
theorem at3{α:Type}{x y z u:α}{xs:List α}:atI (x::y::z::u::xs) 3=some u:=cF (xs:=x::y::z::u::xs) (j:=3) rfl
theorem at4{α:Type}{x y z u v:α}{xs:List α}:atI (x::y::z::u::v::xs) 4=some v:=cF (xs:=x::y::z::u::v::xs) (j:=4) rfl
theorem aKW:(aH Q).rt=Wk Q:=rfl
theorem aKU:(aH Q).nx σ G=Wk Q .non G:=rfl
theorem aC:("int"∈mS)=True/\("bool"∈mS)=True/\("tuple"∈mS)=True/\("str"∈mS)=True/\("list"∈mS)=True:=⟨eq_true ddq,eq_true ddq,eq_true ddq,eq_true ddq,eq_true ddq⟩
theorem aHz:tQ "int" "int"=true:=by decide
theorem aHI:tQ "int" "bool"=false:=by decide
theorem HJ:tQ "tuple" "tuple"=true:=by decide
theorem aGs:tQ "bool" "bool"=true:=by decide
theorem sz2:(2:Nat)<=sizeLine:=by decide
theorem sz1:(1:Nat)<=sizeLine:=by decide
theorem sz3:(3:Nat)<=sizeLine:=by decide
theorem szN(h:n<=1000):n<=sizeLine:=Nat.le_trans h ddq
structure Hd(p:Prop):Prop where
 o:p
theorem cH(P:∀N:PSt->Gh->Prop,Hd (∀σ' G',wpS T b D σ' G'->N σ' G')->wpS T a {D with nx:=N} σ G):wpS T (.seq a b) D σ G:=P _ ⟨λ_ _ h=>h⟩
theorem LW(h:σ[i]? =some (some v)):rZ i σ k=k v:=propext ⟨λz=>by obtain⟨u,e,q⟩:=pH.mp z;rw[h] at e;cases e;exact q,λq=>pH.mpr ⟨v,h,q⟩⟩
noncomputable def FQ(q:Rat):PV:=.tup [.int q.num,.int (q.den:Int)]
def dY:Sp3:=λxs G Q=>∃i,xs=[.int i]/\Q (.bl true) G
def oY:Sp3:=λxs G Q=>∃i j:Int,xs=[.int i,.int j]/\0<=i/\0<=j/\Q (.int (Int.gcd i j)) G
def lG:Sp3:=λxs G Q=>∃q,xs=[FQ q]/\Q (.bl true) G
def bJ:Sp3:=λxs G Q=>∃t b:Int,xs=[.int t,.int b]/\b≠0/\Sm 9000 b/\Q (FQ (Rat.divInt t b)) G
def Bd(n:Nat)(q:Rat):Prop:=Sm n q.num/\Sm n (q.den:Int)
theorem Bd.mono{n m:Nat}{q:Rat}(h:Bd n q)(e:n<=m):Bd m q:=⟨h.1.mono e,h.2.mono e⟩
theorem YH{t b:Int}(hb:b≠0):0<b.gcd t:=Int.gcd_pos_of_ne_zero_left _ hb
theorem Bd.divInt(ht:Sm n t)(hb:Sm n b)(h0:b≠0):Bd n (Rat.divInt t b):=by
 have gp:(0:Int)<(b.gcd t:Int):=by have:=YH (t:=t) h0;omega
 constructor
 . rw[Rat.num_divInt];have e:Sm n (b.sign*t):=by
     rcases Int.lt_trichotomy b 0 with z|z|z
     . rw[Int.sign_eq_neg_one_of_neg z,Int.neg_one_mul];exact ht.neg
     . exact absurd z h0
     . rw[Int.sign_eq_one_of_pos z,Int.one_mul];exact ht
   exact e.div gp
 . rw[Rat.den_divInt,jb h0];have e:Sm n ((b.natAbs:Int)):=by unfold Sm at *;omega
   have:=e.div gp;rw[Int.natCast_ediv];exact this
theorem HI(hb:0<b):FQ (Rat.divInt t b)= .tup [.int (t/(Int.gcd t b:Int)),.int (b/(Int.gcd t b:Int))]:=by
 unfold FQ;rw[Rat.num_divInt,Rat.den_divInt,jb ooq,Int.sign_eq_one_of_pos hb,Int.one_mul,Int.gcd_comm,Int.natCast_ediv];have:(b.natAbs:Int)=b:=by omega
 rw[this]
theorem aDl(a b:Rat):Rat.divInt (a.num*(b.den:Int)+b.num*(a.den:Int)) ((a.den:Int)*(b.den:Int))=a+b:=by
 rw[Rat.add_def',<-Rat.divInt_ofNat,Int.natCast_mul]
theorem EY(a b:Rat):Rat.divInt (a.num*(b.den:Int)-b.num*(a.den:Int)) ((a.den:Int)*(b.den:Int))=a-b:=by
 rw[Rat.sub_def',<-Rat.divInt_ofNat,Int.natCast_mul]
theorem aD6(a b:Rat):Rat.divInt (a.num*b.num) ((a.den:Int)*(b.den:Int))=a*b:=by
 rw[Rat.mul_def',<-Rat.divInt_ofNat,Int.natCast_mul]
theorem UC(a b:Rat):Rat.divInt (a.num*(b.den:Int)) ((a.den:Int)*b.num)=a/b:=by
 rw[Rat.div_def,Rat.inv_def];conv=>rhs;rw[<-Rat.num_divInt_den a]
 rw[Rat.divInt_mul_divInt]
theorem aZ{q:Rat}:(q.den:Int)≠0:=by have:=q.den_pos;omega
theorem QX{q:Rat}:(0:Int)<q.den:=by have:=q.den_pos;omega
theorem bW{a b:Int}(ha:a≠0)(hb:b≠0):a*b≠0:=Int.mul_ne_zero ha hb
theorem Bd.add(ha:Bd n a)(hb:Bd m b)(e:n+m+1<=l):Bd l (a+b):=by
 rw[<-aDl];refine Bd.divInt ?_ ?_ (bW aZ aZ)
 . exact((ha.1.mul hb.2)).add ((hb.1.mul ha.2).mono ooq) e
 . exact(ha.2.mul hb.2).mono ooq
theorem Bd.sub(ha:Bd n a)(hb:Bd m b)(e:n+m+1<=l):Bd l (a-b):=by
 rw[<-EY];refine Bd.divInt ?_ ?_ (bW aZ aZ)
 . exact((ha.1.mul hb.2)).sub ((hb.1.mul ha.2).mono ooq) e
 . exact(ha.2.mul hb.2).mono ooq
theorem Bd.mul(ha:Bd n a)(hb:Bd m b)(e:n+m<=l):Bd l (a*b):=by
 rw[<-aD6];exact Bd.divInt ((ha.1.mul hb.1).mono e) ((ha.2.mul hb.2).mono e) (bW aZ aZ)
theorem Bd.dv(ha:Bd n a)(hb:Bd m b)(h0:b≠0)(e:n+m<=l):Bd l (a/b):=by
 rw[<-UC];exact Bd.divInt ((ha.1.mul hb.2).mono e) ((ha.2.mul hb.1).mono e) (bW aZ (λz=>h0 (Rat.num_eq_zero.mp z)))
theorem Bd.int(h:Sm n i)(e:1<=n):Bd n (i:Rat):=⟨h,by
 show Sm n ((1:Nat):Int);unfold Sm;have:2^1<=2^n:=Nat.pow_le_pow_right ddq e;show 1<2^n;omega⟩
theorem lL:PV.tup [.int i,.int 1]=FQ (i:Rat):=rfl
theorem smK(a: -1000000000000<=x)(b:x<1000000000000)(e:41<=n):Sm n x:=by
 have:Sm 41 x:=by unfold Sm;omega
 exact this.mono e
def uM:Sp3:=λxs G Q=>∃qs:List Rat,xs=[.tup (qs.map FQ)]/\qs.length<=2/\Q .non G
def oG:Sp3:=λxs G Q=>∃a b,xs=[FQ a,FQ b]/\Bd 4000 a/\Bd 4000 b/\Q (FQ (a+b)) G
def jS:Sp3:=λxs G Q=>∃a b,xs=[FQ a,FQ b]/\Bd 4000 a/\Bd 4000 b/\Q (FQ (a-b)) G
def fA:Sp3:=λxs G Q=>∃a b,xs=[FQ a,FQ b]/\Bd 4000 a/\Bd 4000 b/\Q (FQ (a*b)) G
def lU:Sp3:=λxs G Q=>∃a b,xs=[FQ a,FQ b]/\Bd 4000 a/\Bd 4000 b/\b≠0/\Q (FQ (a/b)) G
def dE:Sp3:=λxs G Q=>∃a b,xs=[FQ a,FQ b]/\Bd 4000 a/\Bd 4000 b/\Q (.bl (decide (a<b))) G
noncomputable def nw(q:Rat):Int:=(2*q.num+(q.den:Int))/(2*(q.den:Int))
def GF:Sp3:=λxs G Q=>∃a,xs=[FQ a]/\Bd 8900 a/\Q (.int (nw a)) G
def mE:Sp3:=λxs G Q=>∃a,xs=[FQ a]/\0<=a/\a<=1/\Q (.bl true) G
noncomputable def SH(a b c:Rat):PV:=.ob "Shade" ["ember","leaf","sky"] [FQ a,FQ b,FQ c]
def In1(a:Rat):Prop:=0<=a/\a<=1
def oX:Sp3:=λxs G Q=>∃a b c,xs=[FQ a,FQ b,FQ c]/\In1 a/\In1 b/\In1 c/\Q (SH a b c) G
def uT:Sp3:=λxs G Q=>∃p a b c,xs=[.ref p,FQ a,FQ b,FQ c]/\G p=some (.ins "Shade" [] [])/\In1 a/\In1 b/\In1 c/\Q .non (gup G p (.ins "Shade" ["ember","leaf","sky"] [FQ a,FQ b,FQ c]))
def mF:Sp3:=λxs G Q=>∃a b c,xs=[SH a b c]/\Q (.bl true) G
def mN:Sp3:=λxs G Q=>∃a b c,xs=[SH a b c]/\Q .non G
def cI:Sp3:=λxs G Q=>∃a b c,xs=[SH a b c]/\Q (.tup [FQ a,FQ b,FQ c]) G
def mH:Sp3:=λxs G Q=>∃x a b c,xs=[x]/\aX G x=some [FQ a,FQ b,FQ c]/\In1 a/\In1 b/\In1 c/\Q (SH a b c) G
def vD:Sp3:=λxs G Q=>∃g:Int,xs=[.int g]/\1<=g/\g<=1000/\Q .non G
def II:Sp3:=λxs G Q=>∃g:Int,xs=[.int g]/\1<=g/\g<=1000/\Q (.bl true) G
def wI:Sp3:=λxs G Q=>∃s g:Int,xs=[.int s,.int g]/\0<=s/\s<=g/\Q (.bl true) G
def nP:Sp3:=λxs G Q=>∃s g:Int,xs=[.int s,.int g]/\0<=s/\s<=g/\Q .non G
noncomputable def stp(a:Rat)(g:Int):PV:=.int (nw (a*(g:Rat)))
def yD:Sp3:=λxs G Q=>∃a b c g,xs=[SH a b c,.int g]/\1<=g/\g<=1000/\Bd 3000 a/\Bd 3000 b/\Bd 3000 c/\Q (.tup [stp a g,stp b g,stp c g]) G
noncomputable def aGz(s g:Int):Rat:=Rat.divInt (max (2*s-1) 0) (2*g)
noncomputable def aHB(s g:Int):Rat:=if s=g then 1 else Rat.divInt (2*s+1) (2*g)
def QW:Sp3:=λxs G Q=>∃s g:Int,xs=[.int s,.int g]/\1<=g/\g<=1000/\0<=s/\s<=g/\Q (.tup [FQ (aGz s g),FQ (aHB s g),.bl (decide (s=g))]) G
structure PT(T:Tb):Prop where
 is_whole:T.S "is_whole"=dY
 common:T.S "common"=oY
 is_fraction:T.S "is_fraction"=lG
 lowest:T.S "lowest"=bJ
 need_fractions:T.S "need_fractions"=uM
 plus:T.S "plus"=oG
 minus:T.S "minus"=jS
 times:T.S "times"=fA
 over:T.S "over"=lU
 below:T.S "below"=dE
 nearest_whole:T.S "nearest_whole"=GF
 is_share:T.S "is_share"=mE
 shade:T.S "Shade"=oX
 shadeI:T.S "Shade.__init__"=uT
 is_shade:T.S "is_shade"=mF
 need_shade:T.S "need_shade"=mN
 shares_of:T.S "shares_of"=cI
 shade_of:T.S "shade_of"=mH
 is_grade:T.S "is_grade"=II
 need_grade:T.S "need_grade"=vD
 is_step:T.S "is_step"=wI
 need_step:T.S "need_step"=nP
 printed:T.S "printed"=yD
 span_of:T.S "span_of"=QW
 gv_ONE:T.gv "ONE"=FQ 1
 gv_ZERO:T.gv "ZERO"=FQ 0
 gv_MOST_GRADE:T.gv "MOST_GRADE"= .int 1000
 gv_Shade:T.gv "Shade"= .cl "Shade"
 cs: "Shade"∈T.cs
 fl_e:("Shade",("ember":Str))∈T.fl
 fl_l:("Shade",("leaf":Str))∈T.fl
 fl_s:("Shade",("sky":Str))∈T.fl
 ty_int:T.gv "int"= .ty "int"
 ty_bool:T.gv "bool"= .ty "bool"
 ty_tuple:T.gv "tuple"= .ty "tuple"
theorem wF:mU (FQ q) (.int 0) G Q=Q (.int q.num) G:=by unfold FQ;rw[gC,at0,MF]
theorem zZ:mU (FQ q) (.int 1) G Q=Q (.int q.den) G:=by unfold FQ;rw[gC,at1,MF]
theorem iI:(FQ a=FQ b)=(a=b):=propext ⟨λh=>by
 unfold FQ at h;injection h with h;injection h with h1 h;injection h with h2 _;injection h1 with h1;injection h2 with h2;exact Rat.ext h1 ooq,λh=>by rw[h]⟩
theorem aGG{q:Rat}:(1:Int)<=q.den:=by have:=q.den_pos;omega
theorem aFp{q:Rat}:Int.gcd (q.num.natAbs:Int) (q.den:Int)=1:=q.reduced
theorem QV:uM [.tup [FQ a,FQ b]] G Q=Q .non G:=propext ⟨by rintro⟨_,e,_,q⟩;exact q,λq=>⟨[a,b],rfl,by show 2<=2;decide,q⟩⟩
theorem WN:sE chk g tb D [] σ G=(chk G/\D.nx σ G):=rfl
theorem yW:sE chk g tb D (x::r) σ G=(chk G/\g x σ G λσ2 G2=>tb {D with nx:=sE chk g tb D r,ct:=sE chk g tb D r,bk:=D.nx} σ2 G2):=rfl
theorem eI:fM chk g ts te [] acc σ G Q=(chk G/\Q acc G):=rfl
theorem dB:fM chk g ts te (x::r) acc σ G Q=(chk G/\g x σ G λσ2 G2=>ts σ2 G2 λok G3=>if ok=true then te σ2 G3 λy G4=>fM chk g ts te r (acc++[y]) σ2 G4 Q else fM chk g ts te r acc σ2 G3 Q):=rfl
theorem aIQ:CN [a]=[.tup [.int 0,a]]:=rfl
theorem aJU:CN [a,b]=[.tup [.int 0,a],.tup [.int 1,b]]:=rfl
theorem aKv:CN [a,b,c]=[.tup [.int 0,a],.tup [.int 1,b],.tup [.int 2,c]]:=rfl
theorem aMN:mY 0 (3:Int).toNat=[.int 0,.int 1,.int 2]:=rfl
theorem zB:mY 0 3=[.int 0,.int 1,.int 2]:=rfl
theorem sA:(SH a b c=SH a' b' c')=(a=a'/\b=b'/\c=c'):=propext ⟨λh=>by
 unfold SH at h;injection h with _ _ h;injection h with h1 h;injection h with h2 h;injection h with h3 _;rw[iI] at h1 h2 h3;exact⟨h1,h2,h3⟩,by rintro⟨h1,h2,h3⟩;rw[h1,h2,h3]⟩
def mW0:=aC.1
def mW1:=aC.2.1
def mW2:=aC.2.2.1
def wk(s:J8):Lean.MacroM Lean.Syntax:=do
 let n<-(s.splitOn " ").filterMapM λx=>do if (<-Lean.Macro.resolveGlobalName x.toName).isEmpty then pure none else pure (some x.toName)
 let l<-n.mapM λx=>`(Lean.Parser.Tactic.simpLemma| $(Lean.mkIdent x):term)
 return (←`(tactic| simp only[$(l.toArray),*, *])).raw
def wqB:="wpS bN bU cZ cQ lN eF bV cG wpL wpT wpO wpI wpG dM aH aB List.length_cons List.length_nil List.cons_append List.nil_append List.append_nil List.replicate Nat.reduceAdd Nat.reduceSub Nat.zero_add bO bP List.set_cons_zero List.set_cons_succ Option.some.injEq exists_eq_left' true_and and_true ite_self fN cD cL aV mW0 mW1 mW2 List.cons.injEq PV.int.injEq PV.bl.injEq PV.str.injEq PV.ref.injEq PV.tup.injEq and_assoc exists_and_left eq_self List.map Bool.not_true Bool.not_false Bool.and_self Bool.and_true Bool.true_and if_true if_false ite_true ite_false Bool.false_eq_true decide_eq_true_eq decide_true decide_false reduceCtorEq Wk.here cW cE bD bR cO wF kR sz3 eD or_false Int.reduceToNat Int.reducePow"
local macro_rules | `(tactic| walk_at "rd") => wk (wqB++" pG gF JN UG iN uX mO zX mJ lP uW pS DB UU CA aHz aHI HJ aJ8 aHV dY oY sz2")
section
variable{T:Tb}
noncomputable def iD:CS:=.ret (.an (.blt .isi %[.var 0,.glo "int"|_]) (.no (.blt .isi %[.var 0,.glo "bool"|_])))
theorem vM(h:PT T):∀xs G Q,dY xs G Q->wpS T iD (aH Q) (aB 1 xs) G:=by
 rintro xs G Q ⟨i,rfl,q⟩;unfold iD;have:=h.ty_int;have:=h.ty_bool;walk_at "rd"
theorem CO(hx:0<=x)(hy:0<y):Int.gcd y (x%y)=Int.gcd x y:=by
 rw[Int.gcd_comm x y];show y.natAbs.gcd (x%y).natAbs=y.natAbs.gcd x.natAbs;have e:(x%y).natAbs=x.natAbs%y.natAbs:=by rw[Int.natAbs_emod_of_nonneg hx]
 rw[e,Nat.gcd_rec y.natAbs x.natAbs,Nat.gcd_comm]
noncomputable def tP:CS:=.seq (.wh (.tsb (.cmp .NotEq (.var 1) (.int 0))) (.par 0 1 (.var 1) (.bin .Mod (.var 0) (.var 1)))) (.ret (.var 0))
theorem WQ(h:PT T):∀xs G Q,oY xs G Q->wpS T tP (aH Q) (aB 2 xs) G:=by
 rintro xs G Q ⟨i,j,rfl,hi,hj,q⟩;unfold tP;walk_at "rd"
 refine⟨λm σ H=>∃x y,σ=[some (.int x),some (.int y)]/\H=G/\0<=x/\0<=y/\Int.gcd x y=Int.gcd i j/\m=y.toNat,⟨_,i,j,rfl,rfl,hi,hj,rfl,rfl⟩,?_⟩;rintro m σ H ⟨x,y,rfl,rfl,hx,hy,hg,rfl⟩;walk_at "rd"
 split
 . rename_i hy0;have hy0:y≠0:=by simpa using hy0
   have h2:=Int.emod_lt_of_pos x (show 0<y by omega);have h3:=Int.emod_nonneg x (show y≠0 by omega);exact⟨by show 0<y;omega,(x%y).toNat,by omega,h3,(CO hx ooq).trans hg,rfl⟩
 . rename_i hy0;have e:y=0:=by simpa using hy0
   subst e;have g:((Int.gcd x 0:Nat):Int)=x:=by rw[Int.gcd_zero_right];omega
   refine Wk.here ?_;rw[<-g,hg];exact q
noncomputable def iZ:CS:=.seq (.iff (.oo (.no (.tst (.blt .isi %[.var 0,.glo "tuple"|_]))) (.tsb (.cmp .NotEq (.blt .len %[.var 0|_]) (.int 2)))) (.ret (.bl false)) .nil) (.seq (.asg (.gt 2 %[.gn 1,.gn 2|_]) (.var 0)) (.ret (.an (.cal "is_whole" %[.var 1|_]) (.an (.cal "is_whole" %[.var 2|_]) (.an (.cmp .GtE (.var 2) (.int 1)) (.cmp .Eq (.cal "common" %[.blt .abs %[.var 1|_],.var 2|_]) (.int 1)))))))
theorem xG(h:PT T):∀xs G Q,lG xs G Q->wpS T iZ (aH Q) (aB 3 xs) G:=by
 rintro xs G Q ⟨q,rfl,hq⟩;unfold iZ;have:=h.ty_tuple;have:=h.is_whole;have:=h.common;have h1:=aGG (q:=q);have h2:=aFp (q:=q);unfold FQ;refine cH λN hN=>?_;walk_at "rd"
 refine hN.o _ _ ?_;clear hN N;refine cH λN hN=>?_;walk_at "rd"
 refine hN.o _ _ ?_;clear hN N;walk_at "rd"
 exact⟨by omega,by omega⟩
noncomputable def sX:CS:=.seq (.iff (.tsb (.cmp .Lt (.var 1) (.int 0))) (.par 0 1 (.neg (.var 0)) (.neg (.var 1))) .nil) (.seq (.asg (.gn 2) (.cal "common" %[.blt .abs %[.var 0|_],.var 1|_])) (.ret (.tup %[.bin .FloorDiv (.var 0) (.var 2),.bin .FloorDiv (.var 1) (.var 2)|_])))
theorem AZ(t b:Int):Int.gcd (t.natAbs:Int) b=Int.gcd t b:=by show(t.natAbs:Int).natAbs.gcd _=_;rw[Int.natAbs_natCast];rfl
theorem BJ(hb:0<b)(sb:Sm 9000 b):sO t (Int.gcd t b:Int)/\sO b (Int.gcd t b:Int):=by
 have gp:(0:Int)<(Int.gcd t b:Int):=by have:=Int.gcd_pos_of_ne_zero_right t (show b≠0 by omega);omega
 have gl:(Int.gcd t b:Int)<=b:=Int.le_of_dvd hb (Int.gcd_dvd_right _ _);have sg:Sm 9000 (Int.gcd t b:Int):=sb.le ooq gl;exact⟨uB gp sg,uB gp sg⟩
theorem TX(h:PT T):∀xs G Q,bJ xs G Q->wpS T sX (aH Q) (aB 3 xs) G:=by
 rintro xs G Q ⟨t,b,rfl,h0,sb,hq⟩;unfold sX;have:=h.common;walk_at "rd"
 split
 . rename_i hb;obtain⟨d1,d2⟩:=BJ (t:= -t) (b:= -b) ooq sb.neg;simp only[AZ];refine⟨by omega,by omega,d1,d2,Wk.here ?_⟩;rw[<-HI ooq,Rat.neg_divInt_neg];exact hq
 . rename_i hb;obtain⟨d1,d2⟩:=BJ (t:=t) (b:=b) ooq sb;simp only[AZ];refine⟨by omega,by omega,d1,d2,Wk.here ?_⟩;rw[<-HI ooq];exact hq
end
local macro_rules | `(tactic| walk_at "rd") => wk (wqB++" pG gF zR rM List.map_cons List.map_nil List.getElem?_cons_zero List.getElem?_cons_succ jB fH iN BI rC lR iY zZ iI dY lG bJ QV exists_eq' WN yW eI dB aIQ aJU aKv sA Option.getD_some fA GF mE mF mN cI vD II wI nP sz1 sz2")
section
variable{T:Tb}
noncomputable def fR:CS:=.fr (.gt 2 %[.gn 1,.gn 2|_]) (.ien (.var 0)) (.iff (.no (.tst (.cal "is_fraction" %[.var 2|_]))) .nev .nil)
theorem rT(h:PT T):∀xs G Q,uM xs G Q->wpS T fR (aH Q) (aB 3 xs) G:=by
 rintro xs G Q ⟨qs,rfl,hl,hq⟩;unfold fR;have:=h.is_fraction
 match qs,hl with
 | [],_=>simp only[List.map_nil];walk_at "rd";exact⟨trivial,Wk.here hq⟩
 | [a],_=>simp only[List.map_cons,List.map_nil];walk_at "rd"
 | [a,b],_=>simp only[List.map_cons,List.map_nil];walk_at "rd"
theorem aGn(ha:Bd 4000 a)(hb:Bd 4000 b):Sm 9000 ((a.den:Int)*(b.den:Int)):=(ha.2.mul hb.2).mono ddq
noncomputable def nF:CS:=.ret (.an (.cal "is_fraction" %[.var 0|_]) (.chn .LtE .LtE (.int 0) (.idx (.var 0) (.int 0)) (.idx (.var 0) (.int 1))))
theorem zO{a:Rat}(h:0<=a):0<=a.num:=Rat.num_nonneg.mpr h
theorem aFj{a:Rat}(h:a<=1):a.num<=(a.den:Int):=by
 have:=(Rat.le_iff a 1).mp h;simpa using this
theorem ID(h:PT T):∀xs G Q,mE xs G Q->wpS T nF (aH Q) (aB 1 xs) G:=by
 rintro xs G Q ⟨a,rfl,h0,h1,hq⟩;unfold nF;have:=h.is_fraction;have:=zO h0;have:=aFj h1;walk_at "rd"
noncomputable def nJ:CS:=.ret (.blt .isi %[.var 0,.glo "Shade"|_])
theorem HW:cT cs .isi [SH a b c,.cl "Shade"] G Q=("Shade"∈cs/\Q (.bl true) G):=BM
theorem HS(h:PT T):∀xs G Q,mF xs G Q->wpS T nJ (aH Q) (aB 1 xs) G:=by
 rintro xs G Q ⟨a,b,c,rfl,hq⟩;unfold nJ;have:=h.gv_Shade;have:=h.cs;have:=@HW;walk_at "rd"
noncomputable def kJ:CS:=.iff (.no (.tst (.cal "is_shade" %[.var 0|_]))) .nev .nil
theorem AW(h:PT T):∀xs G Q,mN xs G Q->wpS T kJ (aH Q) (aB 1 xs) G:=by
 rintro xs G Q ⟨a,b,c,rfl,hq⟩;unfold kJ;have:=h.is_shade;walk_at "rd"
noncomputable def lC:CS:=.seq (.ex (.cal "need_shade" %[.var 0|_])) (.ret (.tup %[.att (.var 0) "ember",.att (.var 0) "leaf",.att (.var 0) "sky"|_]))
theorem pL(hf:(c,f)∈T.fl)(hl:(ns.zip xs).lookup f=some v):EB T (.ob c ns xs) f G Q=Q v G:=by
 refine propext ⟨λh=>?_,λq=>⟨_,_,_,_,.inl rfl,hf,hl,q⟩⟩;obtain⟨c',ns',xs',v',e,_,l,q⟩:=h;rcases e with e|⟨_,e,_⟩
 . cases e;rw[hl] at l;cases l;exact q
 . cases e
theorem aIs(h:PT T){a b c:Rat}{G:Gh}{Q:PK1}:EB T (SH a b c) "ember" G Q=Q (FQ a) G:=pL h.fl_e rfl
theorem aKM(h:PT T){a b c:Rat}{G:Gh}{Q:PK1}:EB T (SH a b c) "leaf" G Q=Q (FQ b) G:=pL h.fl_l rfl
theorem aHR(h:PT T){a b c:Rat}{G:Gh}{Q:PK1}:EB T (SH a b c) "sky" G Q=Q (FQ c) G:=pL h.fl_s rfl
theorem EW(h:PT T):∀xs G Q,cI xs G Q->wpS T lC (aH Q) (aB 1 xs) G:=by
 rintro xs G Q ⟨a,b,c,rfl,hq⟩;unfold lC;have:=h.need_shade;have e1:=@aIs T h;have e2:=@aKM T h;have e3:=@aHR T h;walk_at "rd"
noncomputable def fQ:CS:=.seq (.fr (.gt 2 %[.gn 4,.gn 5|_]) (.ien (.tup %[.var 1,.var 2,.var 3|_])) (.iff (.no (.tst (.cal "is_share" %[.var 5|_]))) .nev .nil)) (.seq (.fld (.var 0) "ember" (.var 1)) (.seq (.fld (.var 0) "leaf" (.var 2)) (.fld (.var 0) "sky" (.var 3))))
theorem rJ(h:PT T):∀xs G Q,uT xs G Q->wpS T fQ (aH Q) (aB 6 xs) G:=by
 rintro xs G Q ⟨p,a,b,c,rfl,hp,⟨a1,a2⟩,⟨b1,b2⟩,⟨c1,c2⟩,hq⟩;unfold fQ;have:=h.is_share;refine cH λN hN=>?_;walk_at "rd"
 refine hN.o _ _ ?_;clear hN N;walk_at "rd"
 refine⟨"Shade",[],[],rfl,h.fl_e,by decide,"Shade",["ember"],[FQ a],aD,h.fl_l,by decide,"Shade",["ember","leaf"],[FQ a,FQ b],aD,h.fl_s,by decide,?_⟩;simp only[cS];exact Wk.here hq
theorem FP(h:PT T):aHc T "Shade" "Shade" "Shade.__init__":=by
 intro xs G Q q p hp;rw[h.shade] at q;rw[h.shadeI];obtain⟨a,b,c,rfl,ha,hb,hc,q⟩:=q;refine⟨p,a,b,c,rfl,aD,ha,hb,hc,rfl,_,_,aD,?_⟩;rw[cS,FL hp];exact q
end
noncomputable def PU(x y z:Int):GO:=.lst [.int x,.int y,.int z]
def Pu(p:Addr)(G:Gh):Prop:= ∃x y z,G p=some (PU x y z)
def Pn(p:Addr)(G G':Gh):Prop:= ∃x y z,G'=gup G p (PU x y z)
theorem Pn.pu(h:Pn p G G'):Pu p G':=let ⟨x,y,z,e⟩:=h;⟨x,y,z,by rw[e];exact aD⟩
theorem Pn.ne(h:Pn p G G')(n:q≠p):G' q=G q:=let ⟨x,y,z,e⟩:=h;by rw[e];exact bQ n
theorem Pn.trans(a:Pn p G G1)(b:Pn p G1 G2):Pn p G G2:=let ⟨x,y,z,e⟩:=a;let ⟨x',y',z',e'⟩:=b;⟨x',y',z',by rw[e',e,cS]⟩
theorem Pu.ne(h:Pu p G)(n:G q=none):q≠p:=λe=>by subst e;obtain⟨_,_,_,e⟩:=h;rw[n] at e;cases e
theorem Pu.new{o:GO}(h:Pu p G)(n:G q=none):Pu p (gup G q o):=let ⟨x,y,z,e⟩:=h;⟨x,y,z,by rw[bQ (Ne.symm (h.ne n))];exact e⟩
def jT:Sp3:=λxs G Q=>∃p m,xs=[.ref p,.int m]/\Pu p G/\0<m/\Sm 8000 m/\∀r G',0<=r->r<m->Pn p G G'->Q (.int r) G'
def wH:Sp3:=λxs G Q=>∃(ns:List Int) (k:Int),xs=[.scr ns,.int k]/\0<=k/\k<64/\∀c,Q (.int c) G
def rA:Sp3:=λxs G Q=>∃c:Int,xs=[.int c]/\∀p x y z,G p=none->Q (.ref p) (gup G p (PU x y z))
def pM:Sp3:=λxs G Q=>∃p,xs=[.ref p]/\Pu p G/\∀q G',In1 q->Bd 12 q->Pn p G G'->Q (FQ q) G'
def mD:Sp3:=λxs G Q=>∃p,xs=[.ref p]/\Pu p G/\∀a b c G',In1 a->In1 b->In1 c->Bd 12 a->Bd 12 b->Bd 12 c->Pn p G G'->Q (.tup [FQ a,FQ b,FQ c]) G'
def yP:Sp3:=λxs G Q=>∃q,xs=[FQ q]/\Bd 8900 q/\Q (.bl true) G
structure LT(T:Tb):Prop where
 cell:T.S "_law_cell"=wH
 purse:T.S "_law_purse"=rA
 pick:T.S "_law_pick"=jT
 whole:T.S "_law_whole"=dY
 low:T.S "_law_low"=bJ
 plus:T.S "_law_plus"=oG
 minus:T.S "_law_minus"=jS
 times:T.S "_law_times"=fA
 over:T.S "_law_over"=lU
 below:T.S "_law_below"=dE
 is_fraction:T.S "_law_is_fraction"=yP
 share:T.S "_law_share"=pM
 shares:T.S "_law_shares"=mD
local macro_rules | `(tactic| walk_at "rd") => wk (wqB++" pG gF jB fH iN uX XW mO yZ zX mJ lP cA DE VH DB mK lI HJ at0 at1 at2 aJy aDc aCX zZ dY bJ sz2")
section
variable{T:Tb}
noncomputable def BH:CS:=iD
theorem OW(h:PT T):∀xs G Q,dY xs G Q->wpS T BH (aH Q) (aB 1 xs) G:=vM h
noncomputable def tN:CS:=.seq (.sub (.var 0) (.int 2) (.bin .Add (.idx (.var 0) (.int 2)) (.int 1))) (.seq (.asg (.gn 2) (.bin .Mod (.idx (.var 0) (.int 0)) (.int 999999937))) (.seq (.sub (.var 0) (.int 0) (.bin .Add (.bin .Mult (.var 2) (.bin .Add (.bin .Mod (.var 2) (.int 50021)) (.int 20011))) (.bin .Mult (.int 90001) (.idx (.var 0) (.int 2))))) (.seq (.iff (.tsb (.cmp .Gt (.idx (.var 0) (.int 1)) (.int 0))) (.seq (.asg (.gn 3) (.bin .Mod (.idx (.var 0) (.int 1)) (.var 1))) (.seq (.sub (.var 0) (.int 1) (.bin .FloorDiv (.idx (.var 0) (.int 1)) (.var 1))) (.ret (.var 3)))) .nil) (.ret (.bin .Mod (.bin .FloorDiv (.bin .Mod (.idx (.var 0) (.int 0)) (.int 999999937)) (.int 16)) (.var 1))))))
theorem WD(h:G p=some o):gup G p o=G:=by
 funext b;unfold gup;split
 . rename_i e;rw[e];exact h.symm
 . rfl
theorem IQ(a:0<=x)(b:x<1000000000000):Sm 64 x:=by unfold Sm;omega
theorem UL:∀xs G Q,jT xs G Q->wpS T tN (aH Q) (aB 4 xs) G:=by
 rintro xs G Q ⟨p,m,rfl,⟨x,y,z,hp⟩,h0,h1,hq⟩;unfold tN;have e:G=gup G p (.lst [.int x,.int y,.int z]):=(WD hp).symm;have fin:∀r x' y' z',0<=r->r<m->Q (.int r) (gup G p (.lst [.int x',.int y',.int z'])):=λr x' y' z' a b=>hq r _ a b ⟨x',y',z',rfl⟩;generalize hG:gup G p (.lst [.int x,.int y,.int z])=G1 at e;rw[<-hG] at e;rw[e];clear e hG;refine cH λN hN=>?_;walk_at "rd"
 refine hN.o _ _ ?_;clear hN N;refine cH λN hN=>?_;walk_at "rd"
 refine⟨by show(0:Int)<999999937;decide,hN.o _ _ ?_⟩;clear hN N;have s0:=IQ (Int.emod_nonneg x (show(999999937:Int)≠0 by decide)) (Int.lt_trans (Int.emod_lt_of_pos x (show(0:Int)<999999937 by decide)) ddq);generalize x%999999937=s at *;refine cH λN hN=>?_;walk_at "rd"
 refine⟨by show(0:Int)<50021;decide,ZH s0,ZH (IQ ddq ddq),hN.o _ _ ?_⟩;clear hN N;generalize s*(s%50021+20011)+90001*(z+1)=t;walk_at "rd"
 split
 . exact⟨h0,uB (k:=8000) h0 h1,Wk.here (fin _ _ _ _ (Int.emod_nonneg _ ooq) (Int.emod_lt_of_pos _ h0))⟩
 . exact⟨by show(0:Int)<999999937;decide,uB (k:=64) ddq (IQ ddq ddq),h0,Wk.here (fin _ _ _ _ (Int.emod_nonneg _ ooq) (Int.emod_lt_of_pos _ h0))⟩
noncomputable def pQ:CS:=.ret (.lst true %[.bin .Add (.bin .Mult (.bin .Mod (.var 0) (.int 999999937)) (.int 7001)) (.int 3301),.idx (.lst false %[.int 0,.var 0|_]) (.blt .int %[.cmp .GtE (.var 0) (.bin .Pow (.int 10) (.int 18))|_]),.int 0|_])
theorem OQ:∀xs G Q,rA xs G Q->wpS T pQ (aH Q) (aB 1 xs) G:=by
 rintro xs G Q ⟨c,rfl,hq⟩;unfold pQ;walk_at "rd"
 refine⟨by show(0:Int)<999999937;decide,aIb (IQ ddq ddq),⟨by decide,by decide,by decide⟩,?_⟩;have e:∃x,atI [PV.int 0,PV.int c] (if decide ((10:Int)^Int.toNat 18<=c)=true then 1 else 0)=some (.int x):=by
   split
   . exact⟨_,at1⟩
   . exact⟨_,at0⟩
 obtain⟨x,e⟩:=e;simp only[decide_eq_true_eq] at e;refine⟨_,e,λp n=>Wk.here (hq p _ _ _ n)⟩
noncomputable def vT:CS:=.seq (.par 2 3 (.blt .abs %[.var 0|_]) (.var 1)) (.seq (.wh (.tsb (.cmp .Gt (.var 3) (.int 0))) (.par 2 3 (.var 3) (.bin .Mod (.var 2) (.var 3)))) (.ret (.tup %[.bin .FloorDiv (.var 0) (.var 2),.bin .FloorDiv (.var 1) (.var 2)|_])))
noncomputable def vR:CS:=.seq (.iff (.tsb (.cmp .Lt (.var 1) (.int 0))) (.par 0 1 (.bin .Sub (.int 0) (.var 0)) (.bin .Sub (.int 0) (.var 1))) .nil) vT
theorem DT(hb:0<b)(sb:Sm 9000 b)(hq:Q (FQ (Rat.divInt t b)) G) :
   wpS T vT (aH Q) [some (.int t),some (.int b),none,none] G:=by
 unfold vT;walk_at "rd"
 refine⟨λm σ H=>∃x y,σ=[some (.int t),some (.int b),some (.int x),some (.int y)]/\H=G/\0<=x/\0<=y/\Int.gcd x y=Int.gcd t b/\m=y.toNat,⟨_,_,_,rfl,rfl,by omega,by omega,AZ t b,rfl⟩,?_⟩;rintro m σ H ⟨x,y,rfl,rfl,hx,hy,hg,rfl⟩;walk_at "rd"
 split
 . rename_i hy0;have h2:=Int.emod_lt_of_pos x (show 0<y by omega);have h3:=Int.emod_nonneg x (show y≠0 by omega);exact⟨by show 0<y;omega,(x%y).toNat,by omega,h3,(CO hx ooq).trans hg,rfl⟩
 . rename_i hy0;have e:y=0:=by omega
   subst e;have g:x=((Int.gcd t b:Nat):Int):=by rw[<-hg,Int.gcd_zero_right];omega
   obtain⟨d1,d2⟩:=BJ (t:=t) (b:=b) hb sb;subst g;refine⟨d1,d2,Wk.here ?_⟩;rw[<-HI hb];exact hq
theorem aBk:∀xs G Q,bJ xs G Q->wpS T vR (aH Q) (aB 4 xs) G:=by
 rintro xs G Q ⟨t,b,rfl,h0,sb,hq⟩;unfold vR;have e0:∀x:Int,0-x= -x:=λx=>by omega
 walk_at "rd"
 split
 . rename_i hb;refine DT ooq sb.neg ?_;rw[Rat.neg_divInt_neg];exact hq
 . rename_i hb;exact DT ooq sb hq
noncomputable def tF:CS:=.ret (.cal "_law_low" %[.bin .Add (.bin .Mult (.idx (.var 0) (.int 0)) (.idx (.var 1) (.int 1))) (.bin .Mult (.idx (.var 1) (.int 0)) (.idx (.var 0) (.int 1))),.bin .Mult (.idx (.var 0) (.int 1)) (.idx (.var 1) (.int 1))|_])
theorem SY(h:LT T):∀xs G Q,oG xs G Q->wpS T tF (aH Q) (aB 2 xs) G:=by
 rintro xs G Q ⟨a,b,rfl,ha,hb,hq⟩;unfold tF;have:=h.low;walk_at "rd"
 refine⟨eK ha.1 hb.2,eK hb.1 ha.2,eK ha.2 hb.2,bW aZ aZ,aGn ha hb,Wk.here ?_⟩;rw[aDl];exact hq
noncomputable def oK:CS:=.ret (.cal "_law_low" %[.bin .Sub (.bin .Mult (.idx (.var 0) (.int 0)) (.idx (.var 1) (.int 1))) (.bin .Mult (.idx (.var 1) (.int 0)) (.idx (.var 0) (.int 1))),.bin .Mult (.idx (.var 0) (.int 1)) (.idx (.var 1) (.int 1))|_])
theorem NZ(h:LT T):∀xs G Q,jS xs G Q->wpS T oK (aH Q) (aB 2 xs) G:=by
 rintro xs G Q ⟨a,b,rfl,ha,hb,hq⟩;unfold oK;have:=h.low;walk_at "rd"
 refine⟨eK ha.1 hb.2,eK hb.1 ha.2,eK ha.2 hb.2,bW aZ aZ,aGn ha hb,Wk.here ?_⟩;rw[EY];exact hq
noncomputable def pZ:CS:=.ret (.cal "_law_low" %[.bin .Mult (.idx (.var 0) (.int 0)) (.idx (.var 1) (.int 0)),.bin .Mult (.idx (.var 0) (.int 1)) (.idx (.var 1) (.int 1))|_])
theorem QK(h:LT T):∀xs G Q,fA xs G Q->wpS T pZ (aH Q) (aB 2 xs) G:=by
 rintro xs G Q ⟨a,b,rfl,ha,hb,hq⟩;unfold pZ;have:=h.low;walk_at "rd"
 refine⟨eK ha.1 hb.1,eK ha.2 hb.2,bW aZ aZ,aGn ha hb,Wk.here ?_⟩;rw[aD6];exact hq
noncomputable def sY:CS:=.ret (.cal "_law_low" %[.bin .Mult (.idx (.var 0) (.int 0)) (.idx (.var 1) (.int 1)),.bin .Mult (.idx (.var 0) (.int 1)) (.idx (.var 1) (.int 0))|_])
theorem UD(h:LT T):∀xs G Q,lU xs G Q->wpS T sY (aH Q) (aB 2 xs) G:=by
 rintro xs G Q ⟨a,b,rfl,ha,hb,h0,hq⟩;unfold sY;have:=h.low;walk_at "rd"
 refine⟨eK ha.1 hb.2,eK ha.2 hb.1,bW aZ (λz=>h0 (Rat.num_eq_zero.mp z)),(ha.2.mul hb.1).mono ddq,Wk.here ?_⟩;rw[UC];exact hq
noncomputable def jW:CS:=.ret (.cmp .Lt (.bin .Mult (.idx (.var 0) (.int 0)) (.idx (.var 1) (.int 1))) (.bin .Mult (.idx (.var 1) (.int 0)) (.idx (.var 0) (.int 1))))
theorem xY:∀xs G Q,dE xs G Q->wpS T jW (aH Q) (aB 2 xs) G:=by
 rintro xs G Q ⟨a,b,rfl,ha,hb,hq⟩;unfold jW;walk_at "rd"
 refine⟨eK ha.1 hb.2,eK hb.1 ha.2,Wk.here ?_⟩;rw[show decide (a.num*(b.den:Int)<b.num*(a.den:Int))=decide (a<b) from decide_eq_decide.mpr (Rat.lt_iff a b).symm];exact hq
theorem aLa:shp (FQ q)=true:=rfl
theorem aMl:pur G (FQ q)=FQ q:=rfl
theorem HE:peq (FQ a) (FQ b)=decide (a=b):=by
 have:peq (FQ a) (FQ b)=(a.num==b.num&&((a.den:Int)==(b.den:Int)&&true)):=by unfold FQ;simp only[peq,kS]
 rw[this,Bool.and_true,Bool.eq_iff_iff,Bool.and_eq_true,decide_eq_true_eq,beq_iff_eq,beq_iff_eq];exact⟨by rintro⟨x,y⟩;exact Rat.ext x ooq,λe=>by rw[e];exact⟨rfl,rfl⟩⟩
end
local macro_rules | `(tactic| walk_at "rd") => wk (wqB++" TJ ZQ List.getElem?_cons_zero exists_false false_and and_false fH uX mO gC VI cA DE BY DG lI gE at0 at1 at2 iI bJ eI dB zB Option.getD_some jT pM oX")
section
variable{T:Tb}
noncomputable def sW:CS:=.seq (.iff (.tsb (.cmp .Lt (.var 1) (.blt .len %[.var 0|_]))) (.ret (.idx (.var 0) (.var 1))) .nil) (.seq (.asg (.gn 2) (.bin .Mod (.bin .Mult (.int 60013) (.bin .Add (.bin .Add (.bin .Mult (.var 1) (.var 1)) (.bin .Mult (.int 7) (.var 1))) (.int 3))) (.int 999999937))) (.seq (.fr (.gn 3) (.isq (.sli (.var 0) .nil (.tst (.int 4)))) (.asg (.gn 2) (.bin .Mod (.bin .Add (.bin .Mult (.var 2) (.int 30103)) (.var 3)) (.int 999999937)))) (.ret (.var 2))))
theorem wK(I:PSt->Gh->Prop):∀{xs:List PV} {σ:PSt} {G:Gh},I σ G->(∀x∈xs,∀σ G R,I σ G->(∀σ' G',I σ' G'->R σ' G')->g x σ G λσ2 G2=>tb {D with nx:=R,ct:=R,bk:=D.nx} σ2 G2)->(∀σ G,I σ G->D.nx σ G)->sE (λ_=>True) g tb D xs σ G
 | [],σ,G,h,_,hd=>⟨trivial,hd σ G h⟩
 | x::r,σ,G,h,hs,hd=>⟨trivial,hs x (wDq ..) σ G _ h λσ' G' h'=>wK I h' (λy hy=>hs y (wCq _ hy)) hd⟩
theorem RX{ns:List Int}{lo hi:Option Int}:OD (.scr ns) lo hi G Q=Q (.lst (pN (ns.map .int) lo hi)) G:=rfl
theorem RV{lo hi:Option Int}{G:Gh}{Q:PK1}:OD (.lst ns) lo hi G Q=Q (.lst (pN ns lo hi)) G:=propext ⟨by rintro⟨_,e,q⟩;cases e;exact q,λq=>⟨_,rfl,q⟩⟩
theorem VZ:∀xs G Q,wH xs G Q->wpS T sW (aH Q) (aB 4 xs) G:=by
 rintro xs G Q ⟨ns,k,rfl,h0,h1,hq⟩;unfold sW;have:=@RX;walk_at "rd"
 split
 . rename_i hk;obtain⟨j,rfl⟩:=Int.eq_ofNat_of_zero_le h0;have hj:j<ns.length:=by omega
   exact⟨ns[j],cF (by simp[hj])⟩
 . have sk:Sm 64 k:=IQ h0 ooq;refine⟨ZH sk,aIb sk,ZH (IQ ddq ddq),by show(0:Int)<999999937;decide,?_⟩;refine wK (λσ G'=>G'=G/\∃st u,σ=[some (.scr ns),some (.int k),some (.int st),u]/\0<=st/\st<999999937) ⟨rfl,_,_,rfl,Int.emod_nonneg _ ddq,Int.emod_lt_of_pos _ ddq⟩ ?_ ?_
   . rintro x hx σ G' R ⟨rfl,st,u,rfl,a1,a2⟩ hR;have hx':x∈ns.map PV.int:=by
       unfold pN at hx;exact List.mem_of_mem_drop (List.mem_of_mem_take hx)
     obtain⟨c,_,rfl⟩:=List.mem_map.mp hx';walk_at "rd"
     exact⟨ZH (IQ a1 ooq),by show(0:Int)<999999937;decide,hR _ _ ⟨rfl,_,_,rfl,Int.emod_nonneg _ ddq,Int.emod_lt_of_pos _ ddq⟩⟩
   . rintro σ G' ⟨rfl,st,u,rfl,a1,a2⟩;walk_at "rd"
theorem aGk(a:0<=r)(b:r<10)(c:0<=k)(d:k<997):∃v,atI [PV.int 1,PV.int 2,PV.int 3,PV.int 4,PV.int 6,PV.int 12,PV.int 60,PV.int 255,PV.int 510,PV.int (1+k)] r=some (.int v)/\1<=v/\v<=997:=by
 have e:r=0∨r=1∨r=2∨r=3∨r=4∨r=5∨r=6∨r=7∨r=8∨r=9:=by omega
 rcases e with rfl|rfl|rfl|rfl|rfl|rfl|rfl|rfl|rfl|rfl
 . exact⟨_,at0,by omega,by omega⟩
 . exact⟨_,at1,by omega,by omega⟩
 . exact⟨_,at2,by omega,by omega⟩
 . exact⟨_,at3,by omega,by omega⟩
 . exact⟨_,at4,by omega,by omega⟩
 . exact⟨_,cF (j:=5) rfl,by omega,by omega⟩
 . exact⟨_,cF (j:=6) rfl,by omega,by omega⟩
 . exact⟨_,cF (j:=7) rfl,by omega,by omega⟩
 . exact⟨_,cF (j:=8) rfl,by omega,by omega⟩
 . exact⟨_,cF (j:=9) rfl,by omega,by omega⟩
noncomputable def oM:CS:=.seq (.asg (.gn 1) (.cal "_law_pick" %[.var 0,.int 10|_])) (.seq (.asg (.gn 2) (.idx (.lst false %[.int 1,.int 2,.int 3,.int 4,.int 6,.int 12,.int 60,.int 255,.int 510,.bin .Add (.int 1) (.cal "_law_pick" %[.var 0,.int 997|_])|_]) (.var 1))) (.ret (.cal "_law_low" %[.cal "_law_pick" %[.var 0,.bin .Add (.var 2) (.int 1)|_],.var 2|_])))
theorem smP(a:0<=x)(b:x<1000000000000):Sm 8000 x:=smK ooq b ddq
theorem aCL(h0:0<=t)(h1:t<=b)(hb:0<b):In1 (Rat.divInt t b):=by
 constructor
 . exact Rat.divInt_nonneg h0 ooq
 . rw[Rat.divInt_eq_div];have hb':(0:Rat)<(b:Rat):=Rat.intCast_pos.mpr hb;have h2:(t:Rat)<=(b:Rat):=Rat.intCast_le_intCast.mpr h1;have h3:(t:Rat)/(b:Rat)*(b:Rat)=(t:Rat):=Rat.div_mul_cancel (by grind);refine Rat.le_of_mul_le_mul_right (c:=(b:Rat)) ?_ hb'
   grind
theorem aEz(ht:Sm n t)(hb:Sm n b)(h0:b≠0):Bd n (Rat.divInt t b):=Bd.divInt ht hb h0
theorem OA(h:LT T):∀xs G Q,pM xs G Q->wpS T oM (aH Q) (aB 3 xs) G:=by
 rintro xs G Q ⟨p,rfl,hp,hq⟩;unfold oM;have:=h.pick;have:=h.low;walk_at "rd"
 refine⟨by decide,smP ddq ddq,λr1 G1 a1 b1 n1=>⟨n1.pu,by decide,smP ddq ddq,λr2 G2 a2 b2 n2=>?_⟩⟩;obtain⟨v,e,c1,c2⟩:=aGk a1 b1 a2 b2;refine⟨by decide,_,e,?_⟩;walk_at "rd"
 refine⟨n2.pu,by omega,smP ooq ooq,λr3 G3 a3 b3 n3=>?_⟩;refine⟨by omega,smK ooq ooq ddq,Wk.here (hq _ _ (aCL a3 ooq ooq) (aEz ?_ ?_ ooq) ((n1.trans n2).trans n3))⟩
 . unfold Sm;omega
 . unfold Sm;omega
def Pk(p:Addr)(G K:Gh):Prop:= ∃G',Pn p G G'/\∀a u,G' a=some u->K a=some u
theorem Pk.of{p:Addr}{G G':Gh}(h:Pn p G G'):Pk p G G':=⟨G',h,λ_ _ z=>z⟩
theorem Pk.new{G K:Gh}(h:Pk p G K)(n:K l=none):Pk p G (gup K l o):=by
 obtain⟨G',a,b⟩:=h;refine⟨G',a,λx u q=>?_⟩;have:=b x u q;rw[bQ (λe=>by rw[e,n] at this;cases this)];exact this
theorem Pk.set{G K:Gh}{o:GO}(h:Pk p G K)(n:G l=none)(ne:l≠p):Pk p G (gup K l o):=by
 obtain⟨G',a,b⟩:=h;refine⟨G',a,λx u q=>?_⟩;have e:x≠l:=λe=>by rw[e,a.ne ne,n] at q;cases q
 rw[bQ e];exact b x u q
theorem Pk.pick{G K K':Gh}(h:Pk p G K)(m:Pn p K K'):Pk p G K':=by
 obtain⟨G',a,b⟩:=h;obtain⟨x,y,z,e⟩:=m;refine⟨gup G' p (PU x y z),a.trans ⟨x,y,z,rfl⟩,λc u q=>?_⟩;rw[e];by_cases ec:c=p
 . subst ec;rw[aD] at q ⊢;exact q
 . rw[bQ ec] at q ⊢;exact b c u q
theorem Pk.end_{G K:Gh}{Q:PK1}{x:PV}(h:Pk p G K)(q:∀G',Pn p G G'->Q x G'):Wk Q x K:=let ⟨G',a,b⟩:=h;Wk.of (q G' a) b
noncomputable def aCi:CS:=.seq (.iff (.tsb (.cmp .Eq (.var 1) (.int 3))) (.asg (.gn 2) (.lst true %[.idx (.var 2) (.int 0),.idx (.var 2) (.int 0),.idx (.var 2) (.int 0)|_])) .nil) (.ret (.blt .tuple %[.var 2|_]))
noncomputable def shT:CS:=.seq (.iff (.tsb (.cmp .Eq (.var 1) (.int 1))) (.sub (.var 2) (.bin .Add (.int 1) (.cal "_law_pick" %[.var 0,.int 2|_])) (.idx (.var 2) (.int 0))) .nil) aCi
noncomputable def nG:CS:=.seq (.asg (.gn 1) (.cal "_law_pick" %[.var 0,.int 8|_])) (.seq (.asg (.gn 2) (.cmpr true (.gn 1) (.irg %[.int 3|_]) .nil (.cal "_law_share" %[.var 2|_]) [none,none,some 0])) shT)
theorem yT{R:Int->Prop}{A:Int->Int->Prop}:((∃k,[PV.int j]=[PV.int k]/\R k)∨(∃i k,[PV.int j]=[PV.int i,PV.int k]/\A i k))=R j:=propext
 ⟨λh=>h.elim (by rintro⟨_,e,r⟩;cases e;exact r) (by rintro⟨_,_,e,_⟩;cases e),λr=>.inl ⟨_,rfl,r⟩⟩
theorem IF(A:¬r=3->Wk Q (.tup [FQ x,FQ y,FQ z]) (gup G l (.lst [FQ x,FQ y,FQ z])))(B:r=3->∀l2,gup G l (.lst [FQ x,FQ y,FQ z]) l2=none->Wk Q (.tup [FQ x,FQ x,FQ x]) (gup (gup G l (.lst [FQ x,FQ y,FQ z])) l2 (.lst [FQ x,FQ x,FQ x]))) :
   wpS T aCi (aH Q) [some (.ref p),some (.int r),some (.ref l)] (gup G l (.lst [FQ x,FQ y,FQ z])):=by
 unfold aCi;by_cases e:r=3
 . have B0:=B e;clear A B;subst e;walk_at "rd"
   exact B0
 . have A:=A e;walk_at "rd"
theorem IY(h:LT T):∀xs G Q,mD xs G Q->wpS T nG (aH Q) (aB 3 xs) G:=by
 rintro xs G Q ⟨p,rfl,hp,hq⟩;unfold nG;have ep:=h.pick;have:=h.share;generalize eB:shT=B;walk_at "rd"
 refine⟨by decide,smP ddq ddq,λr1 G1 a1 b1 n1=>?_⟩;refine⟨by decide,by decide,n1.pu,λq1 G2 i1 d1 m1=>⟨m1.pu,λq2 G3 i2 d2 m2=>⟨m2.pu,λq3 G4 i3 d3 m3 l hl=>?_⟩⟩⟩;have nn:=((n1.trans m1).trans m2).trans m3;have lp:l≠p:=m3.pu.ne hl;have gl:G l=none:=by rw[<-nn.ne lp];exact hl
 have k0:Pk p G (gup G4 l (.lst [FQ q1,FQ q2,FQ q3])):=(Pk.of nn).new hl;subst eB;unfold shT;generalize eC:aCi=C;by_cases e1:r1=1
 . have ne3:¬r1=3:=by omega
   walk_at "rd"
   refine⟨m3.pu.new hl,by decide,smP ddq ddq,λr G5 a b m4=>?_⟩;have g5:G5 l=some (.lst [FQ q1,FQ q2,FQ q3]):=by rw[m4.ne lp];exact aD
   have hr:r=0∨r=1:=by omega
   rw[CM g5];have k1:∀o,Pk p G (gup G5 l o):=λo=>(k0.pick m4).set gl lp;subst eC;rcases hr with rfl|rfl
   . exact⟨1,aDc,IF (λ_=>(k1 _).end_ λG' g=>hq _ _ _ G' i1 i1 i3 d1 d1 d3 g) λz=>absurd z ddq⟩
   . exact⟨2,aCX,IF (λ_=>(k1 _).end_ λG' g=>hq _ _ _ G' i1 i2 i1 d1 d2 d1 g) λz=>absurd z ddq⟩
 . walk_at "rd"
   subst eC;refine IF (λ_=>k0.end_ λG' g=>hq _ _ _ G' i1 i2 i3 d1 d2 d3 g) λ_ l2 hl2=>(k0.new hl2).end_ λG' g=>hq _ _ _ G' i1 i1 i1 d1 d1 d1 g
end
noncomputable abbrev R3:=Rat×Rat×Rat
noncomputable def shV(r:R3):PV:=SH r.1 r.2.1 r.2.2
theorem aDy:shp (.tup [FQ a,FQ b,FQ c])=true:=rfl
theorem wJ:kS [] []=true:=by simp only[kS]
theorem mP:kS (x::xs) (y::ys)=(peq x y&&kS xs ys):=by simp only[kS]
theorem UF:pEq false (.tup [FQ a,FQ b,FQ c]) (.tup [FQ a',FQ b',FQ c']) G Q=Q (.bl (decide (a=a')&&(decide (b=b')&&decide (c=c')))) G:=by
 show(shp (.tup [FQ a,FQ b,FQ c])=true/\shp (.tup [FQ a',FQ b',FQ c'])=true/\Q (.bl (peq (.tup [FQ a,FQ b,FQ c]) (.tup [FQ a',FQ b',FQ c']))) G)=_;simp only[aDy,true_and,peq,mP,wJ,HE,Bool.and_true]
theorem LQ:pEq true (.tup [FQ a,FQ b,FQ c]) (.tup [FQ a',FQ b',FQ c']) G Q=Q (.bl (!(decide (a=a')&&(decide (b=b')&&decide (c=c'))))) G:=by
 show(shp (.tup [FQ a,FQ b,FQ c])=true/\shp (.tup [FQ a',FQ b',FQ c'])=true/\Q (.bl (!peq (.tup [FQ a,FQ b,FQ c]) (.tup [FQ a',FQ b',FQ c']))) G)=_;simp only[aDy,true_and,peq,mP,wJ,HE,Bool.and_true]
theorem WB:pIs false (.tup xs) .non G Q=Q (.bl false) G:=MY (λz=>by cases z)
theorem av0:Ar.val (x::xs) (.arg 0)=x:=rfl
theorem av1:Ar.val (x::y::xs) (.arg 1)=y:=rfl
theorem av2:Ar.val (x::y::z::xs) (.arg 2)=z:=rfl
theorem avn:Ar.val xs .non= .non:=rfl
local macro_rules | `(tactic| walk_at "rd") => wk (wqB++" gF iI HW sA oX cI UF")
section
variable{T:Tb}
noncomputable def nA:CS:=.seq (.asg (.gl 3 %[.gn 1,.gn 2,.gn 3|_]) (.var 0)) (.ret (.cal "Shade" %[.var 1,.var 2,.var 3|_]))
theorem IM(h:PT T):∀xs G Q,mH xs G Q->wpS T nA (aH Q) (aB 4 xs) G:=by
 rintro xs G Q ⟨x,a,b,c,rfl,hx,ia,ib,ic,hq⟩;unfold nA;have:=h.shade;walk_at "rd"
end
theorem aE6(x:Int):0<=x*x:=by
 rcases Int.le_total 0 x with h|h
 . exact Int.mul_nonneg h h
 . have:0<=(-x)*(-x):=Int.mul_nonneg ooq ooq
   rwa [Int.neg_mul_neg] at this
theorem aKQ(a b:Int):4*(a*b)<=(a+b)*(a+b):=by
 have h:=aE6 (a-b);have e1:(a-b)*(a-b)=a*a-a*b-a*b+b*b:=by
   rw[Int.sub_mul,Int.mul_sub,Int.mul_sub,Int.mul_comm b a];omega
 have e2:(a+b)*(a+b)=a*a+a*b+a*b+b*b:=by
   rw[Int.add_mul,Int.mul_add,Int.mul_add,Int.mul_comm b a];omega
 omega
theorem BX{a b:Int}(ha:0<=a)(h:a<=b):a*a<=b*b:=Int.mul_le_mul h h ha ooq
theorem ZD{n g:Int}(hg:1<=g):n<g*(n/g+1):=by
 have:=Int.emod_lt_of_pos n (show 0<g by omega);have e:=Int.mul_ediv_add_emod n g;rw[Int.mul_add,Int.mul_one];omega
theorem UX{n g:Int}(hg:1<=g):g*(n/g)<=n:=by
 have:=Int.emod_nonneg n (show g≠0 by omega);have e:=Int.mul_ediv_add_emod n g;omega
theorem QU{n g:Int}(hn:0<=n)(hg:1<=g):n<((g+n/g)/2+1)*((g+n/g)/2+1):=by
 have hq:0<=n/g:=Int.ediv_nonneg hn ooq;have h1:=ZD (n:=n) hg;have h2:=aKQ g (n/g+1);generalize hm:(g+n/g)/2=m at *;have h3:g+(n/g+1)<=2*(m+1):=by omega
 have h4:=BX ooq h3;have e:2*(m+1)*(2*(m+1))=4*((m+1)*(m+1)):=by
   rw[Int.mul_assoc,Int.mul_left_comm (m+1) 2 (m+1),<-Int.mul_assoc];rfl
 omega
theorem FU{n g:Int}(hn:1<=n)(hg:1<=g):1<=(g+n/g)/2:=by
 rcases Int.lt_or_le g 2 with h|h
 . have e:g=1:=by omega
   subst e;rw[Int.ediv_one];omega
 . have:0<=n/g:=Int.ediv_nonneg ooq ooq;omega
theorem HL{n g:Int}(hg:1<=g)(h:¬(g+n/g)/2<g):g*g<=n:=by
 have h1:g<=n/g:=by omega
 have h2:=UX (n:=n) hg;have h3:g*g<=g*(n/g):=Int.mul_le_mul_of_nonneg_left h1 ooq;omega
theorem aAF(hn:0<=n)(j:Int)(hj:j=((Builtin.Int.intBits n:Nat):Int) ):n<(1*2^((j+1)/2).toNat+1)*(1*2^((j+1)/2).toNat+1):=by
 subst hj;generalize hb:Builtin.Int.intBits n=b;have hlt:n<2^b:=by
   rw[<-hb];unfold Builtin.Int.intBits;split
   . rename_i z;have:n=0:=by simpa using z
     rw[this];decide
   . have:=Nat.lt_log2_self (n:=n.natAbs);have e:((2^(n.natAbs.log2+1):Nat):Int)=2^(n.natAbs.log2+1):=by rw[Int.natCast_pow];rfl
     rw[<-e];omega
 have ek:(((b:Int)+1)/2).toNat=(b+1)/2:=by omega
 rw[ek,Int.one_mul];generalize hk:(b+1)/2=k;have h2:(2:Int)^b<=2^k*2^k:=by
   rw[<-Int.pow_add];have:(2:Nat)^b<=2^(k+k):=Nat.pow_le_pow_right ddq ooq;have e1:((2^b:Nat):Int)=2^b:=by rw[Int.natCast_pow];rfl
   have e2:((2^(k+k):Nat):Int)=2^(k+k):=by rw[Int.natCast_pow];rfl
   rw[<-e1,<-e2];omega
 have hp:(0:Int)<2^k:=Int.pow_pos ddq;have h3:=BX (Int.le_of_lt hp) (show(2:Int)^k<=2^k+1 by omega);omega
theorem aAC{t b r:Int}(hb:1<=b)(ht:1<=t)(h1:r*r<=(t-1)/b)(h2:(t-1)/b<(r+1)*(r+1)):t<=(r+1)*(r+1)*b/\r*r*b<t:=by
 have d1:=ZD (n:=t-1) hb;have d2:=UX (n:=t-1) hb;generalize (t-1)/b=u at *;constructor
 . have:(u+1)*b<=(r+1)*(r+1)*b:=Int.mul_le_mul_of_nonneg_right ooq ooq;rw[Int.mul_comm (u+1) b] at this;omega
 . have:r*r*b<=u*b:=Int.mul_le_mul_of_nonneg_right h1 ooq;rw[Int.mul_comm u b] at this;omega
noncomputable def fK(a b c a' b' c':Rat)(i j k:Int):Rat:=(i:Rat)*((a-a')*(a-a'))+(j:Rat)*((b-b')*(b-b'))+(k:Rat)*((c-c')*(c-c'))
def Ey(i j k:Int):Prop:=(1<=i/\i<=99)/\(1<=j/\j<=99)/\(1<=k/\k<=99)
def iS(x:PV)(i j k:Int):Prop:=(x= .non/\i=1/\j=1/\k=1)∨x= .tup [.int i,.int j,.int k]
theorem aB7:fK a b c a' b' c' i j k=fK a' b' c' a b c i j k:=by unfold fK;grind
theorem mZ(x:Rat):0<=x*x:=by
 rcases Rat.le_total (a:=0) (b:=x) with h|h
 . exact Rat.mul_nonneg h h
 . have:0<=(-x)*(-x):=Rat.mul_nonneg (by grind) (by grind)
   grind
theorem kC{i:Int}(h:1<=i):(1:Rat)<=(i:Rat):=Rat.intCast_le_intCast.mpr h
theorem sm7(h1:1<=i)(h2:i<=99):Sm 7 i:=by unfold Sm;omega
theorem aG8(e:Ey i j k)(ha:Bd 100 a)(hb:Bd 100 b)(hc:Bd 100 c)(ha':Bd 100 a')(hb':Bd 100 b')(hc':Bd 100 c'):Bd 1300 (fK a b c a' b' c' i j k):=by
 obtain⟨⟨i1,i2⟩,⟨j1,j2⟩,⟨k1,k2⟩⟩:=e;have x:=ha.sub ha' (show 100+100+1<=201 by decide);have y:=hb.sub hb' (show 100+100+1<=201 by decide);have z:=hc.sub hc' (show 100+100+1<=201 by decide);have bi:Bd 7 (i:Rat):=Bd.int (sm7 i1 i2) ddq;have bj:Bd 7 (j:Rat):=Bd.int (sm7 j1 j2) ddq;have bk:Bd 7 (k:Rat):=Bd.int (sm7 k1 k2) ddq;have x2:=bi.mul (x.mul x (show 201+201<=402 by decide)) (show 7+402<=409 by decide);have y2:=bj.mul (y.mul y (show 201+201<=402 by decide)) (show 7+402<=409 by decide);have z2:=bk.mul (z.mul z (show 201+201<=402 by decide)) (show 7+402<=409 by decide);exact(x2.add y2 (show 409+409+1<=819 by decide)).add z2 ddq
theorem aEl(e1:l1=a.num*(a'.den:Int)-a'.num*(a.den:Int))(e2:l2=b.num*(b'.den:Int)-b'.num*(b.den:Int))(e3:l3=c.num*(c'.den:Int)-c'.num*(c.den:Int))
   (f1:u1=(a.den:Int)*(a'.den:Int)) (f2:u2=(b.den:Int)*(b'.den:Int)) (f3:u3=(c.den:Int)*(c'.den:Int)) :
   Rat.divInt (((0*u1*u1+i*l1*l1*1)*u2*u2+j*l2*l2*(1*u1*u1))*u3*u3+k*l3*l3*(1*u1*u1*u2*u2)) (1*u1*u1*u2*u2*u3*u3)=fK a b c a' b' c' i j k:=by
 have g1:Rat.divInt l1 u1=a-a':=by rw[e1,f1];exact EY a a'
 have g2:Rat.divInt l2 u2=b-b':=by rw[e2,f2];exact EY b b'
 have g3:Rat.divInt l3 u3=c-c':=by rw[e3,f3];exact EY c c'
 have p1:u1≠0:=by rw[f1];exact bW aZ aZ
 have p2:u2≠0:=by rw[f2];exact bW aZ aZ
 have p3:u3≠0:=by rw[f3];exact bW aZ aZ
 clear e1 e2 e3 f1 f2 f3;have nz:∀{u:Int},u≠0->(u:Rat)≠0:=λh z=>h (Rat.intCast_eq_zero_iff.mp z);have mk:∀{l u:Int} {x:Rat},u≠0->Rat.divInt l u=x->(l:Rat)=x*(u:Rat):=λ{l u x} h e=>by
   rw[<-e,Rat.divInt_eq_div];exact(Rat.div_mul_cancel (nz h)).symm
 have h1:=mk p1 g1;have h2:=mk p2 g2;have h3:=mk p3 g3;have n1:=nz p1;have n2:=nz p2;have n3:=nz p3;unfold fK;generalize a-a'=x at *;generalize b-b'=y at *;generalize c-c'=z at *;rw[Rat.divInt_eq_div];simp only[Rat.intCast_add,Rat.intCast_mul];have z0:((0:Int):Rat)=0:=rfl;have o1:((1:Int):Rat)=1:=rfl;rw[h1,h2,h3,z0,o1];generalize (u1:Rat)=v1 at *;generalize (u2:Rat)=v2 at *;generalize (u3:Rat)=v3 at *;have hv:1*v1*v1*v2*v2*v3*v3≠0:=by
   intro q;simp only[Rat.one_mul,Rat.mul_eq_zero] at q
   grind
 have key:((0*v1*v1+(i:Rat)*(x*v1)*(x*v1)*1)*v2*v2+(j:Rat)*(y*v2)*(y*v2)*(1*v1*v1))*v3*v3+(k:Rat)*(z*v3)*(z*v3)*(1*v1*v1*v2*v2)
     =((i:Rat)*(x*x)+(j:Rat)*(y*y)+(k:Rat)*(z*z))*(1*v1*v1*v2*v2*v3*v3):=by grind
 rw[key];exact Rat.mul_div_cancel hv
def uQ:Sp3:=λxs G Q=>∃i j k,xs=[.tup [.int i,.int j,.int k]]/\Ey i j k/\Q (.bl true) G
def BL:Sp3:=λxs G Q=>∃x i j k,xs=[x]/\iS x i j k/\Ey i j k/\Q (.tup [.int i,.int j,.int k]) G
def TL:Sp3:=λxs G Q=>∃a b c a' b' c' i j k,xs=[SH a b c,SH a' b' c',.tup [.int i,.int j,.int k]]/\Ey i j k/\Bd 100 a/\Bd 100 b/\Bd 100 c/\Bd 100 a'/\Bd 100 b'/\Bd 100 c'/\
 ∀t d:Int,d≠0->Sm 9000 d->Rat.divInt t d=fK a b c a' b' c' i j k->Q (.tup [.int t,.int d]) G
def ZJ:Sp3:=λxs G Q=>∃a b c a' b' c' x i j k,xs=[SH a b c,SH a' b' c',x]/\iS x i j k/\Ey i j k/\Bd 100 a/\Bd 100 b/\Bd 100 c/\Bd 100 a'/\Bd 100 b'/\Bd 100 c'/\Q (FQ (fK a b c a' b' c' i j k)) G
def AL:Sp3:=λxs G Q=>∃a b c,xs=[.tup [FQ a,FQ b,FQ c]]/\In1 a/\In1 b/\In1 c/\Q (SH a b c) G
def BB:Sp3:=λxs G Q=>∃a b c a' b' c' i j k,xs=[.tup [FQ a,FQ b,FQ c],.tup [FQ a',FQ b',FQ c'],.tup [.int i,.int j,.int k]]/\Ey i j k/\Bd 100 a/\Bd 100 b/\Bd 100 c/\Bd 100 a'/\Bd 100 b'/\Bd 100 c'/\Q (FQ (fK a b c a' b' c' i j k)) G
def IU:Sp3:=λxs G Q=>∃p,xs=[.ref p]/\Pu p G/\∀i j k G',Ey i j k->Pn p G G'->Q (.tup [.int i,.int j,.int k]) G'
def Ra(q:Rat)(r:Int):Prop:=0<=r/\q<=((r*r:Int):Rat)/\(0<r->(((r-1)*(r-1):Int):Rat)<q)
def uL:Sp3:=λxs G Q=>∃n:Int,xs=[.int n]/\0<=n/\Sm 4200 n/\∀r:Int,0<=r->r*r<=n->n<(r+1)*(r+1)->Q (.int r) G
def AS:Sp3:=λxs G Q=>∃q,xs=[FQ q]/\0<=q/\Bd 4000 q/\∀r,Ra q r->Q (.int r) G
noncomputable def l1k:Rat:=⟨1,1000,by decide,by decide⟩
def Lim(q:Rat):Prop:=l1k<=q/\q<=1000
def AB:Sp3:=λxs G Q=>∃q,xs=[FQ q]/\Lim q/\Bd 2000 q/\Q (.bl true) G
def AT:Sp3:=λxs G Q=>∃q,xs=[FQ q]/\Lim q/\Bd 2000 q/\Q .non G
def B3(a b c:Rat):Prop:=Bd 100 a/\Bd 100 b/\Bd 100 c
def I3(a b c:Rat):Prop:=In1 a/\In1 b/\In1 c
def zM:Sp3:=λxs G Q=>∃a b c a' b' c' x i j k q,xs=[SH a b c,SH a' b' c',FQ q,x]/\iS x i j k/\Ey i j k/\B3 a b c/\B3 a' b' c'/\Lim q/\Bd 2000 q/\∀r,Ra (fK a b c a' b' c' i j k/q) r->Q (.int r) G
noncomputable def pw(a a':Rat)(p m:Int):Rat:=a+Rat.divInt p m*(a'-a)
def zL:Sp3:=λxs G Q=>∃a b c a' b' c' p m,xs=[SH a b c,SH a' b' c',.tup [.int p,.int m]]/\I3 a b c/\I3 a' b' c'/\B3 a b c/\B3 a' b' c'/\0<=p/\p<=m/\1<=m/\m<=1000000/\Q (SH (pw a a' p m) (pw b b' p m) (pw c c' p m)) G
noncomputable def stt(a b c a' b' c':Rat)(m p:Int):PV:=SH (pw a a' p m) (pw b b' p m) (pw c c' p m)
noncomputable def stL(a b c a' b' c':Rat)(n:Nat):List PV:=(List.range (n+1)).map λ(p:Nat)=>stt a b c a' b' c' (max (n:Int) 1) (p:Int)
noncomputable def RW(a b c a' b' c':Rat)(n:Nat):PV:=.ob "Row" ["stations"] [.tup (stL a b c a' b' c' n)]
def aEb:Sp3:=λxs G Q=>∃a b c a' b' c' x i j k q,xs=[SH a b c,SH a' b' c',FQ q,x]/\iS x i j k/\Ey i j k/\I3 a b c/\I3 a' b' c'/\B3 a b c/\B3 a' b' c'/\Lim q/\Bd 2000 q/\fK a b c a' b' c' i j k<=1000000*q/\
 ∀n:Nat,n<=1000->Ra (fK a b c a' b' c' i j k/q) (n:Int)->Q (RW a b c a' b' c' n) G
def HK:Sp3:=λxs G Q=>∃l a b c a' b' c' x i j k q,xs=[.ref l,SH a b c,SH a' b' c',FQ q,x]/\G l=some (.ins "Row" [] [])/\iS x i j k/\Ey i j k/\I3 a b c/\I3 a' b' c'/\B3 a b c/\B3 a' b' c'/\Lim q/\Bd 2000 q/\fK a b c a' b' c' i j k<=1000000*q/\
 ∀n:Nat,n<=1000->Ra (fK a b c a' b' c' i j k/q) (n:Int)->Q .non (gup G l (.ins "Row" ["stations"] [.tup (stL a b c a' b' c' n)]))
def wC:Sp3:=λxs G Q=>∃ys,xs=[.ob "Row" ["stations"] [.tup ys]]/\Q (.int (ys.length:Int)) G
structure PF(T:Tb):Prop where
 is_eye:T.S "is_eye"=uQ
 eye_of:T.S "eye_of"=BL
 gap:T.S "gap_between"=TL
 far:T.S "far"=ZJ
 less:T.S "less"=dE
 is_limit:T.S "is_limit"=AB
 need_limit:T.S "need_limit"=AT
 under:T.S "root_under"=uL
 above:T.S "root_above"=AS
 steps:T.S "steps_between"=zM
 partw:T.S "part_way"=zL
 row:T.S "Row"=aEb
 rowI:T.S "Row.__init__"=HK
 rowLen:T.S "Row.__len__"=wC
 gv_EVEN:T.gv "EVEN_EYE"= .tup [.int 1,.int 1,.int 1]
 gv_MOST:T.gv "MOST_OF_EYE"= .int 99
 gv_LL:T.gv "LEAST_LIMIT"= .tup [.int 1,.int 1000]
 gv_ML:T.gv "MOST_LIMIT"= .tup [.int 1000,.int 1]
 ty_list:T.gv "list"= .ty "list"
 gv_Row:T.gv "Row"= .cl "Row"
 csR: "Row"∈T.cs
 flR:("Row",("stations":Str))∈T.fl
theorem iS.t:iS (.tup [.int i,.int j,.int k]) i j k:=.inr rfl
theorem iS.o:iS .non 1 1 1:=.inl ⟨rfl,rfl,rfl,rfl⟩
theorem Ey.o:Ey 1 1 1:=⟨⟨by decide,by decide⟩,⟨by decide,by decide⟩,⟨by decide,by decide⟩⟩
theorem aEt:JH 3 [[a,b,c],[x,y,z],[u,v,w]]=[.tup [a,x,u],.tup [b,y,v],.tup [c,z,w]]:=rfl
theorem aDr:JH 3 [[a,b,c],[x,y,z]]=[.tup [a,x],.tup [b,y],.tup [c,z]]:=rfl
theorem aHj:zJ [.bl a,.bl b,.bl c]=some (a&&(b&&(c&&true))):=rfl
theorem avi:Ar.val xs (.int i)= .int i:=rfl
local macro_rules | `(tactic| walk_at "rd") => wk (wqB++" pG uZ gF zR exists_false false_and and_false jB fH BI mJ AJ lP CF pS CA jK iY HJ aIW zZ dY bJ exists_eq' eI dB sA mN cI sz2 uQ aHj")
section
variable{T:Tb}
noncomputable def eyB:CE:=.an (.cal "is_whole" %[.var 1|_]) (.chn .LtE .LtE (.int 1) (.var 1) (.glo "MOST_OF_EYE"))
noncomputable def sV:CS:=.seq (.iff (.oo (.no (.tst (.blt .isi %[.var 0,.glo "tuple"|_]))) (.tsb (.cmp .NotEq (.blt .len %[.var 0|_]) (.int 3)))) (.ret (.bl false)) .nil) (.ret (.blt .all %[.cmpr false (.gn 1) (.isq (.var 0)) .nil eyB [none,none]|_]))
theorem XB(h:PT T)(k:PF T)(i1:1<=i)(i2:i<=99)(q:R (.bl true) G):wpE T eyB [x0,some (.int i)] G R:=by
 unfold eyB;have:=h.is_whole;have:=k.gv_MOST;walk_at "rd"
theorem ZW(h:PT T)(k:PF T):∀xs G Q,uQ xs G Q->wpS T sV (aH Q) (aB 1 xs) G:=by
 rintro xs G Q ⟨i,j,l,rfl,⟨⟨i1,i2⟩,⟨j1,j2⟩,⟨l1,l2⟩⟩,hq⟩;unfold sV;have:=h.ty_tuple;generalize eB:eyB=B;walk_at "rd"
 subst eB;refine XB h k i1 i2 (XB h k j1 j2 (XB h k l1 l2 ?_));walk_at "rd"
noncomputable def sU:CS:=.seq (.iff (.tsb (.cmp .Is (.var 0) .non)) (.ret (.glo "EVEN_EYE")) .nil) (.seq (.iff (.no (.tst (.cal "is_eye" %[.var 0|_]))) .nev .nil) (.ret (.var 0)))
theorem SE(h:PT T)(k:PF T):∀xs G Q,BL xs G Q->wpS T sU (aH Q) (aB 1 xs) G:=by
 rintro xs G Q ⟨x,i,j,l,rfl,v,e,hq⟩;unfold sU;have:=k.is_eye;have:=k.gv_EVEN;have:=@WB;rcases v with ⟨rfl,rfl,rfl,rfl⟩|rfl
 . walk_at "rd"
 . walk_at "rd"
noncomputable def aAy:CS:=.seq (.asg (.gn 8) (.bin .Sub (.bin .Mult (.idx (.var 5) (.int 0)) (.idx (.var 6) (.int 1))) (.bin .Mult (.idx (.var 6) (.int 0)) (.idx (.var 5) (.int 1))))) (.seq (.asg (.gn 9) (.bin .Mult (.idx (.var 5) (.int 1)) (.idx (.var 6) (.int 1)))) (.seq (.asg (.gn 3) (.bin .Add (.bin .Mult (.bin .Mult (.var 3) (.var 9)) (.var 9)) (.bin .Mult (.bin .Mult (.bin .Mult (.var 7) (.var 8)) (.var 8)) (.var 4)))) (.asg (.gn 4) (.bin .Mult (.bin .Mult (.var 4) (.var 9)) (.var 9)))))
noncomputable def jL:CS:=.seq (.asg (.gn 3) (.int 0)) (.seq (.asg (.gn 4) (.int 1)) (.seq (.fr (.gt 3 %[.gn 5,.gn 6,.gn 7|_]) (.izp %[.cal "shares_of" %[.var 0|_],.cal "shares_of" %[.var 1|_],.var 2|_]) aAy) (.ret (.tup %[.var 3,.var 4|_]))))
noncomputable def ln(a a':Rat):Int:=a.num*(a'.den:Int)-a'.num*(a.den:Int)
noncomputable def ud(a a':Rat):Int:=(a.den:Int)*(a'.den:Int)
theorem IO(ba:Bd 100 a)(ba':Bd 100 a')(sm:Sm 7 m)(st:Sm n t)(su:Sm k u)(hn:n<=3000)(hk:k<=3000)
   (q:∀x8 x9,D.nx [x0,x1,x2,some (.int (t*ud a a'*ud a a'+m*ln a a'*ln a a'*u)),some (.int (u*ud a a'*ud a a')),some (FQ a),some (FQ a'),some (.int m),x8,x9] G):wpS T aAy D [x0,x1,x2,some (.int t),some (.int u),some (FQ a),some (FQ a'),some (.int m),x8,x9] G:=by
 unfold aAy;have la:Sm 201 (ln a a'):=(ba.1.mul ba'.2).sub (ba'.1.mul ba.2) ddq;have ua:Sm 200 (ud a a'):=ba.2.mul ba'.2;have m1:=eK ba.1 ba'.2;have m2:=eK ba'.1 ba.2;have m3:=eK ba.2 ba'.2;have q:=q (some (.int (ln a a'))) (some (.int (ud a a')));have e1:a.num*(a'.den:Int)-a'.num*(a.den:Int)=ln a a':=rfl;have e2:(a.den:Int)*(a'.den:Int)=ud a a':=rfl;walk_at "rd"
 have st:=st.mono hn;have su:=su.mono hk;exact⟨eK st ua,eK (st.mul ua) ua,eK sm la,eK (sm.mul la) la,eK ((sm.mul la).mul la) su,eK su ua,eK (su.mul ua) ua⟩
theorem xE(h:PT T):∀xs G Q,TL xs G Q->wpS T jL (aH Q) (aB 10 xs) G:=by
 rintro xs G Q ⟨a,b,c,a',b',c',i,j,l,rfl,⟨⟨i1,i2⟩,⟨j1,j2⟩,⟨l1,l2⟩⟩,ba,bb,bc,ba',bb',bc',hq⟩;unfold jL;have:=h.shares_of;have si:=sm7 i1 i2;have sj:=sm7 j1 j2;have sl:=sm7 l1 l2;generalize eB:aAy=B;walk_at "rd"
 subst eB;refine⟨.inr trivial,3,[[FQ a,FQ b,FQ c],[FQ a',FQ b',FQ c'],[.int i,.int j,.int l]],rfl,by simp,?_⟩;rw[aEt];have ua:∀{a a':Rat},Bd 100 a->Bd 100 a'->Sm 200 (ud a a'):=λba ba'=>ba.2.mul ba'.2;have la:∀{a a':Rat},Bd 100 a->Bd 100 a'->Sm 201 (ln a a'):=λba ba'=>(ba.1.mul ba'.2).sub (ba'.1.mul ba.2) ddq;have s0:Sm 1 0:=by unfold Sm;decide
 have s1:Sm 1 1:=by unfold Sm;decide
 have t1:=(((s0.mul (ua ba ba')).mul (ua ba ba')).mono (show 1+200+200<=410 by decide)).add ((((si.mul (la ba ba')).mul (la ba ba')).mul s1).mono (show 7+201+201+1<=410 by decide)) (show 410+1<=411 by decide);have d1:=(s1.mul (ua ba ba')).mul (ua ba ba');have t2:=(((t1.mul (ua bb bb')).mul (ua bb bb')).mono (show 411+200+200<=811 by decide)).add ((((sj.mul (la bb bb')).mul (la bb bb')).mul d1).mono (show 7+201+201+(1+200+200)<=811 by decide)) (show 811+1<=812 by decide);have d2:=(d1.mul (ua bb bb')).mul (ua bb bb');refine⟨trivial,_,rfl,rfl,_,_,rfl,_,_,rfl,_,_,rfl,rfl,IO ba ba' si s0 s1 ddq ddq λ_ _=>?_⟩;refine⟨trivial,_,rfl,rfl,_,_,rfl,_,_,rfl,_,_,rfl,rfl,IO bb bb' sj t1 d1 ddq ddq λ_ _=>?_⟩;refine⟨trivial,_,rfl,rfl,_,_,rfl,_,_,rfl,_,_,rfl,rfl,IO bc bc' sl t2 d2 ddq ddq λ_ _=>?_⟩;have nz:∀{a a':Rat},ud a a'≠0:=bW aZ aZ;refine⟨trivial,?_⟩;walk_at "rd"
 exact Wk.here (hq _ _ (bW (bW (bW (bW (bW (bW ddq nz) nz) nz) nz) nz) nz) (((d2.mul (ua bc bc')).mul (ua bc bc')).mono ddq) (aEl rfl rfl rfl rfl rfl rfl))
noncomputable def CW:CS:=.seq (.ex (.cal "need_shade" %[.var 0|_])) (.seq (.ex (.cal "need_shade" %[.var 1|_])) (.seq (.asg (.gt 2 %[.gn 3,.gn 4|_]) (.cal "gap_between" %[.var 0,.var 1,.cal "eye_of" %[.var 2|_]|_])) (.ret (.cal "lowest" %[.var 3,.var 4|_]))))
theorem aKP(h:PT T)(k:PF T):∀xs G Q,ZJ xs G Q->wpS T CW (aH Q) (aB 5 xs) G:=by
 rintro xs G Q ⟨a,b,c,a',b',c',x,i,j,l,rfl,v,e,ba,bb,bc,ba',bb',bc',hq⟩;unfold CW;have:=h.need_shade;have:=h.lowest;have:=k.gap;have:=k.eye_of;walk_at "rd"
 refine⟨x,i,j,l,rfl,v,e,a,b,c,a',b',c',i,j,l,rfl,e,ba,bb,bc,ba',bb',bc',λt d n s q=>?_⟩;walk_at "rd"
 exact n
end
theorem UW:xR .LShift (.int i) (.int j) G Q=(NO i j/\Q (.int (i*2^j.toNat)) G):=rfl
theorem Sm.bits(h:Sm k n):Builtin.Int.intBits n<=k:=by
 unfold Builtin.Int.intBits;split
 . omega
 . rename_i z;have:n.natAbs.log2<k:=(Nat.log2_lt (by simpa using z)).mpr h;omega
theorem Sm.le(h:Sm k b)(h0:0<=a)(h1:a<=b):Sm k a:=by unfold Sm at *;omega
theorem sm2:Sm 2 2:=by unfold Sm;decide
local macro_rules | `(tactic| walk_at "rd") => wk (wqB++" gF UG nL aE7 jB fH iN mO gC lI at0 at1 zZ iI lG bJ exists_eq' sA lU dE mN cI mH sz1 UW uL Int.reduceEq Int.reduceNe")
section
variable{T:Tb}
noncomputable def ON:CS:=jW
theorem aFX:∀xs G Q,dE xs G Q->wpS T ON (aH Q) (aB 2 xs) G:=xY
noncomputable def kF:CS:=.seq (.iff (.tsb (.cmp .Eq (.var 0) (.int 0))) (.ret (.int 0)) .nil) (.seq (.asg (.gn 1) (.bin .LShift (.int 1) (.bin .FloorDiv (.bin .Add (.bln (.var 0)) (.int 1)) (.int 2)))) (.seq (.asg (.gn 2) (.bin .FloorDiv (.bin .Add (.var 1) (.bin .FloorDiv (.var 0) (.var 1))) (.int 2))) (.seq (.wh (.tsb (.cmp .Lt (.var 2) (.var 1))) (.seq (.asg (.gn 1) (.var 2)) (.asg (.gn 2) (.bin .FloorDiv (.bin .Add (.var 1) (.bin .FloorDiv (.var 0) (.var 1))) (.int 2))))) (.ret (.var 1)))))
theorem AU:∀xs G Q,uL xs G Q->wpS T kF (aH Q) (aB 3 xs) G:=by
 rintro xs G Q ⟨n,rfl,h0,hs,q⟩;unfold kF;walk_at "rd"
 split
 . rename_i e;subst e;exact Wk.here (q 0 ddq ddq ddq)
 rename_i hn;have hb:=hs.bits;generalize hB:Builtin.Int.intBits n=B at *;have hk:(((B:Int)+1)/2).toNat<=2200:=by omega
 have up:=aAF h0 (B:Int) (by rw[hB]);generalize hG:(((B:Int)+1)/2).toNat=k at *;have hg:(1:Int)<=1*2^k:=by
   have:(0:Int)<2^k:=Int.pow_pos ddq;omega
 have hgs:Sm 2202 (1*2^k):=by
   unfold Sm;rw[Int.one_mul,Int.natAbs_pow];exact Nat.pow_lt_pow_right ddq ooq
 generalize (1*2^k:Int)=g at *;refine⟨uB (k:=2) ddq sm2,⟨by omega,by omega,by decide⟩,uB ooq hgs,uB (k:=2) ddq sm2,?_⟩;refine⟨λm σ H'=>∃c:Int,σ=[some (.int n),some (.int c),some (.int ((c+n/c)/2))]/\H'=G/\1<=c/\c<=g/\n<(c+1)*(c+1)/\m=c.toNat,⟨_,g,rfl,rfl,hg,Int.le_refl _,up,rfl⟩,?_⟩;rintro m σ H' ⟨c,rfl,rfl,c1,c2,c3,rfl⟩;walk_at "rd"
 split
 . rename_i hlt;have l1:=FU (n:=n) (g:=c) ooq c1;have l2:=QU (n:=n) (g:=c) h0 c1;exact⟨uB ooq (hgs.le ooq ooq),uB (k:=2) ddq sm2,_,by omega,l1,by omega,l2,rfl⟩
 . rename_i hlt;exact Wk.here (q c ooq (HL c1 hlt) c3)
noncomputable def kK:CS:=.seq (.ex (.cal "need_fractions" %[.tup %[.var 0|_]|_])) (.seq (.asg (.gt 2 %[.gn 1,.gn 2|_]) (.var 0)) (.seq (.iff (.tsb (.cmp .Lt (.var 1) (.int 0))) .nev .nil) (.seq (.iff (.tsb (.cmp .Eq (.var 1) (.int 0))) (.ret (.int 0)) .nil) (.seq (.asg (.gn 3) (.bin .FloorDiv (.bin .Sub (.var 1) (.int 1)) (.var 2))) (.ret (.bin .Add (.cal "root_under" %[.var 3|_]) (.int 1)))))))
theorem le_int(h:q.num<=m*(q.den:Int)):q<=(m:Rat):=by
 rw[Rat.le_iff];show q.num*1<=m*(q.den:Int);omega
theorem aGo(h:m*(q.den:Int)<q.num):(m:Rat)<q:=by
 rw[Rat.lt_iff];show m*(q.den:Int)<q.num*1;omega
theorem BS(h:PT T)(f:PF T):∀xs G Q,AS xs G Q->wpS T kK (aH Q) (aB 4 xs) G:=by
 rintro xs G Q ⟨q,rfl,h0,bq,hq⟩;unfold kK;have:=h.need_fractions;have:=f.under;have e0:FQ q= .tup [.int q.num,.int (q.den:Int)]:=rfl;have n0:=zO h0;have hd:=QX (q:=q);walk_at "rd"
 refine⟨[q],rfl,by show 1<=2;decide,?_⟩;refine(?_:if q.num<0 then _ else _);rw[jb ooq];split
 . rename_i e;have e1:q=0:=Rat.num_eq_zero.mp e;exact Wk.here (hq 0 ⟨by decide,by rw[e1];decide,λz=>absurd z ddq⟩)
 . rename_i e;have u0:0<=(q.num-1)/(q.den:Int):=Int.ediv_nonneg ooq ooq;have u1:(q.num-1)/(q.den:Int)<=q.num-1:=Int.ediv_le_self _ ooq;refine⟨uB hd bq.2,u0,(bq.1.le u0 ooq).mono ddq,λr r0 r1 r2=>?_⟩;obtain⟨g1,g2⟩:=aAC ooq ooq r1 r2;refine Wk.here (hq (r+1) ⟨by omega,le_int g1,λ_=>aGo ?_⟩);rw[Int.add_sub_cancel];exact g2
noncomputable def nD:CS:=.ret (.an (.cal "is_fraction" %[.var 0|_]) (.an (.no (.cal "less" %[.var 0,.glo "LEAST_LIMIT"|_])) (.no (.cal "less" %[.glo "MOST_LIMIT",.var 0|_]))))
theorem GH(h:PT T)(f:PF T):∀xs G Q,AB xs G Q->wpS T nD (aH Q) (aB 1 xs) G:=by
 rintro xs G Q ⟨q,rfl,⟨h0,h1⟩,bq,hq⟩;unfold nD;have:=h.is_fraction;have:=f.less;have:=f.gv_LL;have:=f.gv_ML;have e1:PV.tup [.int 1,.int 1000]=FQ l1k:=rfl;have e2:PV.tup [.int 1000,.int 1]=FQ 1000:=rfl;have b1:Bd 4000 l1k:=⟨smK ddq ddq ddq,smK ddq ddq ddq⟩;have b2:Bd 4000 1000:=⟨smK ddq ddq ddq,smK ddq ddq ddq⟩;have b3:=bq.mono (show 2000<=4000 by decide);have d1:decide (q<l1k)=false:=decide_eq_false (Rat.not_lt.mpr h0);have d2:decide (1000<q)=false:=decide_eq_false (Rat.not_lt.mpr h1);walk_at "rd"
noncomputable def kH:CS:=.iff (.no (.tst (.cal "is_limit" %[.var 0|_]))) .nev .nil
theorem zA(f:PF T):∀xs G Q,AT xs G Q->wpS T kH (aH Q) (aB 1 xs) G:=by
 rintro xs G Q ⟨q,rfl,hl,bq,hq⟩;unfold kH;have e:=f.is_limit;have sp:∀{G:Gh} {Q:PK1},Q (.bl true) G->T.S "is_limit" [FQ q] G Q:=λz=>by rw[e];exact⟨q,rfl,hl,bq,z⟩
 clear e;walk_at "rd"
 refine sp ?_;walk_at "rd"
noncomputable def gM:CS:=.seq (.ex (.cal "need_shade" %[.var 0|_])) (.seq (.ex (.cal "need_shade" %[.var 1|_])) (.seq (.ex (.cal "need_limit" %[.var 2|_])) (.ret (.cal "root_above" %[.cal "over" %[.cal "far" %[.var 0,.var 1,.var 3|_],.var 2|_]|_]))))
theorem AV(e:Ey i j k):0<=fK a b c a' b' c' i j k:=by
 obtain⟨⟨i1,_⟩,⟨j1,_⟩,⟨k1,_⟩⟩:=e;have hi:=kC i1;have hj:=kC j1;have hk:=kC k1;have n1:0<=(i:Rat)*((a-a')*(a-a')):=Rat.mul_nonneg (by grind) (mZ _);have n2:0<=(j:Rat)*((b-b')*(b-b')):=Rat.mul_nonneg (by grind) (mZ _);have n3:0<=(k:Rat)*((c-c')*(c-c')):=Rat.mul_nonneg (by grind) (mZ _);unfold fK
 grind
theorem Lim.pos(h:Lim q):0<q:=by
 have:(0:Rat)<l1k:=by decide
 have:=h.1
 grind
theorem uH(h:PT T)(f:PF T):∀xs G Q,zM xs G Q->wpS T gM (aH Q) (aB 4 xs) G:=by
 rintro xs G Q ⟨a,b,c,a',b',c',x,i,j,k,q,rfl,hx,he,b3,b3',hl,bq,hq⟩;unfold gM;have:=h.need_shade;have e1:=f.need_limit;have e2:=f.far;have e3:=h.over;have e4:=f.above;walk_at "rd"
 have bf:=aG8 he b3.1 b3.2.1 b3.2.2 b3'.1 b3'.2.1 b3'.2.2;have q0:=hl.pos;have qn:q≠0:=by grind
 have nn:0<=fK a b c a' b' c' i j k/q:=by
   rw[Rat.div_def];exact Rat.mul_nonneg (AV he) (Rat.le_of_lt (Rat.inv_pos.mpr q0))
 exact⟨q,rfl,hl,bq,a,b,c,a',b',c',x,i,j,k,rfl,hx,he,b3.1,b3.2.1,b3.2.2,b3'.1,b3'.2.1,b3'.2.2,_,rfl,bf.mono ddq,bq.mono ddq,qn,_,rfl,nn,(bf.dv bq qn ddq),λr hr=>Wk.here (hq r hr)⟩
noncomputable def pwB:CS:=.seq (.asg (.gn 6) (.bin .Add (.bin .Mult (.bin .Mult (.idx (.var 4) (.int 0)) (.idx (.var 5) (.int 1))) (.bin .Sub (.idx (.var 2) (.int 1)) (.idx (.var 2) (.int 0)))) (.bin .Mult (.bin .Mult (.idx (.var 5) (.int 0)) (.idx (.var 4) (.int 1))) (.idx (.var 2) (.int 0))))) (.ex (.app (.var 3) (.cal "lowest" %[.var 6,.bin .Mult (.bin .Mult (.idx (.var 4) (.int 1)) (.idx (.var 5) (.int 1))) (.idx (.var 2) (.int 1))|_])))
noncomputable def nB:CS:=.seq (.asg (.gn 3) (.lst true .nil)) (.seq (.fr (.gt 2 %[.gn 4,.gn 5|_]) (.izp %[.cal "shares_of" %[.var 0|_],.cal "shares_of" %[.var 1|_]|_]) pwB) (.ret (.cal "shade_of" %[.var 3|_])))
theorem aIJ(hm:1<=m):Rat.divInt (a.num*(a'.den:Int)*(m-p)+a'.num*(a.den:Int)*p) ((a.den:Int)*(a'.den:Int)*m)=pw a a' p m:=by
 have nz:∀{u:Int},u≠0->(u:Rat)≠0:=λh z=>h (Rat.intCast_eq_zero_iff.mp z);have n1:=nz (aZ (q:=a));have n2:=nz (aZ (q:=a'));have n3:=nz (show m≠0 by omega);have h1:(a.num:Rat)=a*((a.den:Int):Rat):=by
   have:=Rat.div_mul_cancel (a:=(a.num:Rat)) n1;rw[<-Rat.divInt_eq_div,Rat.num_divInt_den] at this;exact this.symm
 have h2:(a'.num:Rat)=a'*((a'.den:Int):Rat):=by
   have:=Rat.div_mul_cancel (a:=(a'.num:Rat)) n2;rw[<-Rat.divInt_eq_div,Rat.num_divInt_den] at this;exact this.symm
 have h3:(p:Rat)=Rat.divInt p m*(m:Rat):=by
   rw[Rat.divInt_eq_div];exact(Rat.div_mul_cancel n3).symm
 unfold pw;generalize Rat.divInt p m=t at *;rw[Rat.divInt_eq_div];simp only[Rat.intCast_add,Rat.intCast_mul,Rat.intCast_sub];rw[h1,h2,h3];generalize ((a.den:Int):Rat)=u at *;generalize ((a'.den:Int):Rat)=v at *;generalize (m:Rat)=w at *;have hv:u*v*w≠0:=by
   intro q;simp only[Rat.mul_eq_zero] at q
   grind
 have key:a*u*v*(w-t*w)+a'*v*u*(t*w)=(a+t*(a'-a))*(u*v*w):=by grind
 rw[key];exact Rat.mul_div_cancel hv
theorem ML(ha:In1 a)(ha':In1 a')(p0:0<=p)(pm:p<=m)(m1:1<=m):In1 (pw a a' p m):=by
 have t0:0<=Rat.divInt p m/\Rat.divInt p m<=1:=by
   have e:Rat.divInt p m*(m:Rat)=(p:Rat):=by
     rw[Rat.divInt_eq_div];exact Rat.div_mul_cancel (λz=>by have:=Rat.intCast_eq_zero_iff.mp z;omega)
   have hm:(0:Rat)<(m:Rat):=Rat.intCast_pos.mpr ooq;have hp:(0:Rat)<=(p:Rat):=Rat.intCast_nonneg.mpr p0;have hpm:(p:Rat)<=(m:Rat):=Rat.intCast_le_intCast.mpr pm;exact⟨Rat.le_of_mul_le_mul_right (c:=(m:Rat)) (by grind) hm,Rat.le_of_mul_le_mul_right (c:=(m:Rat)) (by grind) hm⟩
 unfold pw;generalize Rat.divInt p m=t at *;obtain⟨x0,x1⟩:=ha;obtain⟨y0,y1⟩:=ha';obtain⟨u0,u1⟩:=t0;have k1:0<=t*a':=Rat.mul_nonneg u0 y0;have k2:0<=(1-t)*a:=Rat.mul_nonneg (by grind) x0;have k3:0<=t*(1-a'):=Rat.mul_nonneg u0 (by grind);have k4:0<=(1-t)*(1-a):=Rat.mul_nonneg (by grind) (by grind);exact⟨by grind,by grind⟩
theorem SF(h:PT T)(hl:G l=some (.lst ys))(hy:ys.length<=100)(ba:Bd 100 a)(ba':Bd 100 a')(sm:Sm 20 m)(sp:Sm 20 p)(sd:Sm 20 (m-p))(m1:1<=m)
   (q:∀x6,D.nx [x0,x1,some (.tup [.int p,.int m]),some (.ref l),some (FQ a),some (FQ a'),x6] (gup G l (.lst (ys++[FQ (pw a a' p m)])))):wpS T pwB D [x0,x1,some (.tup [.int p,.int m]),some (.ref l),some (FQ a),some (FQ a'),x6] G:=by
 unfold pwB;have e2:=h.lowest;have MB:∀{n k:Nat} {x y:Int},Sm n x->Sm k y->n<=400->k<=400->oZ x y:=λhx hy hn hk=>eK (hx.mono hn) (hy.mono hk);have nz:(a.den:Int)*(a'.den:Int)*m≠0:=bW (bW aZ aZ) ooq;have c1:=MB ba.1 ba'.2 ddq ddq;have c2:=MB (ba.1.mul ba'.2) sd ddq ddq;have c3:=MB ba'.1 ba.2 ddq ddq;have c4:=MB (ba'.1.mul ba.2) sp ddq ddq;have c5:=MB ba.2 ba'.2 ddq ddq;have c6:=MB (ba.2.mul ba'.2) sm ddq ddq;have s1:Sm 9000 ((a.den:Int)*(a'.den:Int)*m):=((ba.2.mul ba'.2).mul sm).mono ddq;have ag:∀{R:List PV->Prop},(∃xs,G l=some (GO.lst xs)/\R xs)=R ys:=λ{R}=>propext ⟨by rintro⟨xs,e,r⟩;rw[hl] at e;cases e;exact r,λr=>⟨_,hl,r⟩⟩;have pe:=@aIJ;have hz:ys.length<sizeLine:=by rw[sizeLine_eq];omega
 have q:=q (some (.int (a.num*(a'.den:Int)*(m-p)+a'.num*(a.den:Int)*p)));clear MB;walk_at "rd"
 exact⟨⟨ys,eG hl⟩,nz,ys,rfl,hz,q⟩
theorem FS(h:PT T):∀xs G Q,zL xs G Q->wpS T nB (aH Q) (aB 7 xs) G:=by
 rintro xs G Q ⟨a,b,c,a',b',c',p,m,rfl,i3,i3',b3,b3',p0,pm,m1,m2,hq⟩;unfold nB;have:=h.shares_of;have e3:=h.shade_of;have sm:Sm 20 m:=by unfold Sm;omega
 have sp:Sm 20 p:=by unfold Sm;omega
 have sd:Sm 20 (m-p):=by unfold Sm;omega
 generalize eB:pwB=B;walk_at "rd"
 subst eB;refine⟨Nat.zero_le _,λl hl=>⟨.inl trivial,3,[[FQ a,FQ b,FQ c],[FQ a',FQ b',FQ c']],rfl,by simp,?_⟩⟩;rw[aDr];refine⟨trivial,_,rfl,rfl,_,_,rfl,_,_,rfl,rfl,SF h aD (by simp) b3.1 b3'.1 sm sp sd m1 λ_=>?_⟩;refine⟨trivial,_,rfl,rfl,_,_,rfl,_,_,rfl,rfl,SF h aD (by simp) b3.2.1 b3'.2.1 sm sp sd m1 λ_=>?_⟩;refine⟨trivial,_,rfl,rfl,_,_,rfl,_,_,rfl,rfl,SF h aD (by simp) b3.2.2 b3'.2.2 sm sp sd m1 λ_=>?_⟩;refine⟨trivial,_,_,_,eG aD,ML i3.1 i3'.1 p0 pm m1,ML i3.2.1 i3'.2.1 p0 pm m1,ML i3.2.2 i3'.2.2 p0 pm m1,Wk.of hq λz o e=>?_⟩;have ne:z≠l:=λw=>by subst w;rw[hl] at e;cases e
 rw[bQ ne,bQ ne,bQ ne,bQ ne];exact e
end
theorem CU(J:PSt->Prop)(f:PV->PV):∀(xs acc:List PV) (σ:PSt),J σ->(∀x∈xs,∀σ (R:PV->PSt->Gh->Prop),J σ->(∀σ',J σ'->R (f x) σ' G)->g x σ G λσ2 G2=>te σ2 G2 λy G3=>R y σ2 G3)->
   Q (acc++xs.map f) G->fM (λ_=>True) g (λ_ G Q=>Q true G) te xs acc σ G Q
 | [],acc,σ,_,_,q=>⟨trivial,by simpa using q⟩
 | x::r,acc,σ,j,h,q=>by
   refine⟨trivial,?_⟩;simp only[if_true];refine h x (wDq ..) σ (λy σ' G'=>fM (λ_=>True) g (λ_ G Q=>Q true G) te r (acc++[y]) σ' G' Q) j λσ' j'=>?_;refine CU J f r _ _ j' (λx hx=>h x (wCq _ hx)) ?_;rw[List.append_assoc];simpa using q
theorem MK{lo:Int}{n:Nat}{x:PV}(h:x∈mY lo n):∃k:Nat,x= .int (lo+(k:Int))/\k<n:=by
 unfold mY at h;obtain⟨k,hk,rfl⟩:=List.mem_map.mp h;exact⟨k,rfl,List.mem_range.mp hk⟩
theorem aKo{x y:Int}(hx:0<=x)(hy:0<=y)(h:x*x<y*y):x<y:=by
 rcases Int.lt_or_le x y with z|z
 . exact z
 . have:=Int.mul_le_mul z z hy hx;omega
theorem aC1(h:Ra q r)(hm:0<=m)(hq:q<=((m*m:Int):Rat)):r<=m:=by
 obtain⟨h0,h1,h2⟩:=h;rcases Int.lt_or_le 0 r with z|z
 . have:=h2 z;have k:(((r-1)*(r-1):Int):Rat)<((m*m:Int):Rat):=by grind
   have k2:=Rat.intCast_lt_intCast.mp k;have:=aKo (x:=r-1) (y:=m) ooq hm k2;omega
 . omega
theorem aKp{x y m:Rat}(hy:0<y)(h:x<=m*y):x/y<=m:=by
 have e:x/y*y=x:=Rat.div_mul_cancel (by grind);exact Rat.le_of_mul_le_mul_right (c:=y) (by grind) hy
noncomputable def fSt(a b c a' b' c':Rat)(m:Int):PV->PV
 | .int p=>stt a b c a' b' c' m p
 | x=>x
theorem aFK:(mY 0 (n+1)).map (fSt a b c a' b' c' (max (n:Int) 1))=stL a b c a' b' c' n:=by
 unfold mY stL;rw[List.map_map];refine List.map_congr_left λk _=>?_;show stt a b c a' b' c' (max (n:Int) 1) (0+(k:Int))=_;rw[Int.zero_add]
local macro_rules | `(tactic| walk_at "rz") => wk (wqB++" rM List.getElem?_cons_zero List.getElem?_cons_succ exists_false false_and and_false fH pS rC lR zZ bJ QV Option.getD_some sz2 Int.reduceEq Int.reduceNe")
section
variable{T:Tb}
noncomputable def gZ:CS:=.seq (.asg (.gn 5) (.cal "steps_between" %[.var 1,.var 2,.var 3,.var 4|_])) (.seq (.asg (.gn 6) (.blt .max %[.var 5,.int 1|_])) (.fld (.var 0) "stations" (.blt .tuple %[.cmpr false (.gn 1) (.irg %[.bin .Add (.var 5) (.int 1)|_]) .nil (.cal "part_way" %[.var 4,.var 3,.tup %[.var 1,.var 2|_]|_]) [none,none,some 6,some 2,some 1]|_])))
theorem wD(h:PT T)(f:PF T):∀xs G Q,HK xs G Q->wpS T gZ (aH Q) (aB 7 xs) G:=by
 rintro xs G Q ⟨l,a,b,c,a',b',c',x,i,j,k,q,rfl,hl,hx,he,i3,i3',b3,b3',hL,bq,hf,hq⟩;unfold gZ;have e1:=f.steps;have e2:=f.partw;have sb:∀{G:Gh} {Q:PK1},(∀r,Ra (fK a b c a' b' c' i j k/q) r->Q (.int r) G)->T.S "steps_between" [SH a b c,SH a' b' c',FQ q,x] G Q:=λz=>by rw[e1];exact⟨_,_,_,_,_,_,_,_,_,_,_,rfl,hx,he,b3,b3',hL,bq,z⟩
 have pt:∀{G:Gh} {Q:PK1} {p m:Int},0<=p->p<=m->1<=m->m<=1000000->Q (stt a b c a' b' c' m p) G->T.S "part_way" [SH a b c,SH a' b' c',.tup [.int p,.int m]] G Q:=λp0 pm m1 m2 z=>by rw[e2];exact⟨_,_,_,_,_,_,_,_,rfl,i3,i3',b3,b3',p0,pm,m1,m2,z⟩
 clear e1 e2;have:=@yT;walk_at "rz"
 refine sb λr hr=>?_;have r3:r<=1000:=aC1 hr ddq (aKp hL.pos hf);have r0:=hr.1;walk_at "rz"
 obtain⟨n,rfl⟩:∃n:Nat,r=(n:Int):=⟨r.toNat,by omega⟩;have en:((n:Int)+1).toNat=n+1:=by omega
 rw[en];refine⟨by omega,by omega,?_,CU (λσ=>∃v0 v1,σ=[v0,v1,some (.int (max (n:Int) 1)),some (SH a' b' c'),some (SH a b c)]) (fSt a b c a' b' c' (max (n:Int) 1)) _ [] _ ⟨_,_,rfl⟩ ?_ ?_⟩
 . unfold mY;rw[List.length_map,List.length_range,sizeLine_eq];omega
 . rintro v hv σ R ⟨v0,v1,rfl⟩ hR;obtain⟨p,rfl,hp⟩:=MK hv;have h1:(0:Int)+(p:Int)<=max (n:Int) 1:=by omega
   walk_at "rz"
   refine pt ooq h1 ooq ooq ?_;exact hR _ ⟨_,_,rfl⟩
 . rw[List.nil_append,aFK];exact⟨_,_,_,hl,f.flR,by decide,Wk.here (hq n ooq hr)⟩
theorem zS(f:PF T):aHc T "Row" "Row" "Row.__init__":=by
 intro xs G Q q p hp;rw[f.row] at q;rw[f.rowI];obtain⟨a,b,c,a',b',c',x,i,j,k,l,rfl,h1,h2,h3,h4,h5,h6,h7,h8,h9,q⟩:=q;refine⟨p,a,b,c,a',b',c',x,i,j,k,l,rfl,aD,h1,h2,h3,h4,h5,h6,h7,h8,h9,λn hn hr=>⟨rfl,_,_,aD,?_⟩⟩;rw[cS,FL hp];exact q n hn hr
noncomputable def jN:CS:=.ret (.blt .len %[.att (.var 0) "stations"|_])
theorem xK(f:PF T):∀xs G Q,wC xs G Q->wpS T jN (aH Q) (aB 1 xs) G:=by
 rintro xs G Q ⟨ys,rfl,hq⟩;unfold jN;have e1:∀G Q,EB T (.ob "Row" ["stations"] [.tup ys]) "stations" G Q=Q (.tup ys) G:=λG Q=>pL f.flR rfl;walk_at "rz"
noncomputable def yI:CS:=.seq (.ex (.cal "need_fractions" %[.tup %[.var 0,.var 1|_]|_])) (.seq (.iff (.tsb (.cmp .Eq (.idx (.var 1) (.int 0)) (.int 0))) .nev .nil) (.ret (.cal "lowest" %[.bin .Mult (.idx (.var 0) (.int 0)) (.idx (.var 1) (.int 1)),.bin .Mult (.idx (.var 0) (.int 1)) (.idx (.var 1) (.int 0))|_])))
theorem aEm(h:PT T):∀xs G Q,lU xs G Q->wpS T yI (aH Q) (aB 2 xs) G:=by
 rintro xs G Q ⟨a,b,rfl,ha,hb,h0,hq⟩;unfold yI;have:=h.need_fractions;have:=h.lowest;have n0:¬b.num=0:=λz=>h0 (Rat.num_eq_zero.mp z);walk_at "rz"
 refine⟨eK ha.1 hb.2,eK ha.2 hb.1,bW aZ n0,(ha.2.mul hb.1).mono ddq,Wk.here ?_⟩;rw[UC];exact hq
end
noncomputable def aL(r:R3):PV:=.tup [FQ r.1,FQ r.2.1,FQ r.2.2]
def Ok3(n:Nat)(r:R3):Prop:=I3 r.1 r.2.1 r.2.2/\Bd n r.1/\Bd n r.2.1/\Bd n r.2.2
noncomputable def cB(x y:R3)(i j k:Int):Rat:=fK x.1 x.2.1 x.2.2 y.1 y.2.1 y.2.2 i j k
theorem pT:Txt.join sep ys=Str.join sep ys:=eq_of_beq (join_closes rfl)
theorem aIO:Txt.join ("":Str) [s]=s:=by rw[pT];rfl
noncomputable def iT(n:Int):Str:=toString n
theorem nK(h:n.natAbs<10^64):(iT n).length<=65:=by
 have h1:=int_text_length_le10 (k:=64) ddq h;unfold iT;show(Str.ofString (toString n)).length<=65;rw[PySem.ofString_length];omega
noncomputable def wr(q:Rat):Str:=if (q.den:Int)=1 then iT q.num else iT q.num++(("/":Str)++iT (q.den:Int))
noncomputable def pP(r:R3):Str:=Txt.join (" ":Str) [wr r.1,wr r.2.1,wr r.2.2]
theorem bA{a b:Str}:(a++b).length=a.length+b.length:=by
 show(a++b).cps.size=_;rw[Str.cps_append,Array.size_append];rfl
theorem tH(h:Sm 200 n):n.natAbs<10^64:=Nat.lt_trans (show n.natAbs<2^200 from h) ddq
theorem jV(h:Bd 200 q):(wr q).length<=131:=by
 have h1:=nK (tH h.1);have h2:=nK (tH h.2);have h3:("/":Str).length=1:=rfl;unfold wr;split
 . omega
 . rw[bA,bA];omega
theorem UH(h1:Bd 200 r.1)(h2:Bd 200 r.2.1)(h3:Bd 200 r.2.2):(pP r).length<=395:=by
 unfold pP;rw[pT];show(wr r.1++(" ":Str)++(wr r.2.1++(" ":Str)++wr r.2.2)).length<=395;have e:(" ":Str).length=1:=rfl;have:=jV h1;have:=jV h2;have:=jV h3;rw[bA,bA,bA,bA,e];omega
def Sh7(n:Nat)(r:R3):Prop:=(In1 r.1/\In1 r.2.1/\In1 r.2.2)/\Bd n r.1/\Bd n r.2.1/\Bd n r.2.2
def VX:Sp3:=λxs G Q=>∃n:Int,xs=[.int n]/\0<=n/\Sm 200 n/\Q (.str (iT n)) G
def aAU:Sp3:=λxs G Q=>∃q,xs=[FQ q]/\0<=q/\Bd 200 q/\Q (.str (wr q)) G
def HR:Sp3:=λxs G Q=>∃r,xs=[shV r]/\Sh7 200 r/\Q (.str (pP r)) G
theorem IZ(hx:In1 x)(hy:In1 y):(x-y)*(x-y)<=1:=by
 obtain⟨a,b⟩:=hx;obtain⟨c,d⟩:=hy;have h1:0<=(1-(x-y))*(1+(x-y)):=Rat.mul_nonneg (by grind) (by grind)
 grind
theorem HP(e:Ey i j k)(hx:I3 x.1 x.2.1 x.2.2)(hy:I3 y.1 y.2.1 y.2.2):cB x y i j k<=297:=by
 obtain⟨⟨i1,i2⟩,⟨j1,j2⟩,⟨k1,k2⟩⟩:=e;have a1:=IZ hx.1 hy.1;have a2:=IZ hx.2.1 hy.2.1;have a3:=IZ hx.2.2 hy.2.2;have c99:((99:Int):Rat)=99:=rfl;have b1:(i:Rat)<=99:=by rw[<-c99];exact Rat.intCast_le_intCast.mpr i2
 have b2:(j:Rat)<=99:=by rw[<-c99];exact Rat.intCast_le_intCast.mpr j2
 have b3:(k:Rat)<=99:=by rw[<-c99];exact Rat.intCast_le_intCast.mpr k2
 have p1:=kC i1;have p2:=kC j1;have p3:=kC k1;have m:∀{t u:Rat},1<=t->t<=99->0<=u->u<=1->t*u<=99:=λ{t u} h1 h2 h3 h4=>by
   have:0<=t*(1-u):=Rat.mul_nonneg (by grind) (by grind)
   grind
 have q1:=m p1 b1 (mZ (x.1-y.1)) a1;have q2:=m p2 b2 (mZ (x.2.1-y.2.1)) a2;have q3:=m p3 b3 (mZ (x.2.2-y.2.2)) a3;unfold cB fK
 grind
noncomputable def pt(x y:R3)(m p:Int):R3:=(pw x.1 y.1 p m,pw x.2.1 y.2.1 p m,pw x.2.2 y.2.2 p m)
noncomputable def sts(x y:R3)(n:Nat):List R3:=(List.range (n+1)).map λ(p:Nat)=>pt x y (max (n:Int) 1) (p:Int)
noncomputable def ROW(rs:List R3):PV:=.ob "Row" ["stations"] [.tup (rs.map shV)]
noncomputable def LR3(rs:List R3):PV:=.lst (rs.map aL)
noncomputable def DI(rs:List R3):Str:=Txt.join (" > ":Str) (rs.map pP)
noncomputable def aID(rs:List R3):Str:=("Row(":Str)++DI rs++(")":Str)
def SR(c:J8)(x:PV)(G:Gh):Prop:= ∀(cs:List J8) (Q:PK1),"Row"∈cs->"Shade"∈cs->c∈cs->Q (.bl false) G->cT cs .isi [x,.cl c] G Q
def aGd:Sp3:=λxs G Q=>∃(rs:List R3) (p:Nat) (r:R3),xs=[ROW rs,.int (p:Int)]/\rs[p]? =some r/\rs.length<=1000000/\Q (shV r) G
def RD:Sp3:=λxs G Q=>∃rs:List R3,xs=[ROW rs]/\∀p,G p=none->Q (.ref p) (gup G p (.lst (rs.map shV)))
def XQ:Sp3:=λxs G Q=>∃(rs:List R3) (x:PV),xs=[ROW rs,x]/\((∃ss:List R3,x=ROW ss/\Q (.bl (decide (rs=ss))) G)∨(SR "Row" x G/\Q (.bl false) G))
def VC:Sp3:=λxs G Q=>∃(r:R3) (x:PV),xs=[shV r,x]/\((∃s:R3,x=shV s/\Q (.bl (decide (r=s))) G)∨(SR "Shade" x G/\Q (.bl false) G))
def IK:Sp3:=λxs G Q=>∃rs:List R3,xs=[ROW rs]/\rs.length<=1000/\(∀r∈rs,Sh7 200 r)/\Q (.str (DI rs)) G
def IS:Sp3:=λxs G Q=>∃rs:List R3,xs=[ROW rs]/\rs.length<=1000/\(∀r∈rs,Sh7 200 r)/\Q (.str (aID rs)) G
def AN:Sp3:=λxs G Q=>∃r:R3,xs=[shV r]/\Q (aL r) G
def GX:Sp3:=aAU
def BU:Sp3:=λxs G Q=>∃rs:List R3,xs=[LR3 rs]/\rs.length<=1000/\(∀r∈rs,Sh7 200 r)/\Q (.str (DI rs)) G
def wM:Sp3:=λxs G Q=>∃a q:Rat,xs=[FQ a,FQ q]/\0<=a/\0<q/\Bd 1300 a/\Bd 2000 q/\a<=4000000*q/\∀r,Ra (a/q) r->Q (.int r) G
def GN:Sp3:=λxs G Q=>∃(p:Addr) (a:Rat),xs=[.ref p,FQ a]/\Pu p G/\0<=a/\a<=297/\Bd 700 a/\∀q G',Lim q->Bd 900 q->a<=900*q->Pn p G G'->Q (FQ q) G'
def aAj:Sp3:=λxs G Q=>∃(x y:R3) (n:Nat),xs=[aL x,aL y,.int (n:Int)]/\n<=1000/\Ok3 12 x/\Ok3 12 y/\Q (LR3 (sts x y n)) G
def HH:Sp3:=λxs G Q=>∃rs:List R3,xs=[ROW rs,LR3 rs]/\1<=rs.length/\rs.length<=1000/\(∀r∈rs,Sh7 200 r)/\Q (.bl true) G
noncomputable def aGj(ss:List R3):PV:=.tup [ROW ss,LR3 ss]
def AK:Sp3:=λxs G Q=>∃(rs:List R3) (os:List (List R3)) (l:Addr),xs=[ROW rs,LR3 rs,.ref l]/\G l=some (.lst (os.map aGj))/\os.length<=10/\1<=rs.length/\rs.length<=1000/\(∀r∈rs,Sh7 200 r)/\Q (.bl true) G
def GW:Sp3:=λxs G Q=>∃(x y:R3) (n:Nat),xs=[shV x,shV y,aL x,aL y,.int (n:Int),ROW (sts x y n)]/\2<=n/\n<=1000/\Ok3 12 x/\Ok3 12 y/\Q (.bl true) G
def wA:Sp3:=λxs G Q=>∃p,xs=[.ref p]/\Pu p G/\∀G',Pn p G G'->Q (.bl true) G'
def sD:Sp3:=λxs G Q=>∃(p:Addr) (x y z:R3) (e:PV) (i j k:Int),xs=[.ref p,aL x,aL y,aL z,e]/\Pu p G/\iS e i j k/\Ey i j k/\Ok3 12 x/\Ok3 12 y/\Ok3 12 z/\∀G',Pk p G G'->Q (.bl true) G'
structure L28(T:Tb):Prop where
 gv_PIECE:T.gv "PIECE"= .int (10^64)
 gv_PIECE_F:T.gv "PIECE_FIGURES"= .int 64
 figures:T.S "figures"=VX
 written:T.S "written"=aAU
 strS:T.S "Shade.__str__"=HR
 eqS:T.S "Shade.__eq__"=VC
 at_:T.S "Row.at"=aGd
 rowSh:T.S "Row.shades"=RD
 eqR:T.S "Row.__eq__"=XQ
 strR:T.S "Row.__str__"=IK
 repR:T.S "Row.__repr__"=IS
 told:T.S "_law_told"=AN
 text:T.S "_law_text"=GX
 shown:T.S "_law_shown"=BU
 stepsL:T.S "_law_steps"=wM
 limL:T.S "_law_limit"=GN
 due:T.S "_law_due"=aAj
 rowR:T.S "_law_row_right"=HH
 alike:T.S "_law_alike_right"=AK
 long:T.S "_law_long_right"=GW
 greatR:T.S "_law_greatest_right"=wA
 right:T.S "_law_right"=sD
 made:T.S "_law_made"=AL
 farL:T.S "_law_far"=BB
 eyeL:T.S "_law_eye"=IU
 ty_str:T.gv "str"= .ty "str"
theorem FN:cT cs .str [.int i] G Q=(i.natAbs.log2<1920/\Q (.str (iT i)) G):=rfl
theorem RM(h:Sm 200 i):i.natAbs.log2<1920:=by
 by_cases e:i.natAbs=0
 . rw[e];decide
 . exact wFq ((Nat.log2_lt e).mpr h) ddq
theorem aKJ:(10:Int)^64=10000000000000000000000000000000000000000000000000000000000000000:=by decide
theorem aMg(h:Sm 200 n):n<10^64:=by
 have:n.natAbs<10^64:=tH h;have e:((10^64:Nat):Int)=(10:Int)^64:=by decide
 omega
theorem aC5:shV r=SH r.1 r.2.1 r.2.2:=rfl
theorem aEI(h:Sm 200 n):¬(10:Int)^64<=n:=by have:=aMg h;omega
local macro_rules | `(tactic| walk_at "rd") => wk (wqB++" rN gF zW zE SD nL exists_false false_and zX yM dI lI iY zZ exists_eq' eI dB sA cI FN aC5 wpJ Str.empty_append")
section
variable{T:Tb}
noncomputable def pU:CS:=.seq (.asg (.gn 1) (.lst true .nil)) (.seq (.wh (.tsb (.cmp .GtE (.var 0) (.glo "PIECE"))) .nev) (.seq (.ex (.app (.var 1) (.blt .str %[.var 0|_]))) (.ret (.joi (.str "") (.rev (.var 1))))))
theorem PC(k:L28 T):∀xs G Q,VX xs G Q->wpS T pU (aH Q) (aB 3 xs) G:=by
 rintro xs G Q ⟨n,rfl,h0,sn,hq⟩;unfold pU;have:=k.gv_PIECE;have:=aEI sn;have:=RM sn;walk_at "rd"
 refine⟨Nat.zero_le _,λp hp=>?_⟩;refine⟨λm σ H=>σ=[some (.int n),some (.ref p),none]/\H=gup G p (.lst []),⟨0,rfl,rfl⟩,?_⟩;rintro m σ H ⟨rfl,rfl⟩;walk_at "rd"
 rw[jb (by rw[<-aKJ];assumption)];refine⟨_,aD,by decide,[iT n],rfl,?_,?_⟩
 . have:=nK (tH sn);show(iT n).length+0+1*0<=16777216;omega
 . rw[aIO];refine Wk.of hq λa o z=>?_;rw[cS,bQ (λe=>by subst e;rw[hp] at z;cases z)];exact z
noncomputable def pA:CS:=.seq (.iff (.tsb (.cmp .Eq (.idx (.var 0) (.int 1)) (.int 1))) (.ret (.cal "figures" %[.idx (.var 0) (.int 0)|_])) .nil) (.ret (.fst %[.cal "figures" %[.idx (.var 0) (.int 0)|_],.str "/",.cal "figures" %[.idx (.var 0) (.int 1)|_]|_]))
theorem QA(k:L28 T):∀xs G Q,aAU xs G Q->wpS T pA (aH Q) (aB 1 xs) G:=by
 rintro xs G Q ⟨q,rfl,h0,bq,hq⟩;unfold pA;have e1:=k.figures;have fg:∀{n:Int} {G:Gh} {Q:PK1},0<=n->Sm 200 n->Q (.str (iT n)) G->T.S "figures" [.int n] G Q:=λ{n G Q} h h' q=>by rw[e1];exact⟨n,rfl,h,h',q⟩
 clear e1;unfold wr at hq;walk_at "rd"
 by_cases e:(q.den:Int)=1
 . rw[jd e] at hq ⊢;exact fg (zO h0) bq.1 (Wk.here hq)
 . rw[jb e] at hq ⊢;have l1:=nK (tH bq.1);have l2:=nK (tH bq.2);have l3:("/":Str).length=1:=rfl;have hs:=sizeLine_eq;walk_at "rd"
   refine fg (zO h0) bq.1 ⟨_,rfl,by omega,by omega,by omega,by rw[bA];omega,fg (Int.natCast_nonneg _) bq.2 ⟨_,rfl,by omega,?_,?_,?_⟩⟩
   . rw[bA,bA];omega
   . rw[bA,bA];omega
   . rw[Str.append_assoc];exact Wk.here hq
theorem sp1:(" ":Str).length=1:=rfl
noncomputable def gN:CS:=.ret (.joi (.str " ") (.cmpr false (.gn 1) (.isq (.cal "shares_of" %[.var 0|_])) .nil (.cal "written" %[.var 1|_]) [none,none]))
theorem uF(h:PT T)(k:L28 T):∀xs G Q,HR xs G Q->wpS T gN (aH Q) (aB 1 xs) G:=by
 rintro xs G Q ⟨r,rfl,⟨⟨i1,i2,i3⟩,b1,b2,b3⟩,hq⟩;unfold gN;have:=h.shares_of;have e1:=k.written;have wt:∀{q:Rat} {G:Gh} {Q:PK1},In1 q->Bd 200 q->Q (.str (wr q)) G->T.S "written" [FQ q] G Q:=λ{q G Q} h h' z=>by rw[e1];exact⟨q,rfl,h.1,h',z⟩
 clear e1;have l1:=jV b1;have l2:=jV b2;have l3:=jV b3;walk_at "rd"
 refine wt i1 b1 (wt i2 b2 (wt i3 b3 ⟨[wr r.1,wr r.2.1,wr r.2.2],rfl,?_,Wk.here hq⟩));show(wr r.1).length+((wr r.2.1).length+((wr r.2.2).length+0))+3*1<=16777216;omega
end
local macro_rules | `(tactic| walk_at "rd") => wk (wqB++" List.getElem?_cons_zero exists_false false_and and_false gC cA lR at0 at1 at2 iI yW eI dB zB Option.getD_some oG jS fA jT oX sz2")
section
variable{T:Tb}
noncomputable def kY:CS:=.ret (.cal "Shade" %[.idx (.var 0) (.int 0),.idx (.var 0) (.int 1),.idx (.var 0) (.int 2)|_])
theorem CH(h:PT T):∀xs G Q,AL xs G Q->wpS T kY (aH Q) (aB 1 xs) G:=by
 rintro xs G Q ⟨a,b,c,rfl,ia,ib,ic,hq⟩;unfold kY;have:=h.shade;walk_at "rd"
noncomputable def faB:CS:=.seq (.asg (.gn 5) (.cal "_law_minus" %[.idx (.var 0) (.var 4),.idx (.var 1) (.var 4)|_])) (.asg (.gn 3) (.cal "_law_plus" %[.var 3,.cal "_law_times" %[.tup %[.idx (.var 2) (.var 4),.int 1|_],.cal "_law_times" %[.var 5,.var 5|_]|_]|_]))
noncomputable def vJ:CS:=.seq (.asg (.gn 3) (.tup %[.int 0,.int 1|_])) (.seq (.fr (.gn 4) (.irg %[.int 3|_]) faB) (.ret (.var 3)))
theorem YK(l:LT T){D:eU}{X Y Z:List PV}{n m:Int}{k:Nat}{t a a':Rat}{x5:Option PV}{G:Gh}(h1:atI X n=some (FQ a))(h2:atI Y n=some (FQ a'))(h3:atI Z n=some (.int m))(ba:Bd 100 a)(ba':Bd 100 a')(bm:Bd 7 (m:Rat))(bt:Bd k t)(hk:k<=3000)
   (q:∀x5,D.nx [some (.tup X),some (.tup Y),some (.tup Z),some (FQ (t+(m:Rat)*((a-a')*(a-a')))),some (.int n),x5] G):wpS T faB D [some (.tup X),some (.tup Y),some (.tup Z),some (FQ t),some (.int n),x5] G:=by
 unfold faB;have:=l.minus;have:=l.plus;have:=l.times;have:=@lL;have x:=ba.sub ba' (show 100+100+1<=201 by decide);have xx:=x.mul x (show 201+201<=402 by decide);have x2:=bm.mul xx (show 7+402<=409 by decide);have:=ba.mono (show 100<=4000 by decide);have:=ba'.mono (show 100<=4000 by decide);have:=bm.mono (show 7<=4000 by decide);have:=bt.mono (show k<=4000 by omega);have:=x.mono (show 201<=4000 by decide);have:=xx.mono (show 402<=4000 by decide);have:=x2.mono (show 409<=4000 by decide);have q:=q (some (FQ (a-a')));walk_at "rd"
theorem aCy(l:LT T):∀xs G Q,BB xs G Q->wpS T vJ (aH Q) (aB 6 xs) G:=by
 rintro xs G Q ⟨a,b,c,a',b',c',i,j,k,rfl,⟨⟨i1,i2⟩,⟨j1,j2⟩,⟨k1,k2⟩⟩,ba,bb,bc,ba',bb',bc',hq⟩;unfold vJ;have:=@yT;have:=@lL;have bi:Bd 7 (i:Rat):=Bd.int (sm7 i1 i2) ddq;have bj:Bd 7 (j:Rat):=Bd.int (sm7 j1 j2) ddq;have bk:Bd 7 (k:Rat):=Bd.int (sm7 k1 k2) ddq;have ad:∀{n:Nat} {t x x' y:Rat},Bd n t->Bd 7 y->Bd 100 x->Bd 100 x'->Bd (n+410) (t+y*((x-x')*(x-x'))):=λbt by' bx bx'=>bt.add (by'.mul ((bx.sub bx' (show 100+100+1<=201 by decide)).mul (bx.sub bx' (show 100+100+1<=201 by decide)) (show 201+201<=402 by decide)) (show 7+402<=409 by decide)) ooq
 have b0:Bd 2 ((0:Int):Rat):=⟨by unfold Sm;decide +kernel,by unfold Sm;decide +kernel⟩;have e:((0:Int):Rat)+(i:Rat)*((a-a')*(a-a'))+(j:Rat)*((b-b')*(b-b'))+(k:Rat)*((c-c')*(c-c'))=fK a b c a' b' c' i j k:=by
   have:((0:Int):Rat)=0:=rfl;rw[this];unfold fK;grind
 generalize eB:faB=B;walk_at "rd"
 subst eB;refine⟨by decide,by decide,YK l at0 at0 at0 ba ba' bi b0 ddq λ_=>⟨trivial,YK l at1 at1 at1 bb bb' bj (ad b0 bi ba ba') ddq λ_=>⟨trivial,YK l at2 at2 at2 bc bc' bk (ad (ad b0 bi ba ba') bj bb bb') ddq λ_=>⟨trivial,?_⟩⟩⟩⟩;show Wk Q (FQ _) G;rw[e];exact Wk.here hq
noncomputable def eyE:CE:=.bin .Add (.int 1) (.cal "_law_pick" %[.var 2,.int 99|_])
noncomputable def vH:CS:=.seq (.asg (.gn 1) (.cal "_law_pick" %[.var 0,.int 3|_])) (.ret (.idx (.lst false %[.tup %[.int 1,.int 1,.int 1|_],.tup %[.int 3,.int 6,.int 1|_],.blt .tuple %[.cmpr false (.gn 1) (.irg %[.int 3|_]) .nil eyE [none,none,some 0]|_]|_]) (.var 1)))
theorem YZ(l:LT T)(hp:Pu p G)(q:∀a G',0<=a->a<99->Pn p G G'->R (.int (1+a)) G'):wpE T eyE [x0,x1,some (.ref p)] G R:=by
 unfold eyE;have:=l.pick;walk_at "rd"
 exact⟨by decide,smP ddq ddq,q⟩
theorem aBU(l:LT T):∀xs G Q,IU xs G Q->wpS T vH (aH Q) (aB 2 xs) G:=by
 rintro xs G Q ⟨p,rfl,hp,hq⟩;unfold vH;have:=l.pick;have:=@yT;refine cH λN h0=>?_;walk_at "rd"
 refine⟨by decide,smP ddq ddq,λr G1 r1 r2 n1=>h0.o _ _ ?_⟩;clear h0 N;generalize eB:eyE=B;walk_at "rd"
 subst eB;refine⟨by decide,by decide,YZ l n1.pu λa G2 a1 a2 n2=>YZ l n2.pu λb G3 b1 b2 n3=>YZ l n3.pu λc G4 c1 c2 n4=>?_⟩;have nn:=((n1.trans n2).trans n3).trans n4;have e:r=0∨r=1∨r=2:=by omega
 rcases e with rfl|rfl|rfl
 . exact⟨_,at0,Wk.here (hq 1 1 1 _ Ey.o nn)⟩
 . exact⟨_,at1,Wk.here (hq 3 6 1 _ ⟨⟨by decide,by decide⟩,⟨by decide,by decide⟩,⟨by decide,by decide⟩⟩ nn)⟩
 . exact⟨_,at2,Wk.here (hq (1+a) (1+b) (1+c) _ ⟨⟨by omega,by omega⟩,⟨by omega,by omega⟩,⟨by omega,by omega⟩⟩ nn)⟩
end
theorem aBK{rs:List R3}:cT cs .len [.tup (rs.map shV)] G Q=Q (.int (rs.length:Int)) G:=by rw[pS,List.length_map]
theorem KM{T:Tb}(f:PF T){rs:List R3}{G:Gh}{Q:PK1}:EB T (ROW rs) "stations" G Q=Q (.tup (rs.map shV)) G:=pL f.flR rfl
theorem aAN:cT cs .isi [ROW rs,.cl "Row"] G Q=("Row"∈cs/\Q (.bl true) G):=BM
theorem aCG:cT cs .isi [shV r,.cl "Shade"] G Q=("Shade"∈cs/\Q (.bl true) G):=BM
theorem LL(h:shV r=shV s):r=s:=by
 unfold shV SH at h;injection h with _ _ h;injection h with h1 h;injection h with h2 h;injection h with h3 _;obtain⟨a,b,c⟩:=r;obtain⟨a',b',c'⟩:=s;rw[iI] at h1 h2 h3;simp only at h1 h2 h3;rw[h1,h2,h3]
theorem SQ{r s:R3}:pEq false (.tup [FQ r.1,FQ r.2.1,FQ r.2.2]) (.tup [FQ s.1,FQ s.2.1,FQ s.2.2]) G Q=Q (.bl (decide (r=s))) G:=by
 rw[UF];have e:(decide (r.1=s.1)&&(decide (r.2.1=s.2.1)&&decide (r.2.2=s.2.2)))=decide (r=s):=by
   obtain⟨a,b,c⟩:=r;obtain⟨a',b',c'⟩:=s;simp only[Prod.mk.injEq];by_cases h1:a=a'<;>by_cases h2:b=b'<;>by_cases h3:c=c'<;>simp[h1,h2,h3]
 rw[e]
local macro_rules | `(tactic| walk_at "rd") => wk (wqB++" gF zR aF3 aHL rM and_false mO BI gC dY HW sA cI SQ")
section
variable{T:Tb}
noncomputable def fI:CS:=.ret (.an (.blt .isi %[.var 1,.glo "Shade"|_]) (.cmp .Eq (.cal "shares_of" %[.var 0|_]) (.cal "shares_of" %[.var 1|_])))
theorem rH(h:PT T)(f:PF T):∀xs G Q,VC xs G Q->wpS T fI (aH Q) (aB 2 xs) G:=by
 rintro xs G Q ⟨r,x,rfl,hx⟩;unfold fI;have:=h.gv_Shade;have:=h.cs;have:=h.shares_of;rcases hx with ⟨s,rfl,hq⟩|⟨no,hq⟩
 . have:=@aCG;have e:=@aC5;walk_at "rd"
 . walk_at "rd"
   refine no _ _ f.csR h.cs h.cs ?_;walk_at "rd"
noncomputable def tM:CS:=.seq (.iff (.oo (.no (.tst (.cal "is_whole" %[.var 1|_]))) (.no (.tsb (.chn .LtE .Lt (.int 0) (.var 1) (.blt .len %[.att (.var 0) "stations"|_]))))) .nev .nil) (.ret (.idx (.att (.var 0) "stations") (.var 1)))
theorem VM(h:PT T)(f:PF T):∀xs G Q,aGd xs G Q->wpS T tM (aH Q) (aB 2 xs) G:=by
 rintro xs G Q ⟨rs,p,r,rfl,hp,hl,hq⟩;unfold tM;have:=h.is_whole;have:=@KM T f;have:=@aBK;have hlt:p<rs.length:=(List.getElem?_eq_some_iff.mp hp).1;have e1:(0:Int)<=(p:Int):=by omega
 have e2:(p:Int)<(rs.length:Int):=by omega
 walk_at "rd"
 exact⟨_,cF (by rw[List.getElem?_map,hp];rfl),Wk.here hq⟩
noncomputable def gS:CS:=.ret (.lco (.att (.var 0) "stations"))
theorem tV(f:PF T):∀xs G Q,RD xs G Q->wpS T gS (aH Q) (aB 1 xs) G:=by
 rintro xs G Q ⟨rs,rfl,hq⟩;unfold gS;have:=@KM T f;walk_at "rd"
 exact⟨_,.inl rfl,λp hp=>Wk.here (hq p hp)⟩
theorem zP(k:L28 T):∀(rs ss:List R3),Q (decide (rs=ss)) G->tqP T "Shade" "Shade.__eq__" Q (rs.map shV) (ss.map shV) G
 | [],[],q=>by simpa [tqP] using q
 | [],s::ss,q=>by simpa [tqP] using q
 | r::rs,[],q=>by simpa [tqP] using q
 | r::rs,s::ss,q=>by
   refine⟨rfl,rfl,⟨_,_,_,_,rfl,rfl⟩,λe=>?_,?_⟩
   . have e:=LL e;subst e;exact zP k rs ss (by simpa using q)
   . rw[k.eqS];refine⟨r,_,rfl,.inl ⟨s,rfl,_,rfl,?_⟩⟩;by_cases e:r=s
     . subst e;rw[jd (by simp)];exact zP k rs ss (by simpa using q)
     . rw[jb (by simp[e])];simpa [e] using q
noncomputable def kG:CS:=.ret (.an (.blt .isi %[.var 1,.glo "Row"|_]) (.teq "Shade" "Shade.__eq__" (.att (.var 0) "stations") (.att (.var 1) "stations")))
theorem AG(h:PT T)(f:PF T)(k:L28 T):∀xs G Q,XQ xs G Q->wpS T kG (aH Q) (aB 2 xs) G:=by
 rintro xs G Q ⟨rs,x,rfl,hx⟩;unfold kG;have:=f.gv_Row;have:=f.csR;have:=@KM T f;rcases hx with ⟨ss,rfl,hq⟩|⟨no,hq⟩
 . have:=@aAN;walk_at "rd"
   exact⟨_,_,rfl,rfl,zP k rs ss (Wk.here hq)⟩
 . walk_at "rd"
   refine no _ _ f.csR h.cs f.csR ?_;walk_at "rd"
end
theorem dF{α:Type}(src:α->PV)(J:List α->PSt->Gh->List PV->Prop)(hc:∀l σ G acc,J l σ G acc->chk G)
   (step:∀x r σ G acc (R:PV->PSt->Gh->Prop),J (x::r) σ G acc->(∀y σ' G',J r σ' G' (acc++[y])->R y σ' G')->g (src x) σ G λσ2 G2=>te σ2 G2 λy G3=>R y σ2 G3)
   (fin:∀σ G acc,J [] σ G acc->Q acc G):∀(l:List α) σ G acc,J l σ G acc->fM chk g (λ_ G Q=>Q true G) te (l.map src) acc σ G Q
 | [],σ,G,acc,h=>⟨hc _ _ _ _ h,fin _ _ _ h⟩
 | x::r,σ,G,acc,h=>by
   refine⟨hc _ _ _ _ h,?_⟩;simp only[if_true];exact step x r σ G acc (λy σ' G'=>fM chk g (λ_ G Q=>Q true G) te (r.map src) (acc++[y]) σ' G' Q) h λy σ' G' h'=>dF src J hc step fin r σ' G' _ h'
theorem iK{α:Type}(src:α->PV)(J:List α->PSt->Gh->Prop)(hc:∀l σ G,J l σ G->chk G)
   (step:∀x r σ G (R:PSt->Gh->Prop),J (x::r) σ G->(∀σ' G',J r σ' G'->R σ' G')->g (src x) σ G λσ2 G2=>tb {D with nx:=R,ct:=R,bk:=D.nx} σ2 G2)
   (fin:∀σ G,J [] σ G->D.nx σ G):∀(l:List α) σ G,J l σ G->sE chk g tb D (l.map src) σ G
 | [],σ,G,h=>⟨hc _ _ _ h,fin _ _ h⟩
 | x::r,σ,G,h=>⟨hc _ _ _ h,step x r σ G _ h λσ' G' h'=>iK src J hc step fin r σ' G' h'⟩
theorem oQ:∀{rs:List R3},(∀r∈rs,Sh7 200 r)->((rs.map pP).map (·.length)).sum<=395*rs.length
 | [],_=>by simp
 | r::rs,h=>by
   have h1:=UH (h r (wDq ..)).2.1 (h r (wDq ..)).2.2.1 (h r (wDq ..)).2.2.2;have h2:=oQ λx hx=>h x (wCq _ hx);simp only[List.map_cons,List.sum_cons,List.length_cons];omega
theorem FB:∀{ys:List Str},(Str.join sep ys).length<=(ys.map (·.length)).sum+ys.length*sep.length
 | []=>Nat.zero_le _
 | [y]=>by simp[Str.join]
 | y::z::r=>by
   have h:=FB (sep:=sep) (ys:=z::r);show(y++sep++Str.join sep (z::r)).length<=_;rw[bA,bA];simp only[List.map_cons,List.sum_cons,List.length_cons] at h ⊢;have e:(r.length+1+1)*sep.length=(r.length+1)*sep.length+sep.length:=Nat.succ_mul ..;omega
theorem gt3:(" > ":Str).length=3:=rfl
theorem CK(h:∀r∈rs,Sh7 200 r)(hl:rs.length<=1000):(DI rs).length<=398000:=by
 unfold DI;rw[pT];have h1:=FB (sep:=(" > ":Str)) (ys:=rs.map pP);have h2:=oQ h;rw[List.length_map,gt3] at h1;omega
section
variable{T:Tb}
theorem mM(q:T.S m [.ob c ns ys] G λv G'=>aJe b v G' Q):IT T b [(c,m)] [.ob c ns ys] G Q:=.inl ⟨c,m,ns,ys,List.mem_singleton.mpr rfl,rfl,q⟩
noncomputable def aGf:CE:=.cmpr false (.gn 1) (.isq (.att (.var 0) "stations")) .nil (.bow .str [("Shade","Shade.__str__")] %[.var 1|_]) [none,none]
end
local macro_rules | `(tactic| walk_at "rz") => wk (wqB++" rN sF zW zE rM List.map_cons List.map_nil jC cA mK iY gE zZ")
section
variable{T:Tb}
theorem aEM(f:PF T)(k:L28 T){rs:List R3}{G:Gh}{Q:PK1}(hl:rs.length<=1000)(hs:∀r∈rs,Sh7 200 r)(hq:Q (.lst ((rs.map pP).map .str)) G):wpE T aGf [some (ROW rs)] G Q:=by
 unfold aGf;have:=@KM T f;walk_at "rz"
 refine⟨by rw[List.length_map];exact szN hl,?_⟩;refine dF shV (λl σ K acc=>K=G/\(∃u v,σ=[u,v])/\∃l0,rs=l0++l/\acc=(l0.map pP).map .str) (λ_ _ _ _ _=>trivial) ?_ ?_ rs _ _ _ ⟨rfl,⟨_,_,rfl⟩,[],rfl,rfl⟩
 . rintro r l σ K acc R ⟨rfl,⟨u,v,rfl⟩,l0,e1,e2⟩ hR;walk_at "rz"
   refine mM ?_;rw[k.strS];refine⟨r,rfl,hs r (by rw[e1];exact List.mem_append_right _ (wDq ..)),_,rfl,hR _ _ _ ⟨rfl,⟨_,_,rfl⟩,l0++[r],by rw[e1,List.append_assoc];rfl,?_⟩⟩;rw[e2,List.map_append,List.map_append];rfl
 . rintro σ K acc ⟨rfl,_,l0,e1,e2⟩;rw[List.append_nil] at e1;subst e1 e2;exact hq
noncomputable def iX:CS:=.ret (.joi (.str " > ") aGf)
theorem xN(f:PF T)(k:L28 T):∀xs G Q,IK xs G Q->wpS T iX (aH Q) (aB 1 xs) G:=by
 rintro xs G Q ⟨rs,rfl,hl,hs,hq⟩;unfold iX;walk_at "rz"
 refine aEM f k hl hs ⟨rs.map pP,rfl,?_,Wk.here hq⟩;have:=oQ hs;rw[List.length_map,gt3];omega
noncomputable def txC:CE:=.cmpr false (.gn 1) (.isq (.var 1)) .nil (.cal "_law_text" %[.var 1|_]) [none,none]
noncomputable def shC:CE:=.cmpr false (.gn 1) (.isq (.var 0)) .nil (.joi (.str " ") txC) [none,none]
end
local macro_rules | `(tactic| walk_at "rd") => wk (wqB++" rN sF zW zE rM List.map_cons List.map_nil jC cA mK iY gE zZ FN wpJ Str.empty_append")
section
variable{T:Tb}
noncomputable def hJ:CS:=.ret (.fst %[.str "Row(",.bow .str [("Row","Row.__str__")] %[.var 0|_],.str ")"|_])
theorem wU(k:L28 T):∀xs G Q,IS xs G Q->wpS T hJ (aH Q) (aB 1 xs) G:=by
 rintro xs G Q ⟨rs,rfl,hl,hs,hq⟩;unfold hJ;have l:=CK hs hl;have l1:("Row(":Str).length=4:=rfl;have l2:(")":Str).length=1:=rfl;have hz:=sizeLine_eq;walk_at "rd"
 refine⟨by decide,by decide,mM ?_⟩;rw[k.strR];refine⟨rs,rfl,hl,hs,_,rfl,_,rfl,by omega,by rw[bA];omega,by decide,by rw[bA,bA];omega,by rw[bA,bA];omega,Wk.here hq⟩
noncomputable def sN:CS:=.ret (.tup %[.att (.var 0) "ember",.att (.var 0) "leaf",.att (.var 0) "sky"|_])
theorem UZ(h:PT T):∀xs G Q,AN xs G Q->wpS T sN (aH Q) (aB 1 xs) G:=by
 rintro xs G Q ⟨r,rfl,hq⟩;unfold sN shV;have e1:=@aIs T h;have e2:=@aKM T h;have e3:=@aHR T h;unfold aL at hq;walk_at "rd"
noncomputable def tO:CS:=.ret (.bin .Add (.blt .str %[.idx (.var 0) (.int 0)|_]) (.idx (.lst false %[.bin .Add (.str "/") (.blt .str %[.idx (.var 0) (.int 1)|_]),.str ""|_]) (.blt .int %[.cmp .Eq (.idx (.var 0) (.int 1)) (.int 1)|_])))
theorem TK:∀xs G Q,GX xs G Q->wpS T tO (aH Q) (aB 1 xs) G:=by
 rintro xs G Q ⟨q,rfl,h0,bq,hq⟩;unfold tO;have l1:=nK (tH bq.1);have l2:=nK (tH bq.2);have g1:=RM bq.1;have g2:=RM bq.2;have l3:("/":Str).length=1:=rfl;have hs:=sizeLine_eq;unfold wr at hq;walk_at "rd"
 refine⟨by omega,by decide,?_⟩;by_cases e:(q.den:Int)=1
 . rw[jd e] at hq ⊢;refine⟨_,at1,?_⟩;rw[jC];refine⟨by show(iT q.num).length+0<=sizeLine;omega,?_⟩;have ee:iT q.num++("":Str)=iT q.num:=Str.append_empty _;rw[ee];exact Wk.here hq
 . rw[jb e] at hq ⊢;refine⟨_,at0,?_⟩;rw[jC];exact⟨by rw[bA];omega,Wk.here hq⟩
end
local macro_rules | `(tactic| walk_at "rz") => wk (wqB++" rN sF zW zE rM List.map_cons List.map_nil jC cA mK iY gE zZ")
section
variable{T:Tb}
theorem aKB(k:L28 T)(h:Sh7 200 r)(hq:Q (.lst [.str (wr r.1),.str (wr r.2.1),.str (wr r.2.2)]) G):wpE T txC [u,some (aL r)] G Q:=by
 unfold txC aL;have e1:=k.text;have tx:∀{q:Rat} {G:Gh} {Q:PK1},In1 q->Bd 200 q->Q (.str (wr q)) G->T.S "_law_text" [FQ q] G Q:=λ{q G Q} h h' z=>by rw[e1];exact⟨q,rfl,h.1,h',z⟩
 clear e1;have:=@eI;have:=@dB;obtain⟨⟨i1,i2,i3⟩,b1,b2,b3⟩:=h;walk_at "rz"
 refine tx i1 b1 (tx i2 b2 (tx i3 b3 hq))
theorem aH0(k:L28 T)(hl:rs.length<=1000)(hs:∀r∈rs,Sh7 200 r)(hq:Q (.lst ((rs.map pP).map .str)) G):wpE T shC [some (LR3 rs)] G Q:=by
 unfold shC LR3;walk_at "rz"
 refine⟨by rw[List.length_map];exact szN hl,?_⟩;refine dF aL (λl σ K acc=>K=G/\(∃u v,σ=[u,v])/\∃l0,rs=l0++l/\acc=(l0.map pP).map .str) (λ_ _ _ _ _=>trivial) ?_ ?_ rs _ _ _ ⟨rfl,⟨_,_,rfl⟩,[],rfl,rfl⟩
 . rintro r l σ K acc R ⟨rfl,⟨u,v,rfl⟩,l0,e1,e2⟩ hR;have hr:=hs r (by rw[e1];exact List.mem_append_right _ (wDq ..));have l1:=jV hr.2.1;have l2:=jV hr.2.2.1;have l3:=jV hr.2.2.2;walk_at "rz"
   refine aKB k hr ⟨[wr r.1,wr r.2.1,wr r.2.2],rfl,?_,hR _ _ _ ⟨rfl,⟨_,_,rfl⟩,l0++[r],by rw[e1,List.append_assoc];rfl,?_⟩⟩
   . show(wr r.1).length+((wr r.2.1).length+((wr r.2.2).length+0))+3*1<=16777216;omega
   . rw[e2,List.map_append,List.map_append];rfl
 . rintro σ K acc ⟨rfl,_,l0,e1,e2⟩;rw[List.append_nil] at e1;subst e1 e2;exact hq
noncomputable def pO:CS:=.ret (.joi (.str " > ") shC)
theorem NS(k:L28 T):∀xs G Q,BU xs G Q->wpS T pO (aH Q) (aB 1 xs) G:=by
 rintro xs G Q ⟨rs,rfl,hl,hs,hq⟩;unfold pO;walk_at "rz"
 refine aH0 k hl hs ⟨rs.map pP,rfl,?_,Wk.here hq⟩;have:=oQ hs;rw[List.length_map,gt3];omega
end
def GA(a q:Rat)(n:Int):Prop:=((n*n:Int):Rat)*q<a
theorem HF{a q x:Rat}(hq:0<q):x*q<a↔x<a/q:=by
 have e:a/q*q=a:=Rat.div_mul_cancel (by grind);constructor
 . intro h;rcases Rat.le_total (a:=a/q) (b:=x) with z|z
   . have:0<=(x-a/q)*q:=Rat.mul_nonneg (by grind) (by grind)
     grind
   . rcases Rat.le_iff_lt_or_eq.mp z with z|z
     . exact z
     . subst z;grind
 . intro h;have:0<(a/q-x)*q:=Rat.mul_pos (by grind) hq
   grind
theorem aDN{a q x:Rat}(hq:0<q)(h:¬x*q<a):a/q<=x:=by
 rw[HF hq] at h;exact Rat.not_lt.mp h
theorem aJ1(hq:0<q)(h0:0<=r)(h1:¬GA a q r)(h2:r=0∨GA a q (r-1)):Ra (a/q) r:=by
 refine⟨h0,aDN hq h1,λhr=>?_⟩;rcases h2 with h2|h2
 . omega
 . exact(HF hq).mp h2
local macro_rules | `(tactic| walk_at "rd") => wk (wqB++" jB fH iN yZ cA iI fA lU dE jT sz2 fA dE lL")
section
variable{T:Tb}
noncomputable def stB:CS:=.seq (.asg (.gn 4) (.bin .Sub (.bin .Add (.var 2) (.var 3)) (.int 1))) (.seq (.iff (.tst (.cal "_law_below" %[.cal "_law_times" %[.tup %[.bin .Mult (.var 4) (.var 4),.int 1|_],.var 1|_],.var 0|_])) (.asg (.gn 2) (.bin .Add (.var 2) (.var 3))) .nil) (.asg (.gn 3) (.bin .FloorDiv (.var 3) (.int 2))))
theorem aJR(lt:LT T)(D:eU)(ba:Bd 1300 a)(bq:Bd 2000 q)(n0:0<=n)(n1:n<=3000)(w0:1<=w)(w1:w<=3000)
   (h1:GA a q (n+w-1)->∀v,D.nx [some (FQ a),some (FQ q),some (.int (n+w)),some (.int (w/2)),v] G) (h2:¬GA a q (n+w-1)->∀v,D.nx [some (FQ a),some (FQ q),some (.int n),some (.int (w/2)),v] G) :
   wpS T stB D [some (FQ a),some (FQ q),some (.int n),some (.int w),u] G:=by
 unfold stB;have:=lt.times;have:=lt.below;have sm:Sm 20 (n+w-1):=by unfold Sm;omega
 have s2:=sm.mul sm;have b2:Bd 40 (((n+w-1)*(n+w-1):Int):Rat):=Bd.int s2 ddq;have b3:=b2.mul bq (show 40+2000<=4000 by decide);have c1:=b2.mono (show 40<=4000 by decide);have c2:=bq.mono (show 2000<=4000 by decide);have c3:=ba.mono (show 1300<=4000 by decide);walk_at "rd"
 refine⟨eK sm sm,?_⟩;have dv:sO w 2:=uB (k:=41) ddq (smK ddq ddq ddq);split
 . rename_i z;exact⟨dv,h1 z _⟩
 . rename_i z;exact⟨dv,h2 z _⟩
noncomputable def oJ:CS:=.seq (.asg (.gt 2 %[.gn 2,.gn 3|_]) (.tup %[.int 0,.int 1024|_])) (.seq (.wh (.tsb (.cmp .Gt (.var 3) (.int 0))) stB) (.ret (.var 2)))
noncomputable def pw2:Nat->Int
 | 0=>0
 | n+1=>2^n
theorem XY(n:Nat):pw2 (n+1)/2=pw2 n:=by
 cases n with
 | zero=>rfl
 | succ n=>show(2:Int)^(n+1)/2=2^n;rw[Int.pow_succ];omega
theorem QB(lt:LT T):∀xs G Q,wM xs G Q->wpS T oJ (aH Q) (aB 5 xs) G:=by
 rintro xs G Q ⟨a,q,rfl,a0,q0,ba,bq,aq,hq⟩;unfold oJ;walk_at "rd"
 refine⟨λm σ K=>K=G/\m<=11/\∃(n:Int) (u:Option PV),σ=[some (FQ a),some (FQ q),some (.int n),some (.int (pw2 m)),u]/\0<=n/\n+2*pw2 m<=2048/\(n=0∨GA a q (n-1))/\¬GA a q (if m=0 then n else n+2*pw2 m-1),⟨11,rfl,by decide,0,_,rfl,by decide,by decide,.inl rfl,?_⟩,?_⟩
 . show ¬GA a q 2047;intro z;have z:((2047*2047:Int):Rat)*q<a:=z;have e:((2047*2047:Int):Rat)=4190209:=by decide
   rw[e] at z
   grind
 . rintro m σ K ⟨rfl,hm,n,u,rfl,n0,n1,h1,h2⟩;walk_at "rd"
   cases m with
   | zero =>
     have e:¬(0:Int)<pw2 0:=by decide
     rw[jb e];exact Wk.here (hq n (aJ1 q0 n0 (by simpa using h2) h1))
   | succ m =>
     have p0:(1:Int)<=pw2 (m+1):=by show(1:Int)<=2^m;have:(0:Int)<2^m:=Int.pow_pos ddq;omega
     rw[jd ooq];have hh:=XY m;have pe:m=0∨pw2 (m+1)=2*pw2 m:=by
       cases m with
       | zero=>exact .inl rfl
       | succ m=>right;show(2:Int)^(m+1)=2*2^m;rw[Int.pow_succ];omega
     refine aJR lt _ ba bq n0 ooq p0 ooq (λz v=>?_) (λz v=>?_)
     . refine⟨m,Nat.lt_succ_self m,rfl,by omega,n+pw2 (m+1),v,by rw[hh],by omega,?_,.inr z,?_⟩
       . rcases pe with rfl|pe
         . show n+1+2*0<=2048;have:pw2 1=1:=rfl;omega
         . omega
       . rcases pe with rfl|pe
         . have e1:pw2 (0+1)=1:=rfl;rw[e1] at h2 ⊢;rw[jd rfl];rw[jb ddq] at h2;rw[show n+1=n+2*1-1 by omega];exact h2
         . rw[jb ooq] at h2;split
           . rename_i e;subst e;exact absurd pe ddq
           . rw[show n+pw2 (m+1)+2*pw2 m-1=n+2*pw2 (m+1)-1 by omega];exact h2
     . refine⟨m,Nat.lt_succ_self m,rfl,by omega,n,v,by rw[hh],n0,by omega,h1,?_⟩;rcases pe with rfl|pe
       . have e1:pw2 (0+1)=1:=rfl;rw[e1] at z;rw[jd rfl];rw[show n+1-1=n by omega] at z;exact z
       . split
         . rename_i e;subst e;exact absurd pe ddq
         . rw[show n+2*pw2 m-1=n+pw2 (m+1)-1 by omega];exact z
noncomputable def q13:Rat:=⟨1,3,by decide,by decide⟩
noncomputable def aAP:Rat:=⟨999,1000,by decide,by decide⟩
noncomputable def aJW:Rat:=⟨1001,1000,by decide,by decide⟩
noncomputable def q54:Rat:=⟨5,4,by decide,by decide⟩
theorem aDq:PV.tup [.int 1,.int 1000]=FQ l1k:=rfl
theorem KZ:Bd 12 l1k:=⟨by unfold Sm;decide,by unfold Sm;decide⟩
theorem MQ:Bd 12 (1000:Rat):=⟨by unfold Sm;decide,by unfold Sm;decide⟩
noncomputable def aE4:CS:=.seq (.iff (.tst (.cal "_law_below" %[.var 4,.tup %[.int 1,.int 1000|_]|_])) (.asg (.gn 4) (.tup %[.int 1,.int 1000|_])) .nil) (.seq (.iff (.tst (.cal "_law_below" %[.tup %[.int 1000,.int 1|_],.var 4|_])) (.asg (.gn 4) (.tup %[.int 1000,.int 1|_])) .nil) (.ret (.var 4)))
theorem GB(lt:LT T)(a1:a<=297)(bq:Bd 900 q)(h:a<=900*q)(hq:∀q',Lim q'->Bd 900 q'->a<=900*q'->R (FQ q') G) :
   wpS T aE4 (aH R) [x0,x1,x2,x3,some (FQ q),x5] G:=by
 unfold aE4;have:=lt.below;have:=@aDq;have b1:=KZ.mono (show 12<=4000 by decide);have b2:=MQ.mono (show 12<=4000 by decide);have b3:=bq.mono (show 900<=4000 by decide);have k1:((1000:Int):Rat)=1000:=rfl;walk_at "rd"
 by_cases c1:q<l1k
 . have e1:¬(1000:Rat)<l1k:=by decide
   walk_at "rd"
   exact Wk.here (hq _ ⟨by grind,by decide⟩ (KZ.mono ddq) (by grind))
 . by_cases c2:(1000:Rat)<q
   . walk_at "rd"
     exact Wk.here (hq _ ⟨by decide,by decide⟩ (MQ.mono ddq) (by grind))
   . walk_at "rd"
     exact Wk.here (hq _ ⟨Rat.not_lt.mp c1,Rat.not_lt.mp c2⟩ bq h)
theorem aIc(a0:0<=a)(m1:1<=m)(m2:m<=12)(hp:aAP<=p):a<=900*(a/((m*m:Int):Rat)*p):=by
 have e144:((144:Int):Rat)=144:=rfl;have hm:m*m<=144:=Int.mul_le_mul m2 m2 ooq ddq;have hp0:0<m*m:=Int.mul_pos ooq ooq;have h1:((m*m:Int):Rat)<=144:=by rw[<-e144];exact Rat.intCast_le_intCast.mpr hm
 have h2:(0:Rat)<((m*m:Int):Rat):=Rat.intCast_pos.mpr hp0;generalize ((m*m:Int):Rat)=M at *;have e:a/M*M=a:=Rat.div_mul_cancel (by grind);generalize a/M=u at *;have u0:0<=u:=by
   rcases Rat.le_total (a:=0) (b:=u) with z|z
   . exact z
   . have:0<=(0-u)*M:=Rat.mul_nonneg (by grind) (by grind);have e0:u*M=0:=by grind
     rcases Rat.mul_eq_zero.mp e0 with z1|z1<;>grind
 have h999:(999:Rat)<=1000*p:=by
   have e:aAP*1000=999:=by decide +kernel
   grind
 have k1:0<=u*(144-M):=Rat.mul_nonneg u0 (by grind);have k2:0<=u*(1000*p-999):=Rat.mul_nonneg u0 (by grind)
 grind
noncomputable def aJb:CE:=.lst false %[.tup %[.int 1,.int 1|_],.tup %[.int 1,.int 1|_],.tup %[.int 999,.int 1000|_],.tup %[.int 1001,.int 1000|_],.tup %[.int 5,.int 4|_]|_]
noncomputable def aGS:CS:=.seq (.iff (.an (.tsb (.cmp .Gt (.idx (.var 1) (.int 0)) (.int 0))) (.tsb (.cmp .Gt (.var 3) (.int 0)))) (.seq (.asg (.gn 5) aJb) (.asg (.gn 4) (.cal "_law_times" %[.cal "_law_over" %[.var 1,.tup %[.bin .Mult (.var 2) (.var 2),.int 1|_]|_],.idx (.var 5) (.bin .Sub (.var 3) (.int 1))|_]))) .nil) aE4
theorem XH(h0:1<=d)(h1:d<6):∃p,atI [PV.tup [.int 1,.int 1],.tup [.int 1,.int 1],.tup [.int 999,.int 1000],.tup [.int 1001,.int 1000],.tup [.int 5,.int 4]] (d-1)=some (FQ p)/\aAP<=p/\Bd 12 p:=by
 have hd:d=1∨d=2∨d=3∨d=4∨d=5:=by omega
 rcases hd with rfl|rfl|rfl|rfl|rfl
 . exact⟨1,rfl,by decide,by unfold Bd Sm;decide⟩
 . exact⟨1,rfl,by decide,by unfold Bd Sm;decide⟩
 . exact⟨aAP,rfl,by decide,by unfold Bd Sm;decide⟩
 . exact⟨aJW,rfl,by decide,by unfold Bd Sm;decide⟩
 . exact⟨q54,rfl,by decide,by unfold Bd Sm;decide⟩
theorem aFy(lt:LT T)(a0:0<=a)(a1:a<=297)(ba:Bd 700 a)(m1:1<=m)(m2:m<=12)(d0:0<=d)(d1:d<6)(bq:Bd 900 q)(h:a<=900*q)(hq:∀q',Lim q'->Bd 900 q'->a<=900*q'->R (FQ q') G) :
   wpS T aGS (aH R) [x0,some (FQ a),some (.int m),some (.int d),some (FQ q),x5] G:=by
 unfold aGS aJb;have:=lt.times;have:=lt.over;have sm:Sm 20 m:=by unfold Sm;omega
 have hp0:0<m*m:=Int.mul_pos ooq ooq;have bm:Bd 40 ((m*m:Int):Rat):=Bd.int (sm.mul sm) ddq;have mz:((m*m:Int):Rat)≠0:=by have:(0:Rat)<((m*m:Int):Rat):=Rat.intCast_pos.mpr hp0;grind
 have c1:=ba.mono (show 700<=4000 by decide);have c2:=bm.mono (show 40<=4000 by decide);have b3:=ba.dv bm mz (show 700+40<=740 by decide);have c3:=b3.mono (show 740<=4000 by decide);walk_at "rd"
 by_cases hn:0<a.num
 . rw[jd hn];by_cases hd:0<d
   . rw[jd hd];obtain⟨p,e,p1,p2⟩:=XH ooq d1;refine⟨by decide,eK sm sm,mz,_,e,?_⟩;have c4:=p2.mono (show 12<=4000 by decide);walk_at "rd"
     exact GB lt a1 (b3.mul p2 ddq) (aIc a0 m1 m2 p1) hq
   . rw[jb hd];exact GB lt a1 bq h hq
 . rw[jb hn];exact GB lt a1 bq h hq
noncomputable def oV:CS:=.seq (.asg (.gn 2) (.bin .Add (.int 1) (.cal "_law_pick" %[.var 0,.idx (.lst false %[.int 4,.int 12|_]) (.cal "_law_pick" %[.var 0,.int 2|_])|_]))) (.seq (.asg (.gn 3) (.cal "_law_pick" %[.var 0,.int 6|_])) (.seq (.asg (.gn 4) (.idx (.lst false %[.tup %[.int 1,.int 1|_],.tup %[.int 1000,.int 1|_],.tup %[.int 1,.int 3|_]|_]) (.cal "_law_pick" %[.var 0,.int 3|_]))) aGS))
theorem aEE(h0:0<=d)(h1:d<2):∃m:Int,atI [PV.int 4,.int 12] d=some (.int m)/\1<=m/\m<=12:=by
 have hd:d=0∨d=1:=by omega
 rcases hd with rfl|rfl
 . exact⟨4,rfl,by decide,by decide⟩
 . exact⟨12,rfl,by decide,by decide⟩
theorem aAn(h0:0<=d)(h1:d<3)(a1:a<=297):∃q,atI [FQ ((1:Int):Rat),FQ ((1000:Int):Rat),.tup [.int 1,.int 3]] d=some (FQ q)/\Bd 900 q/\a<=900*q:=by
 have hd:d=0∨d=1∨d=2:=by omega
 rcases hd with rfl|rfl|rfl
 . exact⟨1,rfl,(show Bd 12 (1:Rat) by unfold Bd Sm;decide).mono ddq,by grind⟩
 . exact⟨1000,rfl,MQ.mono ddq,by grind⟩
 . have e:q13*3=1:=by decide +kernel
   exact⟨q13,rfl,(show Bd 12 q13 by unfold Bd Sm;decide).mono ddq,by grind⟩
theorem QF(lt:LT T):∀xs G Q,GN xs G Q->wpS T oV (aH Q) (aB 6 xs) G:=by
 rintro xs G Q ⟨p,a,rfl,hp,a0,a1,ba,hq⟩;unfold oV;have:=lt.pick;walk_at "rd"
 refine⟨by decide,smP ddq ddq,λr1 G1 u1 u2 m1=>?_⟩;obtain⟨n,e1,n1,n2⟩:=aEE u1 u2;refine⟨_,e1,n,rfl,m1.pu,by omega,smP ooq ooq,λr2 G2 v1 v2 m2=>⟨m2.pu,by decide,smP ddq ddq,λr3 G3 w1 w2 m3=>⟨m3.pu,by decide,smP ddq ddq,λr4 G4 z1 z2 m4=>?_⟩⟩⟩;obtain⟨q,e2,bq,aq⟩:=aAn z1 z2 a1;refine⟨_,e2,?_⟩;exact aFy lt a0 a1 ba ooq ooq w1 w2 bq aq λq' l b h=>hq q' G4 l b h (((m1.trans m2).trans m3).trans m4)
end
theorem bdt(h0:0<=p)(h1:p<=m)(m1:1<=m)(m2:m<=1000):Bd 20 (Rat.divInt p m):=Bd.divInt (by unfold Sm;omega) (by unfold Sm;omega) ooq
theorem WT(hx:In1 x/\Bd 12 x)(hy:In1 y/\Bd 12 y)(h0:0<=p)(h1:p<=m)(m1:1<=m)(m2:m<=1000):In1 (pw x y p m)/\Bd 200 (pw x y p m):=by
 have bt:=bdt h0 h1 m1 m2;refine⟨ML hx.1 hy.1 h0 h1 m1,?_⟩;unfold pw;exact hx.2.add (bt.mul (hy.2.sub hx.2 (show 12+12+1<=25 by decide)) (show 20+25<=45 by decide)) ddq
theorem aKb(hx:Ok3 12 x)(hy:Ok3 12 y)(h0:0<=p)(h1:p<=m)(m1:1<=m)(m2:m<=1000):Sh7 200 (pt x y m p):=by
 obtain⟨⟨i1,i2,i3⟩,b1,b2,b3⟩:=hx;obtain⟨⟨j1,j2,j3⟩,c1,c2,c3⟩:=hy;obtain⟨u1,v1⟩:=WT ⟨i1,b1⟩ ⟨j1,c1⟩ h0 h1 m1 m2;obtain⟨u2,v2⟩:=WT ⟨i2,b2⟩ ⟨j2,c2⟩ h0 h1 m1 m2;obtain⟨u3,v3⟩:=WT ⟨i3,b3⟩ ⟨j3,c3⟩ h0 h1 m1 m2;exact⟨⟨u1,u2,u3⟩,v1,v2,v3⟩
theorem ZM(hx:Ok3 12 x)(hy:Ok3 12 y)(hn:n<=1000):∀r∈sts x y n,Sh7 200 r:=λr hr=>by
 obtain⟨p,hp,rfl⟩:=List.mem_map.mp hr;have hp:=List.mem_range.mp hp;exact aKb hx hy ooq ooq ooq ooq
theorem dH:(sts x y n).length=n+1:=by unfold sts;rw[List.length_map,List.length_range]
theorem nV(h:p<=n):(sts x y n)[p]? =some (pt x y (max (n:Int) 1) (p:Int)):=by
 unfold sts;rw[List.getElem?_map,List.getElem?_range ooq];rfl
local macro_rules | `(tactic| walk_at "rz") => wk (wqB++" nL exists_false false_and and_false rC lR lI iI bJ exists_eq' Option.getD_some oG jS fA")
section
variable{T:Tb}
noncomputable def aBL:CE:=.cal "_law_plus" %[.var 1,.cal "_law_times" %[.var 3,.cal "_law_minus" %[.var 2,.var 1|_]|_]|_]
noncomputable def aAY(i j k:Nat):CE:=.cmpr false (.gt 2 %[.gn 1,.gn 2|_]) (.izp %[.var i,.var j|_]) .nil aBL [none,none,none,some k]
theorem FX(lt:LT T)(ba:Bd 12 a)(bb:Bd 12 b)(bt:Bd 20 t)(q:R (FQ (a+t*(b-a))) G):wpE T aBL [x0,some (FQ a),some (FQ b),some (FQ t)] G R:=by
 unfold aBL;have:=lt.plus;have:=lt.times;have:=lt.minus;have e1:=bb.sub ba (show 12+12+1<=25 by decide);have:=bt.mono (show 20<=4000 by decide);have:=ba.mono (show 12<=4000 by decide);have:=bb.mono (show 12<=4000 by decide);have:=e1.mono (show 25<=4000 by decide);have:=bt.mul e1 (show 20+25<=4000 by decide);walk_at "rz"
theorem XM(lt:LT T)(h1:σ[i]? =some (some (aL x)))(h2:σ[j]? =some (some (aL y)))(h3:σ[k]? =some (some (FQ (Rat.divInt p m))))(hx:Ok3 12 x)(hy:Ok3 12 y)(p0:0<=p)(p1:p<=m)(m1:1<=m)(m2:m<=1000)
   (hq:Q (.lst [FQ (pt x y m p).1,FQ (pt x y m p).2.1,FQ (pt x y m p).2.2]) G):wpE T (aAY i j k) σ G Q:=by
 unfold aAY;have bt:=bdt p0 p1 m1 m2;obtain⟨_,b1,b2,b3⟩:=hx;obtain⟨_,c1,c2,c3⟩:=hy;unfold aL at h1 h2;have v1:=λ{k}=>LW (k:=k) h1;have v2:=λ{k}=>LW (k:=k) h2;generalize eB:aBL=B;walk_at "rz"
 subst eB;refine⟨.inl trivial,3,[[FQ x.1,FQ x.2.1,FQ x.2.2],[FQ y.1,FQ y.2.1,FQ y.2.2]],rfl,.inl (by simp),?_⟩;rw[aDr];refine⟨by show 3<=sizeLine;rw[sizeLine_eq];decide,trivial,_,rfl,rfl,_,_,rfl,_,_,rfl,rfl,FX lt b1 c1 bt ⟨trivial,_,rfl,rfl,_,_,rfl,_,_,rfl,rfl,FX lt b2 c2 bt ⟨trivial,_,rfl,rfl,_,_,rfl,_,_,rfl,rfl,FX lt b3 c3 bt ⟨trivial,hq⟩⟩⟩⟩
noncomputable def wV:CS:=.seq (.asg (.gn 3) (.lst true .nil)) (.seq (.fr (.gn 4) (.irg %[.bin .Add (.var 2) (.int 1)|_]) (.seq (.asg (.gn 5) (.cal "_law_low" %[.var 4,.blt .max %[.int 1,.var 2|_]|_])) (.ex (.app (.var 3) (.blt .tuple %[aAY 0 1 5|_]))))) (.ret (.var 3)))
theorem aAz(lt:LT T):∀xs G Q,aAj xs G Q->wpS T wV (aH Q) (aB 6 xs) G:=by
 rintro xs G Q ⟨x,y,n,rfl,hn,hx,hy,hq⟩;unfold wV;have:=lt.low;have:=@yT;walk_at "rz"
 refine⟨by decide,λl hl=>⟨by omega,by omega,?_⟩⟩;unfold mY;refine iK (λk:Nat=>PV.int (0+(k:Int))) (λr σ K=>∃l0 u v,σ=[some (aL x),some (aL y),some (.int (n:Int)),some (.ref l),u,v]/\List.range (n+1)=l0++r/\K=gup G l (.lst ((l0.map λ(p:Nat)=>pt x y (max (n:Int) 1) (p:Int)).map aL))) (λ_ _ _ _=>trivial) ?_ ?_ _ _ _ ⟨[],_,_,rfl,by rw[show((n:Int)+1).toNat=n+1 by omega];rfl,rfl⟩
 . rintro i r σ K R ⟨l0,u,v,rfl,e,rfl⟩ hR;have hi:i<=n:=by
     have:i∈List.range (n+1):=by rw[e];exact List.mem_append_right _ (wDq ..)
     have:=List.mem_range.mp this;omega
   have hll:l0.length<=n+1:=by
     have:=congrArg List.length e;rw[List.length_range,List.length_append] at this;omega
   have m1:(max (1:Int) (n:Int))=max (n:Int) 1:=by omega
   have lo:=@dI;walk_at "rz"
   rw[Int.zero_add];refine⟨by omega,by unfold Sm;exact wFq (show(max (n:Int) 1).natAbs<2^20 by omega) (Nat.pow_le_pow_right ddq ddq),?_⟩;refine XM lt (x:=x) (y:=y) (p:=(i:Int)) (m:=max (n:Int) 1) rfl rfl rfl hx hy ooq ooq ooq ooq ?_;walk_at "rz"
   refine⟨_,aD,?_,hR _ _ ⟨l0++[i],_,_,rfl,by rw[e,List.append_assoc];rfl,?_⟩⟩
   . rw[List.length_map,List.length_map];exact Nat.lt_of_le_of_lt (show l0.length<=1001 by omega) ddq
   . rw[cS,List.map_append,List.map_append];rfl
 . rintro σ K ⟨l0,u,v,rfl,e,rfl⟩;rw[List.append_nil] at e;walk_at "rz"
   refine Wk.frz aD (G2:=G) ?_ (λa o z=>?_) hl
   . rw[<-e];exact hq
   . rw[bQ (λe'=>by subst e';rw[hl] at z;cases z)];exact z
end
theorem yJ:∀rs:List R3,∃ds,kA (rs.map aL)=some ds/\PyData.canLayAll0 ds=true/\PyData.depthAll ds<=2
 | []=>⟨[],by simp[kA],by simp[PyData.canLayAll0],by simp[PyData.depthAll]⟩
 | r::rs=>by
   obtain⟨ds,e,c,d⟩:=yJ rs;have er:dat (aL r)=some (.tuple [.tuple [.int r.1.num,.int r.1.den],.tuple [.int r.2.1.num,.int r.2.1.den],.tuple [.int r.2.2.num,.int r.2.2.den]]):=by unfold aL FQ;simp only[dat,kA]
   refine⟨_::ds,by rw[List.map_cons];unfold kA;rw[er,e],?_,?_⟩
   . simp only[PyData.canLayAll0,PyData.canLay0,c,Bool.and_true,Bool.true_and]
   . simp only[PyData.depthAll,PyData.depth];omega
theorem jF{rs:List R3}:shp (.lst (rs.map aL))=true:=by
 obtain⟨ds,e,c,d⟩:=yJ rs;unfold shp;have e2:dat (.lst (rs.map aL))=some (.list ds):=by simp only[dat,e]
 rw[e2];show SeqAt.shaped (.list ds)=true;have h1:PyData.canLay0 (.list ds)=true:=by simp only[PyData.canLay0];exact c
 have h2:PyData.depth (.list ds)<=64:=by simp only[PyData.depth];omega
 unfold SeqAt.shaped;rw[h1,decide_eq_true h2];rfl
theorem uP:∀{rs ss:List R3},kS (rs.map aL) (ss.map aL)=decide (rs=ss)
 | [],[]=>by simp[kS]
 | [],s::ss=>by simp[kS]
 | r::rs,[]=>by simp[kS]
 | r::rs,s::ss=>by
   rw[List.map_cons,List.map_cons,mP,uP];have e:peq (aL r) (aL s)=decide (r=s):=by
     unfold aL;simp only[peq,mP,wJ,HE,Bool.and_true];obtain⟨a,b,c⟩:=r;obtain⟨a',b',c'⟩:=s;simp only[Prod.mk.injEq];by_cases h1:a=a'<;>by_cases h2:b=b'<;>by_cases h3:c=c'<;>simp[h1,h2,h3]
   rw[e];simp only[List.cons.injEq];by_cases h1:r=s<;>by_cases h2:rs=ss<;>simp[h1,h2]
theorem aGr:pEq false (LR3 rs) (LR3 ss) G Q=Q (.bl (decide (rs=ss))) G:=by
 show(shp (LR3 rs)=true/\shp (LR3 ss)=true/\Q (.bl (peq (LR3 rs) (LR3 ss))) G)=_;have e1:shp (LR3 rs)=true:=jF;have e2:shp (LR3 ss)=true:=jF;rw[e1,e2];have e3:peq (LR3 rs) (LR3 ss)=decide (rs=ss):=by unfold LR3;simp only[peq];exact uP
 rw[e3];simp
theorem QY:pEq true (LR3 rs) (LR3 ss) G Q=Q (.bl (!decide (rs=ss))) G:=by
 show(shp (LR3 rs)=true/\shp (LR3 ss)=true/\Q (.bl (!peq (LR3 rs) (LR3 ss))) G)=_;have e1:shp (LR3 rs)=true:=jF;have e2:shp (LR3 ss)=true:=jF;rw[e1,e2];have e3:peq (LR3 rs) (LR3 ss)=decide (rs=ss):=by unfold LR3;simp only[peq];exact uP
 rw[e3];simp
theorem aFM(h:G a=some (.lst (rs.map aL)))(q:Q (.bl true) G):pEq false (LR3 rs) (.ref a) G Q:=by
 have e:pur G (.ref a)=LR3 rs:=by unfold pur;dsimp only;rw[h];rfl
 refine⟨jF,by rw[e];exact jF,?_⟩;rw[e];have e3:peq (pur G (LR3 rs)) (LR3 rs)=true:=by
   show peq (LR3 rs) (LR3 rs)=true;unfold LR3;simp only[peq];rw[uP];simp
 rw[e3];exact q
theorem aAD:pt x y m 0=x:=by
 unfold pt pw;rw[Rat.zero_divInt];obtain⟨a,b,c⟩:=x;simp only[Rat.zero_mul,Rat.add_zero]
theorem aGl(h:m≠0):pt x y m m=y:=by
 unfold pt pw;have e:Rat.divInt m m=1:=by rw[Rat.divInt_self' h]
 rw[e];obtain⟨a,b,c⟩:=x;obtain⟨a',b',c'⟩:=y;simp only[Rat.one_mul]
 congr 1
 . grind
 . congr 1<;>grind
theorem WR:("at":Str)∉[("stations":Str)]:=by decide
theorem nsh:("shades":Str)∉[("stations":Str)]:=by decide
section
variable{T:Tb}{G:Gh}{Q:PK1}
theorem nI{R:Str->List Ar->Prop}(hm:m∉[("stations":Str)])(r:R ky ar) :
   ∃c k a,(c,k,a)∈[(("Row":J8),ky,ar)]/\∃x x1,(ROW rs= .ob c x x1∨∃p,ROW rs= .ref p/\G p=some (.ins c x x1))/\¬m∈x/\R k a :=
 ⟨"Row",ky,ar,List.mem_singleton.mpr rfl,_,_,.inl rfl,hm,r⟩
theorem aDi(f:PF T)(h:rs.length<=1000000)(q:Q (.int (rs.length:Int)) G):IT T .len [("Row","Row.__len__")] [ROW rs] G Q:=by
 refine .inl ⟨"Row","Row.__len__",_,_,List.mem_singleton.mpr rfl,rfl,?_⟩;rw[f.rowLen];exact⟨_,rfl,_,rfl,by omega,by rw[List.length_map];omega,by rw[List.length_map];exact q⟩
theorem WM(q:Q (.int (xs.length:Int)) G):IT T .len ls [.lst xs] G Q:=.inr (by rw[XV];exact q)
theorem aDB(k:L28 T)(e:r=s)(q:Q (.bl true) G):NR T [("Shade","Shade.__eq__")] (shV r) (shV s) G Q:=by
 refine .inl ⟨"Shade","Shade.__eq__",_,_,_,_,List.mem_singleton.mpr rfl,rfl,rfl,?_⟩;rw[k.eqS];exact⟨r,_,rfl,.inl ⟨s,rfl,_,rfl,by rw[decide_eq_true e];exact q⟩⟩
theorem aKy(e:i=j)(q:Q (.bl true) G):NR T eqs (.int i) (.int j) G Q:=by
 subst e;refine .inr ?_;rw[cL];simpa using q
end
local macro_rules | `(tactic| walk_at "rz") => wk (wqB++" sF aHF nL GJ List.map_cons List.map_nil List.getElem?_cons_zero List.getElem?_cons_succ jB iN lR lI gE bJ exists_eq' Option.getD_some av0")
section
variable{T:Tb}
noncomputable def lgC:CE:=.cmpr false (.gn 1) (.isq (.var 6)) .nil (.cal "_law_told" %[.met "at" [("Row","Row.at",[.arg 0])] (.var 2) %[.var 1|_]|_]) [none,none,some 5]
theorem aKT(k:L28 T){ps:List Nat}(hp:∀p∈ps,p<=n)(hl:ps.length<=10)(hn:n<=1000)(hq:Q (LR3 (ps.map λ(p:Nat)=>pt x y (max (n:Int) 1) (p:Int))) G) :
   wpE T lgC [a,b,c,d,e,some (ROW (sts x y n)),some (.lst (ps.map λ(p:Nat)=>.int (p:Int))),h,i,j,l] G Q:=by
 unfold lgC;have:=k.told;have:=k.at_;walk_at "rz"
 refine⟨by rw[List.length_map];exact szN ooq,?_⟩;refine dF (λ(p:Nat)=>PV.int (p:Int)) (λr σ K acc=>K=G/\(∃u v,σ=[u,v,some (ROW (sts x y n))])/\∃l0,ps=l0++r/\acc=(l0.map λ(p:Nat)=>pt x y (max (n:Int) 1) (p:Int)).map aL) (λ_ _ _ _ _=>trivial) ?_ ?_ ps _ _ _ ⟨rfl,⟨_,_,rfl⟩,[],rfl,rfl⟩
 . rintro p r σ K acc R ⟨rfl,⟨u,v,rfl⟩,l0,e1,e2⟩ hR;have hpn:=hp p (by rw[e1];exact List.mem_append_right _ (wDq ..));walk_at "rz"
   refine nI WR ?_;walk_at "rz"
   refine⟨_,p,_,rfl,nV hpn,by rw[dH];omega,⟨_,rfl,hR _ _ _ ⟨rfl,⟨_,_,rfl⟩,l0++[p],by rw[e1,List.append_assoc];rfl,?_⟩⟩⟩;rw[e2,List.map_append,List.map_append];rfl
 . rintro σ K acc ⟨rfl,_,l0,e1,e2⟩;rw[List.append_nil] at e1;subst e1 e2;exact hq
noncomputable def lgR:CS:=.ret (.an (.ceq [("Shade","Shade.__eq__")] (.bow .len [("Row","Row.__len__")] %[.var 5|_]) (.bin .Add (.var 4) (.int 1))) (.an (.ceq [("Shade","Shade.__eq__")] (.var 7) (.var 8)) (.an (.ceq [("Shade","Shade.__eq__")] (.met "at" [("Row","Row.at",[.arg 0])] (.var 5) %[.int 0|_]) (.var 0)) (.ceq [("Shade","Shade.__eq__")] (.met "at" [("Row","Row.at",[.arg 0])] (.var 5) %[.var 4|_]) (.var 1)))))
theorem aKu(f:PF T)(k:L28 T){n:Nat}{ds:List R3}{c d e i j:Option PV}{R:PK1}(hn:n<=1000)(n2:2<=n)(gq:G q=some (.lst (ds.map aL)))(hq:Wk R (.bl true) G) :
   wpS T lgR (aH R) [some (shV x),some (shV y),c,d,some (.int (n:Int)),some (ROW (sts x y n)),e,some (LR3 ds),some (.ref q),i,j] G:=by
 unfold lgR;have:=k.at_;walk_at "rz"
 refine aDi f (by rw[dH];omega) ?_;refine aKy (by rw[dH];omega) ?_;walk_at "rz"
 refine .inr (aFM gq ?_);walk_at "rz"
 refine nI WR ?_;walk_at "rz"
 refine⟨_,0,_,rfl,nV ooq,by rw[dH];omega,aDB k aAD ?_⟩;walk_at "rz"
 refine nI WR ?_;walk_at "rz"
 refine⟨_,n,_,rfl,nV ooq,by rw[dH];omega,aDB k ?_ hq⟩;rw[show max (n:Int) 1=(n:Int) by omega];exact aGl ooq
noncomputable def lgB:CS:=.seq (.asg (.gn 8) (.lst true .nil)) (.seq (.fr (.gn 9) (.isq (.var 6)) (.seq (.asg (.gn 10) (.cal "_law_low" %[.var 9,.var 4|_])) (.ex (.app (.var 8) (.blt .tuple %[aAY 2 3 10|_]))))) lgR)
theorem aKf(lt:LT T)(f:PF T)(k:L28 T){ps:List Nat}(hp:∀p∈ps,p<=n)(hl:ps.length<=10)(hn:n<=1000)(n2:2<=n)(hx:Ok3 12 x)(hy:Ok3 12 y)(hq:R (.bl true) G) :
   wpS T lgB (aH R) [some (shV x),some (shV y),some (aL x),some (aL y),some (.int (n:Int)),some (ROW (sts x y n)),some (.lst (ps.map λ(p:Nat)=>.int (p:Int))),some (LR3 (ps.map λ(p:Nat)=>pt x y (max (n:Int) 1) (p:Int))),h,i,j] G:=by
 unfold lgB;have:=lt.low;walk_at "rz"
 refine⟨by decide,λq hq0=>?_⟩;have mn:max (n:Int) 1=(n:Int):=by omega
 refine iK (λ(p:Nat)=>PV.int (p:Int)) (λr σ K=>∃l0 u v,σ=[some (shV x),some (shV y),some (aL x),some (aL y),some (.int (n:Int)),some (ROW (sts x y n)),some (.lst (ps.map λ(p:Nat)=>.int (p:Int))),some (LR3 (ps.map λ(p:Nat)=>pt x y (max (n:Int) 1) (p:Int))),some (.ref q),u,v]/\ps=l0++r/\K=gup G q (.lst ((l0.map λ(p:Nat)=>pt x y (max (n:Int) 1) (p:Int)).map aL))) (λ_ _ _ _=>trivial) ?_ ?_ ps _ _ ⟨[],_,_,rfl,rfl,rfl⟩
 . rintro p r σ K R' ⟨l0,u,v,rfl,e,rfl⟩ hR;have hpn:=hp p (by rw[e];exact List.mem_append_right _ (wDq ..));have hll:l0.length<=10:=by
     have:=congrArg List.length e;rw[List.length_append] at this;omega
   have lo:=@dI;generalize hL:PV.lst (ps.map λ(p:Nat)=>.int (p:Int))=L6 at *;generalize hM:LR3 (ps.map λ(p:Nat)=>pt x y (max (n:Int) 1) (p:Int))=L7 at *;clear hL hM;walk_at "rz"
   refine⟨by omega,by unfold Sm;exact wFq (show((n:Int)).natAbs<2^20 by omega) (Nat.pow_le_pow_right ddq ddq),?_⟩;refine XM lt (x:=x) (y:=y) (p:=(p:Int)) (m:=(n:Int)) rfl rfl rfl hx hy ooq ooq ooq ooq ?_;walk_at "rz"
   refine⟨_,aD,?_,hR _ _ ⟨l0++[p],_,_,rfl,by rw[e,List.append_assoc];rfl,?_⟩⟩
   . rw[List.length_map,List.length_map];exact Nat.lt_of_le_of_lt hll ddq
   . rw[cS,List.map_append,List.map_append,mn];rfl
 . rintro σ K ⟨l0,u,v,rfl,e,rfl⟩;rw[List.append_nil] at e;subst e;refine aKu f k hn n2 aD (Wk.of hq λa o z=>?_);rw[bQ (λe'=>by subst e';rw[hq0] at z;cases z)];exact z
noncomputable def iB:CS:=.seq (.asg (.gn 6) (.lst false %[.int 0,.int 1,.bin .FloorDiv (.var 4) (.int 2),.bin .Sub (.var 4) (.int 1),.var 4|_])) (.seq (.asg (.gn 7) lgC) lgB)
theorem wT(lt:LT T)(f:PF T)(k:L28 T):∀xs G Q,GW xs G Q->wpS T iB (aH Q) (aB 11 xs) G:=by
 rintro xs G Q ⟨x,y,n,rfl,n2,hn,hx,hy,hq⟩;unfold iB;walk_at "rz"
 have dv:sO (n:Int) 2:=uB (k:=41) ddq (smK ddq ddq ddq);refine⟨dv,by decide,?_⟩;have e: [PV.int 0,.int 1,.int ((n:Int)/2),.int ((n:Int)-1),.int (n:Int)]=[0,1,n/2,n-1,n].map λ(p:Nat)=>.int (p:Int):=by
   simp only[List.map_cons,List.map_nil];rw[show(((n/2:Nat)):Int)=(n:Int)/2 by omega,show(((n-1:Nat)):Int)=(n:Int)-1 by omega];rfl
 have hp:∀p∈[0,1,n/2,n-1,n],p<=n:=λp hp=>by
   simp only[List.mem_cons,List.not_mem_nil,or_false] at hp;omega
 rw[e];exact aKT k hp (by simp) hn (aKf lt f k hp (by simp) hn n2 hx hy hq)
end
theorem lB:∀n:Nat,zJ (List.replicate n (.bl true))=some true
 | 0=>rfl
 | n+1=>by rw[List.replicate_succ];unfold zJ;rw[lB n];rfl
theorem aAu:shp (.str a)=PyData.strOk a:=by
 show SeqAt.shaped (.str a)=_;unfold SeqAt.shaped;have:decide ((PyData.str a).depth<=64)=true:=rfl;rw[this,Bool.and_true];rfl
theorem aB2:pEq false (.str a) (.str b) G Q=(PyData.strOk a=true/\PyData.strOk b=true/\Q (.bl (a==b)) G):=by
 show(shp (.str a)=true/\shp (.str b)=true/\Q (.bl (peq (.str a) (.str b))) G)=_;simp only[aAu,peq]
theorem nH(s:J8):PyData.strOk (Str.ofString s)=true:=by
 rw[Str.ofString_eq_toList];unfold PyData.strOk;simp only[List.all_toArray,List.all_eq_true,List.mem_map,decide_eq_true_eq];rintro x ⟨c,_,rfl⟩;have h:=c.valid;show c.val.toNat<1114112;rcases h with h|⟨_,h⟩
 . have:c.val.toNat<0xd800:=h;omega
 . have:c.val.toNat<0x110000:=h;exact this
theorem iF(ha:PyData.strOk a=true)(hb:PyData.strOk b=true):PyData.strOk (a++b)=true:=by
 unfold PyData.strOk at *;rw[Str.cps_append,Array.all_append,ha,hb];rfl
theorem SO:PyData.strOk (wr q)=true:=by
 unfold wr iT;split
 . exact nH _
 . exact iF (nH _) (iF (nH _) (nH _))
theorem aHS:PyData.strOk (pP r)=true:=by
 unfold pP;rw[pT];exact iF (iF SO (nH _)) (iF (iF SO (nH _)) SO)
theorem YE(h:G a=some (.lst xs))(q:Q (.int xs.length) G):cT cs .len [.ref a] G Q:=.inr (.inr (.inr ⟨_,eG h,q⟩))
theorem LB(h:PyData.strOk sep=true):∀{ys:List Str},(∀y∈ys,PyData.strOk y=true)->PyData.strOk (Str.join sep ys)=true
 | [],_=>nH ""
 | [y],hy=>hy y (wDq ..)
 | y::z::r,hy=>by
   show PyData.strOk (y++sep++Str.join sep (z::r))=true;exact iF (iF (hy y (wDq ..)) h) (LB h λx hx=>hy x (wCq _ hx))
theorem aDR:PyData.strOk (DI rs)=true:=by
 unfold DI;rw[pT];refine LB (nH _) λy hy=>?_;obtain⟨r,_,rfl⟩:=List.mem_map.mp hy;exact aHS
theorem aJA:PyData.strOk (aID rs)=true:=iF (iF (nH _) aDR) (nH _)
theorem ZE(h:PyData.strOk x=true)(q:Q (.bl true) G):pEq false (.str x) (.str x) G Q:=by
 rw[aB2];exact⟨h,h,by rw[beq_self_eq_true];exact q⟩
def Xt(G K:Gh):Prop:= ∀a o,G a=some o->K a=some o
theorem Xt.new{G K:Gh}(h:Xt G K)(n:K p=none):Xt G (gup K p o):=λa u e=>by
 rw[bQ (λz=>by subst z;rw[h _ _ e] at n;cases n)];exact h a u e
theorem aAO:cT cs .isi [.ref p,.ty "list"] (gup G p (.lst xs)) Q=("list"∈mS/\Q (.bl (tQ "list" "list")) (gup G p (.lst xs))):=uK (by show(match gup G p (.lst xs) p with|some (.lst _)=>some "list"|_=>none)=_;rw[aD])
theorem aED(h:r=s)(q:Q (.bl true) G):pEq false (aL r) (aL s) G Q:=by
 unfold aL;rw[SQ,decide_eq_true h];exact q
theorem aGB(h:r=s)(q:Q (.bl false) G):pEq true (aL r) (aL s) G Q:=by
 subst h;unfold aL;rw[LQ];simpa using q
theorem oU{α:Type}{xs:List α}{v:α}(h:xs.getLast? =some v):atI xs (-1)=some v:=by
 have hne:xs≠[]:=λe=>by subst e;cases h
 have hl:0<xs.length:=List.length_pos_iff.mpr hne;unfold atI ixN;rw[jb ddq,jd ooq];show xs[(-1+(xs.length:Int)).toNat]? =some v;rw[show(-1+(xs.length:Int)).toNat=xs.length-1 by omega,<-List.getLast?_eq_getElem?];exact h
local macro_rules | `(tactic| walk_at "rz") => wk (wqB++" pG uZ rN gF JN aGE sF nL GJ List.map_cons List.map_nil List.getElem?_cons_zero List.getElem?_cons_succ exists_false false_and and_false jC mJ AJ TN lP uW ZC aAx Option.getD_some")
section
variable{T:Tb}
noncomputable def rrC:CE:=.cmpr false (.gn 1) (.isq (.met "shades" [("Row","Row.shades",[])] (.var 0) .nil)) .nil (.cal "_law_told" %[.var 1|_]) [none,none]
noncomputable def rrD:CE:=.cmpr false (.gn 1) (.irg %[.bow .len [("Row","Row.__len__")] %[.var 1|_]|_]) .nil (.an (.cmp .Eq (.cal "_law_told" %[.met "at" [("Row","Row.at",[.arg 0])] (.var 3) %[.var 1|_]|_]) (.idx (.var 2) (.var 1))) (.cmp .Eq (.cal "_law_told" %[.met "at" [("Row","Row.at",[.arg 0])] (.var 3) %[.var 1|_]|_]) (.idx (.var 2) (.var 1)))) [none,none,some 1,some 0]
theorem aD5(k:L28 T)(hl:rs.length<=1000)(hq:∀p,G p=none->Q (LR3 rs) (gup G p (.lst (rs.map shV)))):wpE T rrC [some (ROW rs),u,v,w] G Q:=by
 unfold rrC;have:=k.told;have:=k.rowSh;walk_at "rz"
 refine nI nsh ?_;walk_at "rz"
 refine⟨rs,rfl,λp hp=>?_⟩;refine⟨_,aD,by rw[List.length_map];exact szN hl,?_⟩;refine dF shV (λl σ K acc=>K=gup G p (.lst (rs.map shV))/\(∃u v,σ=[u,v])/\∃l0,l0++l=rs/\acc=l0.map aL) (λ_ _ _ _ h=>by rw[h.1];exact aD) ?_ ?_ rs _ _ _ ⟨rfl,⟨_,_,rfl⟩,[],rfl,rfl⟩
 . rintro r l σ K acc R ⟨rfl,⟨u,v,rfl⟩,l0,e1,e2⟩ hR;walk_at "rz"
   refine⟨r,rfl,hR _ _ _ ⟨rfl,⟨_,_,rfl⟩,l0++[r],by rw[<-e1,List.append_assoc];rfl,?_⟩⟩;rw[e2,List.map_append];rfl
 . rintro σ K acc ⟨rfl,_,l0,e1,e2⟩;rw[List.append_nil] at e1;subst e1 e2;exact hq p hp
theorem aJH(f:PF T)(k:L28 T)(hl:rs.length<=1000)(hq:Q (.lst (List.replicate rs.length (.bl true))) G):wpE T rrD [some (ROW rs),some (LR3 rs),v,w] G Q:=by
 unfold rrD;have:=k.told;have:=k.at_;have:=@yT;walk_at "rz"
 refine WM ?_;walk_at "rz"
 have lm:(rs.map aL).length=rs.length:=List.length_map ..;rw[lm,Int.toNat_natCast];refine⟨by omega,by omega,by unfold mY;rw[List.length_map,List.length_range];exact szN hl,?_⟩;unfold mY;refine dF (λ(i:Nat)=>PV.int (0+(i:Int))) (λl σ K acc=>K=G/\(∃u v,σ=[u,v,some (LR3 rs),some (ROW rs)])/\(∀i∈l,i<rs.length)/\acc++List.replicate l.length (.bl true)=List.replicate rs.length (.bl true)) (λ_ _ _ _ _=>trivial) ?_ ?_ (List.range rs.length) _ _ _ ⟨rfl,⟨_,_,rfl⟩,λi hi=>List.mem_range.mp hi,by rw[List.length_range];rfl⟩
 . rintro i l σ K acc R ⟨rfl,⟨u,v,rfl⟩,hi,e⟩ hR;have hlt:=hi i (wDq ..);have ea:atI (rs.map aL) (i:Int)=some (aL rs[i]):=cF (by rw[List.getElem?_map,wHq hlt];rfl);have step:∀{Q2:PK1},Q2 (.bl true) K->∃c ky ar,(c,ky,ar)∈[(("Row":J8),("Row.at":Str),[Ar.arg 0])]/\∃x x1,(ROW rs= .ob c x x1∨∃p,ROW rs= .ref p/\K p=some (.ins c x x1))/\¬("at":Str)∈x/\T.S ky (ROW rs::List.map (Ar.val [PV.int (i:Int)]) ar) K λx G1=>AN [x] G1 λx G1=>mU (LR3 rs) (.int (i:Int)) G1 λy G2=>pEq false x y G2 Q2:=λ{Q2} q2=>by
     refine nI WR ?_;rw[k.at_];refine⟨rs,i,rs[i],rfl,wHq hlt,by omega,⟨_,rfl,?_⟩⟩;show mU (.lst (rs.map aL)) (.int (i:Int)) K _;rw[cA];exact⟨_,ea,aED rfl q2⟩
   have z0:(0:Int)+(i:Int)=(i:Int):=Int.zero_add _;walk_at "rz"
   refine step ?_;walk_at "rz"
   refine step ?_;refine hR _ _ _ ⟨rfl,⟨_,_,rfl⟩,λj hj=>hi j (wCq _ hj),?_⟩;rw[<-e,List.length_cons,List.replicate_succ,List.append_assoc];rfl
 . rintro σ K acc ⟨rfl,_,_,e⟩;rw[List.length_nil,List.replicate_zero,List.append_nil] at e;rw[e];exact hq
noncomputable def rr4:CS:=.seq (.iff (.no (.tst (.blt .all %[rrD|_]))) (.ret (.bl false)) .nil) (.seq (.asg (.gn 3) (.cal "_law_shown" %[.var 1|_])) (.ret (.an (.cmp .Eq (.bow .str [("Row","Row.__str__")] %[.var 0|_]) (.var 3)) (.an (.cmp .Eq (.bow .repr [("Row","Row.__repr__")] %[.var 0|_]) (.bin .Add (.bin .Add (.str "Row(") (.var 3)) (.str ")"))) (.cmp .Is (.bow .bool [("Row","Row.__len__")] %[.var 0|_]) (.bl true))))))
theorem aKl(f:PF T)(k:L28 T)(h1:1<=rs.length)(hl:rs.length<=1000)(hs:∀r∈rs,Sh7 200 r)(hq:Wk R (.bl true) G):wpS T rr4 (aH R) [some (ROW rs),some (LR3 rs),v,w] G:=by
 unfold rr4;have:=k.shown;have l4:=CK hs hl;have l1:("Row(":Str).length=4:=rfl;have l2:(")":Str).length=1:=rfl;have hz:=sizeLine_eq;walk_at "rz"
 refine aJH f k hl ?_;rw[jK];refine⟨true,lB _,?_⟩;walk_at "rz"
 refine⟨rs,rfl,hl,hs,?_⟩;dsimp only;refine mM ?_;rw[k.strR];refine⟨rs,rfl,hl,hs,_,rfl,ZE aDR ?_⟩;walk_at "rz"
 refine mM ?_;rw[k.repR];refine⟨rs,rfl,hl,hs,_,rfl,by omega,by rw[bA];omega,ZE aJA ?_⟩;walk_at "rz"
 refine mM ?_;rw[f.rowLen];refine⟨_,rfl,_,rfl,by omega,by rw[List.length_map];omega,?_⟩;have e:((((rs.map shV).length:Nat):Int)!=0)=true:=by rw[List.length_map];simp;intro z;subst z;simp at h1
 rw[e];walk_at "rz"
 exact hq
noncomputable def rr3:CS:=.seq (.iff (.oo (.no (.tst (.blt .isi %[.met "shades" [("Row","Row.shades",[])] (.var 0) .nil,.glo "list"|_]))) (.tsb (.cmp .NotEq rrC (.var 1)))) (.ret (.bl false)) .nil) (.seq (.iff (.oo (.tsb (.cmp .NotEq (.bow .len [("Row","Row.__len__")] %[.var 2|_]) (.bin .Add (.bow .len [("Row","Row.__len__")] %[.var 1|_]) (.int 1)))) (.oo (.tsb (.cmp .IsNot (.idx (.var 2) (.neg (.int 1))) .non)) (.tsb (.cmp .NotEq (.cal "_law_told" %[.idx (.var 2) (.int 0)|_]) (.idx (.var 1) (.neg (.int 1))))))) (.ret (.bl false)) .nil) rr4)
theorem aIE(h:PF T)(k:L28 T){rs:List R3}{w:Option PV}{q:Addr}{K:Gh}{R:PK1}(h1:1<=rs.length)(hl:rs.length<=1000)(hs:∀r∈rs,Sh7 200 r)(gq:K q=some (.lst (rs.reverse.map shV++[.non])))(hq:∀K',Xt K K'->Wk R (.bl true) K'):wpS T rr3 (aH R) [some (ROW rs),some (LR3 rs),some (.ref q),w] K:=by
 unfold rr3;have:=k.rowSh;have:=k.told;have:=h.ty_list;have:=@aAO;have it:tQ "list" "list"=true:=rfl;walk_at "rz"
 refine nI nsh ?_;walk_at "rz"
 refine⟨rs,rfl,λp hp=>?_⟩;walk_at "rz"
 have hpq:q≠p:=λe=>by subst e;rw[hp] at gq;cases gq
 refine⟨by decide,aD5 k hl λp2 hp2=>?_⟩;have x1:Xt K (gup K p (.lst (rs.map shV))):=Xt.new (λ_ _ e=>e) hp;have x2:=x1.new hp2 (o:=.lst (rs.map shV));have gq2:=x2 _ _ gq;have q2:=hq _ x2;generalize gup (gup K p (.lst (rs.map shV))) p2 (.lst (rs.map shV))=K2 at *;rw[QY];refine⟨false,by simp,?_⟩;rw[jb Bool.false_ne_true];refine .inr (YE gq2 ?_);refine WM ?_;walk_at "rz"
 rw[jb (by simp)];rw[pK gq2];refine⟨PV.non,oU (by simp),?_⟩;walk_at "rz"
 rw[pK gq2];have hne:rs≠[]:=λe=>by subst e;simp at h1
 have er:rs=rs.dropLast++[rs.getLast hne]:=(List.dropLast_concat_getLast hne).symm;generalize rs.getLast hne=r at er;have e0:atI (rs.reverse.map shV++[PV.non]) 0=some (shV r):=by rw[er,List.reverse_append,List.reverse_singleton,List.cons_append,List.map_cons,List.cons_append];exact at0
 have e1:atI (rs.map aL) (-1)=some (aL r):=oU (by rw[er];simp);refine⟨_,e0,⟨r,rfl,?_⟩⟩;show mU (.lst (rs.map aL)) (.int (-1)) K2 _;rw[cA];refine⟨_,e1,aGB rfl ⟨false,rfl,?_⟩⟩;rw[jb Bool.false_ne_true];exact aKl h k h1 hl hs q2
noncomputable def rr2:CS:=.seq (.asg (.gn 2) (.met "shades" [("Row","Row.shades",[])] (.var 0) .nil)) (.seq (.ex (.rvs (.var 2))) (.seq (.ex (.app (.var 2) .non)) rr3))
theorem aIp(h:PF T)(k:L28 T){rs:List R3}{v w:Option PV}{K:Gh}{R:PK1}(h1:1<=rs.length)(hl:rs.length<=1000)(hs:∀r∈rs,Sh7 200 r)(hq:∀K',Xt K K'->Wk R (.bl true) K'):wpS T rr2 (aH R) [some (ROW rs),some (LR3 rs),v,w] K:=by
 unfold rr2;have:=k.rowSh;have:=@dI;walk_at "rz"
 refine nI nsh ?_;walk_at "rz"
 refine⟨rs,rfl,λp hp=>?_⟩;refine⟨p,rfl,_,aD,⟨_,dI⟩,p,rfl,_,aD,by rw[List.length_reverse,List.length_map];exact Nat.lt_of_le_of_lt hl ddq,?_⟩;rw[cS,cS];refine aIE h k h1 hl hs (by rw[aD,List.map_reverse]) λK' x=>hq K' λa o e=>x a o ?_;rw[bQ (λz=>by subst z;rw[hp] at e;cases e)];exact e
noncomputable def iU:CS:=.seq (.iff (.oo (.tsb (.cmp .NotEq rrC (.var 1))) (.oo (.tsb (.cmp .NotEq (.bow .len [("Row","Row.__len__")] %[.var 0|_]) (.bow .len [("Row","Row.__len__")] %[.var 1|_]))) (.no (.tso [("Row","Row.__len__")] (.var 0))))) (.ret (.bl false)) .nil) rr2
theorem xJ(h:PF T)(k:L28 T):∀xs G Q,HH xs G Q->wpS T iU (aH Q) (aB 4 xs) G:=by
 rintro xs G Q ⟨rs,rfl,h1,hl,hs,hq⟩;unfold iU;walk_at "rz"
 refine aD5 k hl λp hp=>?_;rw[QY];refine⟨false,by simp,?_⟩;rw[jb Bool.false_ne_true];refine aDi h ooq (WM ?_);walk_at "rz"
 rw[jb (by simp)];refine .inl ⟨"Row","Row.__len__",_,_,List.mem_singleton.mpr rfl,rfl,?_⟩;rw[h.rowLen];refine⟨_,rfl,_,rfl,by omega,by rw[List.length_map];omega,?_⟩;have e:((((rs.map shV).length:Nat):Int)!=0)=true:=by rw[List.length_map];simp;intro z;subst z;simp at h1
 rw[e];dsimp only;rw[jb ddq];refine aIp h k h1 hl hs λK' x=>Wk.of hq λa o z=>x a o ?_;rw[bQ (λe=>by subst e;rw[hp] at z;cases z)];exact z
end
noncomputable abbrev EXS:List (J8×Str):=[("Row","Row.__eq__"),("Shade","Shade.__eq__")]
theorem aD0:∀rs:List R3,rO (rs.map shV)=true
 | []=>by simp[rO]
 | r::rs=>by
   rw[List.map_cons];unfold rO;rw[aD0 rs,Bool.and_true];rfl
theorem SL:plO (ROW rs)=true:=by
 show rO [.tup (rs.map shV)]=true;unfold rO pln;rw[aD0];simp[rO]
theorem LA:∀{rs ss:List R3},rs.map shV=ss.map shV->rs=ss
 | [],[],_=>rfl
 | [],_::_,h=>by cases h
 | _::_,[],h=>by cases h
 | r::rs,s::ss,h=>by
   rw[List.map_cons,List.map_cons] at h;injection h with h1 h2;rw[LL h1,LA h2]
theorem aBm(h:ROW rs=ROW ss):rs=ss:=by
 unfold ROW at h;injection h with _ _ h;injection h with h _;injection h with h;exact LA h
theorem BD(h:nX x G=some n):SR c x G:=λcs Q _ _ hc q=>⟨hc,.inl ⟨n,h,q⟩⟩
theorem WW(h:d≠c)(hd:d="Row"∨d="Shade"):SR c (.ob d ns xs) G:=λcs Q h1 h2 hc q=>⟨hc,.inr ⟨d,rfl,by rcases hd with rfl|rfl<;>assumption,by rw[decide_eq_false h];exact q⟩⟩
section
variable{T:Tb}{G:Gh}{Q:PK1}{rs ss:List R3}
theorem m1:(("Row":J8),("Row.__eq__":Str))∈EXS:=wDq ..
theorem m2:(("Shade":J8),("Shade.__eq__":Str))∈EXS:=wCq _ (wDq ..)
theorem sR(k:L28 T)(q:R (.bl (decide (rs=ss))) G):T.S "Row.__eq__" [ROW rs,ROW ss] G R:=by
 rw[k.eqR];exact⟨rs,_,rfl,.inl ⟨ss,rfl,q⟩⟩
theorem sRn(k:L28 T)(h:SR "Row" x G)(q:R (.bl false) G):T.S "Row.__eq__" [ROW rs,x] G R:=by
 rw[k.eqR];exact⟨rs,_,rfl,.inr ⟨h,q⟩⟩
theorem sSn(k:L28 T)(q:R (.bl false) G):T.S "Shade.__eq__" [shV r,ROW rs] G R:=by
 rw[k.eqS];exact⟨r,_,rfl,.inr ⟨WW ddq (by simp),q⟩⟩
theorem GZ(k:L28 T)(q:Q (.bl (decide (rs=ss))) G):pX T .Eq EXS (ROW rs) (ROW ss) G Q:=.inl (.inl ⟨"Row","Row.__eq__",_,_,_,_,m1,rfl,rfl,sR k ⟨_,rfl,q⟩⟩)
theorem aEF(q:Q (.bl (decide (rs=ss))) G):pX T .Eq EXS (LR3 rs) (LR3 ss) G Q:=.inl (.inr (by rw[aGr];exact q))
theorem aE8(q:Q (.bl (a==b)) G):pX T .Eq EXS (.bl a) (.bl b) G Q:=.inl (.inr ⟨rfl,rfl,by
 have e:peq (pur G (.bl a)) (pur G (.bl b))=(a==b):=by show peq (.bl a) (.bl b)=_;simp only[peq]
 rw[e];exact q⟩)
theorem xne(k:L28 T)(q:Q (.bl (!decide (rs=ss))) G):pX T .NotEq EXS (ROW rs) (ROW ss) G Q:=.inl (.inl ⟨"Row","Row.__eq__",_,_,_,_,m1,rfl,rfl,sR k ⟨_,rfl,q⟩⟩)
theorem ZR(k:L28 T)(q:R (decide (ss=rs)) G):inP T EXS "Row" "Row.__eq__" (ROW rs) R [ROW ss] G:=by
 refine .inl ⟨⟨_,_,rfl⟩,λh=>?_,sR k ⟨_,rfl,?_⟩⟩
 . have e:=aBm (h SL SL);rw[decide_eq_true e] at q;exact q
 . by_cases e:ss=rs
   . rw[jd (by simpa using e)];rw[decide_eq_true e] at q;exact q
   . rw[jb (by simpa using e)];rw[decide_eq_false e] at q;exact q
theorem aKE(f:PF T)(k:L28 T)(q:Q (.bl (decide (ss=rs))) G):pX T .In EXS (ROW rs) (.lst [ROW ss]) G Q :=
 ⟨"Row","Row.__eq__",_,_,_,m1,f.csR,rfl,.inl rfl,ZR k q⟩
theorem aIF(f:PF T)(k:L28 T)(q:Q (.bl (decide (ss=rs))) G):pX T .In EXS (ROW rs) (.lst [.non,ROW ss]) G Q :=
 ⟨"Row","Row.__eq__",_,_,_,m1,f.csR,rfl,.inl rfl,.inr (.inl ⟨trivial,sRn k (BD (n:="NoneType") rfl) ⟨false,rfl,by rw[jb Bool.false_ne_true];exact ZR k q⟩⟩)⟩
def OdR(G:Gh)(x:PV):Prop:=(buP x G/\∃n,nX x G=some n)∨∃r:R3,x=shV r
theorem aLX(h:PT T)(k:L28 T)(o:OdR G x)(q:Q (.bl false) G):pX T .Eq EXS (ROW rs) x G Q:=by
 rcases o with ⟨b,n,e⟩|⟨r,rfl⟩
 . exact .inr (.inl ⟨"Row","Row.__eq__",_,_,m1,rfl,.inl b,sRn k (BD e) ⟨_,rfl,q⟩⟩)
 . exact .inr (.inl ⟨"Row","Row.__eq__",_,_,m1,rfl,.inr ⟨"Shade",_,_,rfl,h.cs,by decide⟩,sRn k (WW ddq (by simp)) ⟨_,rfl,q⟩⟩)
theorem aLS(f:PF T)(k:L28 T)(o:OdR G x)(q:Q (.bl false) G):pX T .Eq EXS x (ROW rs) G Q:=by
 rcases o with ⟨b,n,e⟩|⟨r,rfl⟩
 . exact .inr (.inr ⟨"Row","Row.__eq__",_,_,m1,rfl,b,sRn k (BD e) ⟨_,rfl,q⟩⟩)
 . exact .inr (.inl ⟨"Shade","Shade.__eq__",_,_,m2,rfl,.inr ⟨"Row",_,_,rfl,f.csR,by decide⟩,sSn k ⟨_,rfl,q⟩⟩)
theorem WP(h:PT T)(k:L28 T)(q:R false G):∀xs:List PV,(∀x∈xs,OdR G x)->inP T EXS "Row" "Row.__eq__" (ROW rs) R xs G
 | [],_=>q
 | x::xs,o=>by
   have nx:=WP h k (R:=R) q xs λy hy=>o y (wCq _ hy);rcases o x (wDq ..) with ⟨b,n,e⟩|⟨r,rfl⟩
   . exact .inr (.inl ⟨b,sRn k (BD e) ⟨false,rfl,by rw[jb Bool.false_ne_true];exact nx⟩⟩)
   . exact .inr (.inr ⟨"Shade","Shade.__eq__",_,_,m2,h.cs,by decide,rfl,sSn k ⟨false,rfl,by rw[jb Bool.false_ne_true];exact nx⟩⟩)
theorem aL2(h:PT T)(f:PF T)(k:L28 T)(o:∀x∈xs,OdR G x)(q:Q (.bl true) G):pX T .NotIn EXS (ROW rs) (.lst xs) G Q :=
 ⟨"Row","Row.__eq__",_,_,_,m1,f.csR,rfl,.inl rfl,WP h k (by simpa using q) xs o⟩
end
theorem DL:∀n:Nat,GY (List.replicate n (.bl false))=some false
 | 0=>rfl
 | n+1=>by rw[List.replicate_succ];unfold GY;rw[DL n];rfl
local macro_rules | `(tactic| walk_at "rz") => wk (wqB++" pG uZ rN gF UG aEp sF aDK aFz GJ List.getElem?_cons_zero List.getElem?_cons_succ aAq DG gE aGs Option.getD_some sz1 sz2")
section
variable{T:Tb}
noncomputable def alC:CE:=.cmpr false (.gn 1) (.isq (.var 6)) .nil (.an (.blt .isi %[.var 1,.glo "bool"|_]) (.cex .Eq EXS (.var 1) (.var 2))) [none,none,some 5]
noncomputable def anC:CE:=.cmpr false (.gn 1) (.isq (.var 7)) .nil (.oo (.cex .Eq EXS (.var 2) (.var 1)) (.cex .Eq EXS (.var 1) (.var 2))) [none,none,some 0]
noncomputable def alB:CS:=.seq (.asg (.gn 5) (.cex .Eq EXS (.var 4) (.var 1))) (.seq (.asg (.gn 6) (.lst false %[.cex .Eq EXS (.var 0) (.var 3),.cex .Eq EXS (.var 3) (.var 0),.cex .In EXS (.var 0) (.lst false %[.var 3|_]),.cex .In EXS (.var 3) (.lst false %[.non,.var 0|_]),.no (.cex .NotEq EXS (.var 0) (.var 3))|_])) (.iff (.no (.tst (.blt .all %[alC|_]))) (.ret (.bl false)) .nil))
noncomputable def alE:CS:=.seq (.asg (.gn 7) (.lst false %[.non,.int 1,.bl true,.str "",.bow .str [("Row","Row.__str__")] %[.var 0|_],.tup .nil,.lst false .nil,.emp,.met "shades" [("Row","Row.shades",[])] (.var 0) .nil,.blt .tuple %[.met "shades" [("Row","Row.shades",[])] (.var 0) .nil|_],.met "at" [("Row","Row.at",[.arg 0])] (.var 0) %[.int 0|_],.var 1|_])) (.ret (.an (.cex .Eq EXS (.var 0) (.var 0)) (.an (.no (.blt .any %[anC|_])) (.cex .NotIn EXS (.var 0) (.var 7)))))
noncomputable def gJ:CS:=.seq (.fr (.gt 2 %[.gn 3,.gn 4|_]) (.isq (.var 2)) alB) alE
theorem aJP(h:PT T)(hq:Q (.lst (List.replicate 5 (.bl true))) G):wpE T alC [x0,x1,x2,x3,x4,some (.bl b),some (.lst (List.replicate 5 (.bl b))),x7] G Q:=by
 unfold alC;have:=h.ty_bool;walk_at "rz"
 refine⟨by decide,?_⟩;refine dF (λ_:Unit=>PV.bl b) (λl σ K acc=>K=G/\(∃u v,σ=[u,v,some (.bl b)])/\acc++List.replicate l.length (.bl true)=List.replicate 5 (.bl true)) (λ_ _ _ _ _=>trivial) ?_ ?_ [(),(),(),(),()] _ _ _ ⟨rfl,⟨_,_,rfl⟩,rfl⟩
 . rintro _ l σ K acc R ⟨rfl,⟨u,v,rfl⟩,e⟩ hR;walk_at "rz"
   refine aE8 ?_;rw[beq_self_eq_true];refine hR _ _ _ ⟨rfl,⟨_,_,rfl⟩,?_⟩;rw[<-e,List.length_cons,List.replicate_succ,List.append_assoc];rfl
 . rintro σ K acc ⟨rfl,_,e⟩;rw[List.length_nil,List.replicate_zero,List.append_nil] at e;rw[e];exact hq
theorem aIe(h:PT T)(f:PF T)(k:L28 T)(hl:xs.length<=20)(o:∀x∈xs,OdR G x)(hq:Q (.lst (List.replicate xs.length (.bl false))) G):wpE T anC [some (ROW rs),x1,x2,x3,x4,x5,x6,some (.lst xs)] G Q:=by
 unfold anC;walk_at "rz"
 refine⟨szN ooq,?_⟩;rw[show xs=xs.map id by rw[List.map_id]];refine dF id (λl σ K acc=>K=G/\(∃u v,σ=[u,v,some (ROW rs)])/\(∀x∈l,OdR G x)/\acc++List.replicate l.length (.bl false)=List.replicate xs.length (.bl false)) (λ_ _ _ _ _=>trivial) ?_ ?_ xs _ _ _ ⟨rfl,⟨_,_,rfl⟩,o,rfl⟩
 . rintro x l σ K acc R ⟨rfl,⟨u,v,rfl⟩,ho,e⟩ hR;have ox:=ho x (wDq ..);walk_at "rz"
   refine aLX h k ox ?_;walk_at "rz"
   refine aLS f k ox (hR _ _ _ ⟨rfl,⟨_,_,rfl⟩,λy hy=>ho y (wCq _ hy),?_⟩);rw[<-e,List.length_cons,List.replicate_succ,List.append_assoc];rfl
 . rintro σ K acc ⟨rfl,_,_,e⟩;rw[List.length_nil,List.replicate_zero,List.append_nil] at e;rw[e];exact hq
theorem aIT(h:PT T)(f:PF T)(k:L28 T)(D:eU)(hD:∀y5 y6,D.nx [some (ROW rs),some (LR3 rs),x2,some (ROW ss),some (LR3 ss),y5,y6,x7] G):wpS T alB D [some (ROW rs),some (LR3 rs),x2,some (ROW ss),some (LR3 ss),x5,x6,x7] G:=by
 unfold alB;walk_at "rz"
 refine aEF ?_;refine GZ k ?_;refine GZ k ?_;refine aKE f k ?_;refine aIF f k ?_;refine xne k ?_;rw[aV];refine⟨by decide,?_⟩;have e1:decide (rs=ss)=decide (ss=rs):=decide_eq_decide.mpr ⟨Eq.symm,Eq.symm⟩;rw[e1,Bool.not_not];refine aJP h ?_;rw[jK];refine⟨true,lB _,?_⟩;rw[aV,jb ddq];exact hD _ _
theorem aJC(h:PT T)(f:PF T)(k:L28 T)(h1:1<=rs.length)(hl:rs.length<=1000)(hs:∀r∈rs,Sh7 200 r)(hq:R (.bl true) G):wpS T alE (aH R) [some (ROW rs),some (LR3 rs),x2,x3,x4,x5,x6,x7] G:=by
 unfold alE;have:=k.rowSh;have:=k.at_;walk_at "rz"
 refine mM ?_;rw[k.strR];refine⟨rs,rfl,hl,hs,_,rfl,?_⟩;refine⟨Nat.zero_le _,Nat.zero_le _,nI nsh ?_⟩;rw[k.rowSh];refine⟨rs,rfl,λp hp=>nI nsh ?_⟩;rw[k.rowSh];refine⟨rs,rfl,λp2 hp2=>?_⟩;have hpp:p≠p2:=λe=>by subst e;rw[aD] at hp2;cases hp2
 have x1:Xt G (gup G p (.lst (rs.map shV))):=Xt.new (λ_ _ e=>e) hp;have x2:=x1.new hp2 (o:=.lst (rs.map shV));have gp:gup (gup G p (.lst (rs.map shV))) p2 (.lst (rs.map shV)) p=some (.lst (rs.map shV)):=by rw[bQ hpp,aD]
 walk_at "rz"
 refine nI WR ?_;rw[k.at_];have h0:0<rs.length:=by omega
 refine⟨rs,0,rs[0],rfl,wHq h0,by omega,by decide,?_⟩;have o:∀x∈[PV.non,.int 1,.bl true,.str "",.str (DI rs),.tup [],.lst [],.emp,.ref p,.tup (rs.map shV),shV rs[0],LR3 rs],OdR (gup (gup G p (.lst (rs.map shV))) p2 (.lst (rs.map shV))) x:=λx hx=>by
   simp only[List.mem_cons,List.not_mem_nil,or_false] at hx;rcases hx with rfl|rfl|rfl|rfl|rfl|rfl|rfl|rfl|rfl|rfl|rfl|rfl
   . exact .inl ⟨trivial,_,rfl⟩
   . exact .inl ⟨trivial,_,rfl⟩
   . exact .inl ⟨trivial,_,rfl⟩
   . exact .inl ⟨trivial,_,rfl⟩
   . exact .inl ⟨trivial,_,rfl⟩
   . exact .inl ⟨trivial,_,rfl⟩
   . exact .inl ⟨trivial,_,rfl⟩
   . exact .inl ⟨trivial,_,rfl⟩
   . exact .inl ⟨⟨_,eG gp⟩,"list",by show(match gup (gup G p (.lst (rs.map shV))) p2 (.lst (rs.map shV)) p with|some (.lst _)=>some "list"|_=>none)=_;rw[gp]⟩
   . exact .inl ⟨trivial,_,rfl⟩
   . exact .inr ⟨_,rfl⟩
   . exact .inl ⟨trivial,_,rfl⟩
 generalize gup (gup G p (.lst (rs.map shV))) p2 (.lst (rs.map shV))=K at *;refine GZ k ?_;rw[decide_eq_true rfl,aV,jd rfl];refine aIe h f k (by simp) o ?_;refine⟨_,false,rfl,DL _,?_⟩;dsimp only;rw[aV,jd ddq];exact aL2 h f k o (Wk.of hq x2)
theorem uJ(h:PT T)(f:PF T)(k:L28 T):∀xs G Q,AK xs G Q->wpS T gJ (aH Q) (aB 8 xs) G:=by
 rintro xs G Q ⟨rs,os,l,rfl,gl,ho,h1,hl,hs,hq⟩;unfold gJ;walk_at "rz"
 refine⟨_,gl,?_⟩;refine iK aGj (λ_ σ K=>K=G/\∃x2 x3 x4 x5 x6 x7,σ=[some (ROW rs),some (LR3 rs),x2,x3,x4,x5,x6,x7]) (λ_ _ _ h=>by rw[h.1];exact gl) ?_ ?_ os _ _ ⟨rfl,_,_,_,_,_,_,rfl⟩
 . rintro ss l σ K R ⟨rfl,x2,x3,x4,x5,x6,x7,rfl⟩ hR;unfold aGj;walk_at "rz"
   exact aIT h f k _ λy5 y6=>hR _ _ ⟨rfl,_,_,_,_,_,_,rfl⟩
 . rintro σ K ⟨rfl,x2,x3,x4,x5,x6,x7,rfl⟩;exact aJC h f k h1 hl hs hq
end
theorem aCY(h1:Ra q r)(h2:Ra q s):r<=s:=by
 rcases Int.lt_or_le s r with z|z
 . have a:=h1.2.2 (by have:=h2.1;omega);have b:=h2.2.1;have:s*s<=(r-1)*(r-1):=Int.mul_le_mul ooq ooq h2.1 (by have:=h2.1;omega);have c:((s*s:Int):Rat)<=(((r-1)*(r-1):Int):Rat):=Rat.intCast_le_intCast.mpr this
   grind
 . exact z
theorem DD(h1:Ra q r)(h2:Ra q s):r=s:=Int.le_antisymm (aCY h1 h2) (aCY h2 h1)
theorem aDs:RW x.1 x.2.1 x.2.2 y.1 y.2.1 y.2.2 n=ROW (sts x y n):=by
 unfold RW ROW stL sts;rw[List.map_map];rfl
noncomputable def x0:R3:=(0,0,0)
noncomputable def y1:R3:=(1,1,1)
theorem SX:fK 0 0 0 1 1 1 99 99 99=297:=by unfold fK;decide +kernel
theorem lF:Ok3 12 x0:=⟨⟨⟨by decide,by decide⟩,⟨by decide,by decide⟩,by decide,by decide⟩,by unfold Bd Sm;decide,by unfold Bd Sm;decide,by unfold Bd Sm;decide⟩
theorem lW:Ok3 12 y1:=⟨⟨⟨by decide,by decide⟩,⟨by decide,by decide⟩,by decide,by decide⟩,by unfold Bd Sm;decide,by unfold Bd Sm;decide,by unfold Bd Sm;decide⟩
theorem aIk:Ey 99 99 99:=⟨⟨by decide,by decide⟩,⟨by decide,by decide⟩,by decide,by decide⟩
noncomputable def prV(p:Rat×Int):PV:=.tup [FQ p.1,.int p.2]
def GrP(p:Rat×Int):Prop:=0<p.1/\p.1<=1000/\Bd 2000 p.1/\∀r,Ra (297/p.1) r->r=p.2
theorem aLU{q t:Rat}(hq:0<q)(h:t*q=297):297/q=t:=by
 rw[<-h];exact Rat.mul_div_cancel (by grind)
theorem aMu:GrP (l1k,545):=by
 refine⟨by decide,by decide,KZ.mono ddq,λr hr=>?_⟩;have e:(297:Rat)/l1k=297000:=aLU ddq (by decide +kernel);rw[e] at hr;exact DD hr ⟨by decide,by decide,λ_=>by decide⟩
theorem aIj(n1:1<=n)(n2:n<=544)(hc:c=297∨c=298):GrP (Rat.divInt c (n*n),n):=by
 have hp0:0<n*n:=Int.mul_pos ooq ooq;have hm:n*n<=544*544:=Int.mul_le_mul n2 n2 ooq ddq;have hM:(0:Rat)<((n*n:Int):Rat):=Rat.intCast_pos.mpr hp0;have hM1:(1:Rat)<=((n*n:Int):Rat):=by have:((1:Int):Rat)<=((n*n:Int):Rat):=Rat.intCast_le_intCast.mpr hp0;exact this
 have bd:Bd 30 (Rat.divInt c (n*n)):=Bd.divInt (by unfold Sm;omega) (by unfold Sm;omega) ooq;have ed:Rat.divInt c (n*n)*((n*n:Int):Rat)=(c:Rat):=by rw[Rat.divInt_eq_div];exact Rat.div_mul_cancel (by grind)
 generalize hq:Rat.divInt c (n*n)=q at *;have c297:(297:Rat)<=(c:Rat):=by have:((297:Int):Rat)<=(c:Rat):=Rat.intCast_le_intCast.mpr ooq;exact this
 have c298:(c:Rat)<=298:=by have:(c:Rat)<=((298:Int):Rat):=Rat.intCast_le_intCast.mpr ooq;exact this
 have q0:0<q:=by
   rcases Rat.le_total (a:=q) (b:=0) with z|z
   . have:0<=(0-q)*((n*n:Int):Rat):=Rat.mul_nonneg (by grind) (by grind)
     grind
   . rcases Rat.le_iff_lt_or_eq.mp z with z|z
     . exact z
     . subst z;grind
 have q1:q<=1000:=by
   have:0<=q*(((n*n:Int):Rat)-1):=Rat.mul_nonneg (by grind) (by grind)
   grind
 refine⟨q0,q1,bd.mono ddq,λr hr=>DD hr ⟨by omega,?_,λ_=>?_⟩⟩
 . refine aDN q0 ?_;intro z
   grind
 . refine(HF q0).mp ?_;have hk:((n-1)*(n-1))*298<297*(n*n):=by
     have:(n-1)*(n-1)=n*n-2*n+1:=by grind
     by_cases h5:n<=5
     . have h3:n*n<=5*n:=Int.mul_le_mul_of_nonneg_right h5 ooq;omega
     . have h3:n*n<=544*n:=Int.mul_le_mul_of_nonneg_right n2 ooq;omega
   show(((n-1)*(n-1):Int):Rat)*q<297;generalize (n-1)*(n-1)=A at *;generalize n*n=M at *;have hk2:((A*298:Int):Rat)<((297*M:Int):Rat):=Rat.intCast_lt_intCast.mpr hk;rw[Rat.intCast_mul,Rat.intCast_mul] at hk2;have e1:((298:Int):Rat)=298:=rfl;have e2:((297:Int):Rat)=297:=rfl;rw[e1,e2] at hk2;have k1:0<(297*(M:Rat)-(A:Rat)*298)*q:=Rat.mul_pos (by grind) q0
   grind
theorem aLz(n1:1<=n)(n2:n<=544)(h:∀r,Ra (297/Rat.divInt 296000 (n*n*1000+1)) r->r=m):GrP (Rat.divInt 296000 (n*n*1000+1),m):=by
 have hp0:0<n*n:=Int.mul_pos ooq ooq;have hm:n*n<=544*544:=Int.mul_le_mul n2 n2 ooq ddq;have hM:(1001:Rat)<=((n*n*1000+1:Int):Rat):=by have:((1001:Int):Rat)<=((n*n*1000+1:Int):Rat):=Rat.intCast_le_intCast.mpr ooq;exact this
 have bd:Bd 40 (Rat.divInt 296000 (n*n*1000+1)):=Bd.divInt (by unfold Sm;decide) (by unfold Sm;omega) ooq;have ed:Rat.divInt 296000 (n*n*1000+1)*((n*n*1000+1:Int):Rat)=((296000:Int):Rat):=by rw[Rat.divInt_eq_div];exact Rat.div_mul_cancel (by grind)
 have e2:((296000:Int):Rat)=296000:=rfl;rw[e2] at ed;generalize Rat.divInt 296000 (n*n*1000+1)=q at *;generalize ((n*n*1000+1:Int):Rat)=M at *;have q0:0<q:=by
   rcases Rat.le_total (a:=q) (b:=0) with z|z
   . have:0<=(0-q)*M:=Rat.mul_nonneg (by grind) (by grind)
     grind
   . rcases Rat.le_iff_lt_or_eq.mp z with z|z
     . exact z
     . subst z;grind
 have q1:q<=1000:=by
   have:0<=q*(M-1001):=Rat.mul_nonneg (by grind) (by grind)
   grind
 exact⟨q0,q1,bd.mono ddq,h⟩
noncomputable abbrev EN:PV:=.lst [shV x0,shV y1]
theorem aFA(e:i=j)(q:Q (.bl false) G):pEq true (.int i) (.int j) G Q:=by
 subst e;rw[lP];simpa using q
local macro_rules | `(tactic| walk_at "rz") => wk (wqB++" pG zR nL fH mO mJ cA dI lI at0 at1 iI bJ exists_eq' dE jT sz2 dE aDq lL")
section
variable{T:Tb}
noncomputable def grS:CE:=.cal "steps_between" %[.idx (.var 1) (.int 0),.idx (.var 1) (.int 1),.var 8,.tup %[.int 99,.int 99,.int 99|_]|_]
noncomputable def grF:CS:=.seq (.fr (.gt 2 %[.gn 8,.gn 9|_]) (.isq (.var 4)) (.iff (.an (.no (.tst (.cal "_law_below" %[.var 8,.tup %[.int 1,.int 1000|_]|_]))) (.tsb (.cmp .NotEq grS (.var 9)))) (.ret (.bl false)) .nil)) (.ret (.bl true))
noncomputable def grM:CS:=.seq (.iff (.tsb (.chn .Lt .Lt (.int 60) (.var 2) (.int 161))) (.seq (.par 5 6 (.cal "_law_told" %[.idx (.var 1) (.int 0)|_]) (.cal "_law_told" %[.idx (.var 1) (.int 1)|_])) (.seq (.asg (.gn 7) (.cal "Row" %[.idx (.var 1) (.int 0),.idx (.var 1) (.int 1),.idx (.idx (.var 4) (.int 1)) (.int 0),.tup %[.int 99,.int 99,.int 99|_]|_])) (.iff (.no (.tst (.cal "_law_long_right" %[.idx (.var 1) (.int 0),.idx (.var 1) (.int 1),.var 5,.var 6,.var 2,.var 7|_]))) (.ret (.bl false)) .nil))) .nil) grF
noncomputable def eW:CS:=.seq (.asg (.gn 1) (.lst false %[.cal "_law_made" %[.tup %[.tup %[.int 0,.int 1|_],.tup %[.int 0,.int 1|_],.tup %[.int 0,.int 1|_]|_]|_],.cal "_law_made" %[.tup %[.tup %[.int 1,.int 1|_],.tup %[.int 1,.int 1|_],.tup %[.int 1,.int 1|_]|_]|_]|_])) (.seq (.asg (.gn 2) (.bin .Add (.int 1) (.cal "_law_pick" %[.var 0,.idx (.lst false %[.int 160,.int 544|_]) (.cal "_law_pick" %[.var 0,.int 2|_])|_]))) (.seq (.asg (.gn 3) (.bin .Mult (.var 2) (.var 2))) (.seq (.asg (.gn 4) (.lst true %[.tup %[.tup %[.int 1,.int 1000|_],.int 545|_],.tup %[.cal "_law_low" %[.int 297,.var 3|_],.var 2|_],.tup %[.cal "_law_low" %[.int 298,.var 3|_],.var 2|_]|_])) (.seq (.ex (.app (.var 4) (.tup %[.cal "_law_low" %[.bin .Mult (.int 296) (.int 1000),.bin .Add (.bin .Mult (.var 3) (.int 1000)) (.int 1)|_],.cal "_law_steps" %[.tup %[.int 297,.int 1|_],.cal "_law_low" %[.int 296000,.bin .Add (.bin .Mult (.var 3) (.int 1000)) (.int 1)|_]|_]|_]))) grM))))
theorem aJK(f:PF T)(g:GrP (q,m))(l:l1k<=q)(hq:Q (.int m) G):wpE T grS [u,some EN,v2,v3,v4,v5,v6,v7,some (FQ q),v9] G Q:=by
 unfold grS;have e1:=f.steps;walk_at "rz"
 obtain⟨q0,q1,bq,hr⟩:=g;refine⟨0,0,0,1,1,1,_,99,99,99,q,rfl,.inr rfl,aIk,⟨lF.2.1.mono ddq,lF.2.2.1.mono ddq,lF.2.2.2.mono ddq⟩,⟨lW.2.1.mono ddq,lW.2.2.1.mono ddq,lW.2.2.2.mono ddq⟩,⟨l,q1⟩,bq,λr h=>?_⟩;rw[SX] at h;rw[hr r h];exact hq
theorem ZY(lt:LT T)(f:PF T){qs:List (Rat×Int)}(gl:G l=some (.lst (qs.map prV)))(hl:qs.length<=10)(g:∀p∈qs,GrP p)(hq:Wk R (.bl true) G):wpS T grF (aH R) [u,some EN,v2,v3,some (.ref l),v5,v6,v7,v8,v9] G:=by
 unfold grF;have:=lt.below;walk_at "rz"
 refine⟨_,gl,?_⟩;refine iK prV (λr σ K=>K=G/\(∃v8 v9,σ=[u,some EN,v2,v3,some (.ref l),v5,v6,v7,v8,v9])/\∀p∈r,GrP p) (λ_ _ _ h=>by rw[h.1];exact gl) ?_ ?_ qs _ _ ⟨rfl,⟨_,_,rfl⟩,g⟩
 . rintro⟨q,m⟩ r σ K R' ⟨rfl,⟨v8,v9,rfl⟩,hg⟩ hR;have gp:=hg (q,m) (wDq ..);have b1:=KZ.mono (show 12<=4000 by decide);have b2:=gp.2.2.1.mono (show 2000<=4000 by decide);have nx:R' [u,some EN,v2,v3,some (.ref l),v5,v6,v7,some (FQ q),some (.int m)] K:=hR _ _ ⟨rfl,⟨_,_,rfl⟩,λp hp=>hg p (wCq _ hp)⟩;unfold prV;walk_at "rz"
   by_cases c:q<l1k
   . rw[jb (by simpa using c)];trivial
   . rw[jd (by simpa using c)];refine aJK f gp (Rat.not_lt.mp c) (aFA rfl ⟨false,rfl,?_⟩);rw[jb Bool.false_ne_true];exact nx
 . rintro σ K ⟨rfl,⟨v8,v9,rfl⟩,_⟩;walk_at "rz"
theorem aH5(n1:60<n)(n2:n<161):l1k<=Rat.divInt 297 (n*n):=by
 have hp0:0<n*n:=Int.mul_pos ooq ooq;have hm:n*n<=160*160:=Int.mul_le_mul ooq ooq ooq ddq;have hM:(0:Rat)<((n*n:Int):Rat):=Rat.intCast_pos.mpr hp0;have hM2:((n*n:Int):Rat)<=25600:=by have:((n*n:Int):Rat)<=((25600:Int):Rat):=Rat.intCast_le_intCast.mpr hm;exact this
 have ed:Rat.divInt 297 (n*n)*((n*n:Int):Rat)=((297:Int):Rat):=by rw[Rat.divInt_eq_div];exact Rat.div_mul_cancel (by grind)
 have e2:((297:Int):Rat)=297:=rfl;rw[e2] at ed;have el:l1k*1000=1:=by decide +kernel
 refine Rat.le_of_mul_le_mul_right (c:=((n*n:Int):Rat)) ?_ hM;rw[ed];have k0:0<=l1k*(25600-((n*n:Int):Rat)):=Rat.mul_nonneg ddq (by grind)
 grind
theorem aIl(lt:LT T)(f:PF T)(k:L28 T){qs:List (Rat×Int)}(n1:1<=n)(n2:n<=544)(gl:G l=some (.lst (qs.map prV)))(hl:qs.length<=10)(q1:qs[1]? =some (Rat.divInt 297 (n*n),n))(g:∀p∈qs,GrP p)(hq:Wk R (.bl true) G):wpS T grM (aH R) [u,some EN,some (.int n),v3,some (.ref l),v5,v6,v7,v8,v9] G:=by
 unfold grM;have e1:=f.row;have e2:=k.told;have e3:=k.long;walk_at "rz"
 by_cases c1:(60:Int)<n
 . by_cases c2:n<161
   . have gp:=g _ (List.mem_of_getElem? q1);have lm:=aH5 c1 c2;rw[jd (by simpa using c1)];rw[jd c2];refine⟨x0,rfl,⟨y1,rfl,?_⟩⟩;dsimp only;rw[pK gl];refine⟨prV (Rat.divInt 297 (n*n),n),cF (j:=1) (by rw[List.getElem?_map,q1];rfl),?_⟩;unfold prV;rw[gC];refine⟨_,at0,?_⟩;have el:l1k*1000=1:=by decide +kernel
     refine⟨0,0,0,1,1,1,_,99,99,99,_,rfl,.inr rfl,aIk,lF.1,lW.1,⟨lF.2.1.mono ddq,lF.2.2.1.mono ddq,lF.2.2.2.mono ddq⟩,⟨lW.2.1.mono ddq,lW.2.2.1.mono ddq,lW.2.2.2.mono ddq⟩,⟨lm,gp.2.1⟩,gp.2.2.1,by rw[SX];grind,λm hm hr=>?_⟩;rw[SX] at hr;have em:(m:Int)=n:=gp.2.2.2 _ hr;have er:RW 0 0 0 1 1 1 m=ROW (sts x0 y1 m):=aDs (x:=x0) (y:=y1);rw[er,<-em];refine⟨x0,y1,m,rfl,by omega,hm,lF,lW,?_⟩;dsimp only;rw[aV,jb ddq];exact ZY lt f gl hl g hq
   . rw[jd (by simpa using c1),jb c2];exact ZY lt f gl hl g hq
 . rw[jb (by simpa using c1)];exact ZY lt f gl hl g hq
theorem nO(lt:LT T)(f:PF T)(k:L28 T):∀xs G Q,wA xs G Q->wpS T eW (aH Q) (aB 10 xs) G:=by
 rintro xs G Q ⟨p,rfl,hp,hq⟩;unfold eW;have:=lt.pick;have e1:=k.made;have e2:=lt.low;have e3:=k.stepsL;refine cH λN0 h0=>?_;walk_at "rz"
 refine⟨0,0,0,rfl,lF.1.1,lF.1.2.1,lF.1.2.2,⟨1,1,1,rfl,lW.1.1,lW.1.2.1,lW.1.2.2,h0.o _ _ ?_⟩⟩;clear h0 N0;refine cH λN0 h0=>?_;walk_at "rz"
 refine⟨by decide,smP ddq ddq,λr1 G1 u1 u2 m1=>?_⟩;have hd:r1=0∨r1=1:=by omega
 obtain⟨N,ea,N1,N2⟩:∃N:Int,atI [PV.int 160,PV.int 544] r1=some (.int N)/\1<=N/\N<=544:=by
   rcases hd with rfl|rfl
   . exact⟨160,rfl,by decide,by decide⟩
   . exact⟨544,rfl,by decide,by decide⟩
 refine⟨_,ea,N,rfl,m1.pu,by omega,smP ooq ooq,λr G2 w1 w2 m2=>h0.o _ _ ?_⟩;clear h0 N0;have n1:1<=1+r:=by omega
 have n2:1+r<=544:=by omega
 generalize 1+r=n at *;have hp0:0<n*n:=Int.mul_pos ooq ooq;have hm:n*n<=544*544:=Int.mul_le_mul n2 n2 ooq ddq;have sn:Sm 20 n:=by unfold Sm;omega
 have sq:Sm 40 (n*n):=sn.mul sn;have s9:Sm 9000 (n*n):=sq.mono ddq;have t9:Sm 9000 (n*n*1000+1):=Sm.mono (show Sm 40 (n*n*1000+1) by unfold Sm;omega) ddq;have c1:oZ (n*n) 1000:=eK sq (show Sm 20 (1000:Int) by unfold Sm;decide);have c2:oZ (296:Int) 1000:=eK (show Sm 20 (296:Int) by unfold Sm;decide) (show Sm 20 (1000:Int) by unfold Sm;decide);refine cH λN0 h0=>?_;walk_at "rz"
 refine⟨eK sn sn,h0.o _ _ ?_⟩;clear h0 N0;refine cH λN0 h0=>?_;walk_at "rz"
 refine⟨by omega,by omega,λl hl=>h0.o _ _ ?_⟩;clear h0 N0;refine cH λN0 h0=>?_;walk_at "rz"
 refine⟨by omega,by omega,?_⟩;have bd:Bd 40 (Rat.divInt 296000 (n*n*1000+1)):=Bd.divInt (by unfold Sm;decide) (by unfold Sm;omega) ooq;have hM:(0:Rat)<((n*n*1000+1:Int):Rat):=Rat.intCast_pos.mpr ooq;have hM2:((n*n*1000+1:Int):Rat)<=295936001:=by have:((n*n*1000+1:Int):Rat)<=((295936001:Int):Rat):=Rat.intCast_le_intCast.mpr ooq;exact this
 have ed:Rat.divInt 296000 (n*n*1000+1)*((n*n*1000+1:Int):Rat)=296000:=by rw[Rat.divInt_eq_div];exact Rat.div_mul_cancel (by grind)
 have c3:((297:Int):Rat)=297:=rfl;have q0:0<Rat.divInt 296000 (n*n*1000+1)/\297<=4000000*Rat.divInt 296000 (n*n*1000+1):=by
   generalize Rat.divInt 296000 (n*n*1000+1)=q at *;generalize ((n*n*1000+1:Int):Rat)=M at *;have q0:0<q:=by
     rcases Rat.le_total (a:=q) (b:=0) with z|z
     . have:0<=(0-q)*M:=Rat.mul_nonneg (by grind) (by grind)
       grind
     . rcases Rat.le_iff_lt_or_eq.mp z with z|z
       . exact z
       . subst z;grind
   refine⟨q0,?_⟩;have:0<=q*(295936001-M):=Rat.mul_nonneg (by grind) (by grind)
   grind
 refine⟨_,_,rfl,by decide,q0.1,(show Bd 12 ((297:Int):Rat) by unfold Bd Sm;decide).mono ddq,bd.mono ddq,by rw[c3];exact q0.2,λm hr=>?_⟩;rw[c3] at hr;refine⟨_,aD,(show 3<sizeLine by decide),?_⟩;rw[cS];refine h0.o _ _ ?_;have x:=(Pk.of (m1.trans m2)).new hl (o:=.lst ([(l1k,545),(Rat.divInt 297 (n*n),n),(Rat.divInt 298 (n*n),n),(Rat.divInt 296000 (n*n*1000+1),m)].map prV));refine aIl lt f k (qs:=[(l1k,545),(Rat.divInt 297 (n*n),n),(Rat.divInt 298 (n*n),n),(Rat.divInt 296000 (n*n*1000+1),m)]) n1 n2 aD (by simp) rfl (λpr hpr=>?_) (x.end_ hq);simp only[List.mem_cons,List.not_mem_nil,or_false] at hpr;rcases hpr with rfl|rfl|rfl|rfl
 . exact aMu
 . exact aIj n1 n2 (.inl rfl)
 . exact aIj n1 n2 (.inr rfl)
 . exact aLz n1 n2 λr' h'=>DD h' hr
end
theorem AY(h:p<=n)(h1:1<=n):pw a a' ((n-p:Nat):Int) (n:Int)=pw a' a (p:Int) (n:Int):=by
 unfold pw;have hn:(0:Rat)<((n:Int):Rat):=Rat.intCast_pos.mpr ooq;have e1:Rat.divInt ((n-p:Nat):Int) (n:Int)=1-Rat.divInt (p:Int) (n:Int):=by
   rw[Rat.divInt_eq_div,Rat.divInt_eq_div,show(((n-p:Nat):Int))=(n:Int)-(p:Int) by omega,Rat.intCast_sub];generalize ((n:Int):Rat)=N at *;generalize ((p:Int):Rat)=P at *;have:N≠0:=by grind
   grind
 rw[e1]
 grind
theorem aCH{n p:Nat}(h:p<=n)(h1:1<=n):pt x y (n:Int) ((n-p:Nat):Int)=pt y x (n:Int) (p:Int):=by
 unfold pt;rw[AY h h1,AY h h1,AY h h1]
theorem aCa(h:n=0->x=y):(sts x y n).reverse=sts y x n:=by
 by_cases hn:n=0
 . have e:=h hn;subst e hn;rfl
 . refine List.ext_getElem? λp=>?_;by_cases hp:p<=n
   . rw[List.getElem?_reverse (by rw[dH];omega),dH,show n+1-1-p=n-p by omega,nV ooq,nV hp,show max (n:Int) 1=(n:Int) by omega,aCH hp ooq]
   . rw[List.getElem?_eq_none (by rw[List.length_reverse,dH];omega),List.getElem?_eq_none (by rw[dH];omega)]
theorem aDk:sts x y 0=[x]:=by
 show [pt x y (max ((0:Nat):Int) 1) ((0:Nat):Int)]=[x];rw[show((0:Nat):Int)=0 from rfl,aAD]
theorem aDO:sts x y 1=[x,y]:=by
 show [pt x y (max ((1:Nat):Int) 1) ((0:Nat):Int),pt x y (max ((1:Nat):Int) 1) ((1:Nat):Int)]=[x,y];have e:max ((1:Nat):Int) 1=1:=rfl;rw[e,show((0:Nat):Int)=0 from rfl,show((1:Nat):Int)=1 from rfl,aAD,aGl ddq]
theorem aFi{i u:Rat}(hi:1<=i)(h:i*(u*u)<=0):u=0:=by
 have a:=mZ u;have b:0<=(i-1)*(u*u):=Rat.mul_nonneg (by grind) a;have c:u*u=0:=by grind
 rcases Rat.mul_eq_zero.mp c with z|z<;>exact z
theorem ZA(e:Ey i j k)(h:cB x y i j k<=0):x=y:=by
 have p1:=kC e.1.1;have p2:=kC e.2.1.1;have p3:=kC e.2.2.1;unfold cB fK at h;have a1:0<=(i:Rat)*((x.1-y.1)*(x.1-y.1)):=Rat.mul_nonneg (by grind) (mZ _);have a2:0<=(j:Rat)*((x.2.1-y.2.1)*(x.2.1-y.2.1)):=Rat.mul_nonneg (by grind) (mZ _);have a3:0<=(k:Rat)*((x.2.2-y.2.2)*(x.2.2-y.2.2)):=Rat.mul_nonneg (by grind) (mZ _);have z1:=aFi p1 (show(i:Rat)*((x.1-y.1)*(x.1-y.1))<=0 by grind);have z2:=aFi p2 (show(j:Rat)*((x.2.1-y.2.1)*(x.2.1-y.2.1))<=0 by grind);have z3:=aFi p3 (show(k:Rat)*((x.2.2-y.2.2)*(x.2.2-y.2.2))<=0 by grind);obtain⟨a,b,c⟩:=x;obtain⟨a',b',c'⟩:=y;simp only at z1 z2 z3;rw[show a=a' by grind,show b=b' by grind,show c=c' by grind]
theorem aAG(e:Ey i j k)(hx:Ok3 12 x)(hy:Ok3 12 y):Bd 300 (cB x y i j k):=by
 obtain⟨_,b1,b2,b3⟩:=hx;obtain⟨_,c1,c2,c3⟩:=hy;have s1:=b1.sub c1 (show 12+12+1<=25 by decide);have s2:=b2.sub c2 (show 12+12+1<=25 by decide);have s3:=b3.sub c3 (show 12+12+1<=25 by decide);have bi:Bd 7 (i:Rat):=Bd.int (by unfold Sm;have:=e.1;omega) ddq;have bj:Bd 7 (j:Rat):=Bd.int (by unfold Sm;have:=e.2.1;omega) ddq;have bk:Bd 7 (k:Rat):=Bd.int (by unfold Sm;have:=e.2.2;omega) ddq;exact((bi.mul (s1.mul s1 (show 25+25<=50 by decide)) (show 7+50<=57 by decide)).add (bj.mul (s2.mul s2 (show 25+25<=50 by decide)) (show 7+50<=57 by decide)) (show 57+57+1<=115 by decide)).add (bk.mul (s3.mul s3 (show 25+25<=50 by decide)) (show 7+50<=57 by decide)) ddq
section
variable{T:Tb}{G:Gh}{R:PK1}{x y:R3}{e:PV}{i j k:Int}{q:Rat}{n:Nat}
theorem UP(q0:0<q)(h:Ra (cB x y i j k/q) (n:Int))(hn:n<=1000):cB x y i j k<=1000000*q:=by
 have e:cB x y i j k/q*q=cB x y i j k:=Rat.div_mul_cancel (by grind);have h1:=h.2.1;have hm:(n:Int)*(n:Int)<=1000*1000:=Int.mul_le_mul ooq ooq ooq ddq;have h2:(((n:Int)*(n:Int):Int):Rat)<=1000000:=by have:(((n:Int)*(n:Int):Int):Rat)<=((1000000:Int):Rat):=Rat.intCast_le_intCast.mpr hm;exact this
 generalize cB x y i j k/q=u at *;generalize (((n:Int)*(n:Int):Int):Rat)=N at *;have k1:0<=(1000000-u)*q:=Rat.mul_nonneg (by grind) (by grind)
 grind
theorem BQ(h:Lim q):0<q:=by
 have:(0:Rat)<l1k:=by decide
 have:=h.1
 grind
theorem yU(f:PF T)(hx:Ok3 12 x)(hy:Ok3 12 y)(ev:iS e i j k)(ey:Ey i j k)(lm:Lim q)(bq:Bd 2000 q)(h:Ra (cB x y i j k/q) (n:Int))(hn:n<=1000)(hq:R (ROW (sts x y n)) G):T.S "Row" [shV x,shV y,FQ q,e] G R:=by
 rw[f.row];refine⟨x.1,x.2.1,x.2.2,y.1,y.2.1,y.2.2,e,i,j,k,q,rfl,ev,ey,hx.1,hy.1,⟨hx.2.1.mono ddq,hx.2.2.1.mono ddq,hx.2.2.2.mono ddq⟩,⟨hy.2.1.mono ddq,hy.2.2.1.mono ddq,hy.2.2.2.mono ddq⟩,lm,bq,UP (BQ lm) h hn,λn' hn' hr=>?_⟩;have e1:(n':Int)=(n:Int):=DD hr h;have e2:n'=n:=by omega
 subst e2;rw[aDs];exact hq
theorem aCr(f:PF T)(hx:Ok3 12 x)(hy:Ok3 12 y)(ev:iS e i j k)(ey:Ey i j k)(lm:Lim q)(bq:Bd 2000 q)(h:Ra (cB x y i j k/q) (n:Int))(hq:R (.int (n:Int)) G):T.S "steps_between" [shV x,shV y,FQ q,e] G R:=by
 rw[f.steps];refine⟨x.1,x.2.1,x.2.2,y.1,y.2.1,y.2.2,e,i,j,k,q,rfl,ev,ey,⟨hx.2.1.mono ddq,hx.2.2.1.mono ddq,hx.2.2.2.mono ddq⟩,⟨hy.2.1.mono ddq,hy.2.2.1.mono ddq,hy.2.2.2.mono ddq⟩,lm,bq,λr hr=>?_⟩;rw[show r=(n:Int) from DD hr h];exact hq
theorem vV(m:L28 T)(hx:Ok3 12 x)(hq:R (shV x) G):T.S "_law_made" [aL x] G R:=by
 rw[m.made];exact⟨x.1,x.2.1,x.2.2,rfl,hx.1.1,hx.1.2.1,hx.1.2.2,hq⟩
end
theorem DR{a:Rat}:0<a.num↔0<a:=by rw[Rat.lt_iff];simp
noncomputable def nwd(a:Rat):Nat:=if 0<a then 1 else 0
theorem aDp(h0:0<=a)(h1:a<=297):Ra (a/((1000:Int):Rat)) ((nwd a:Nat):Int):=by
 have e0:((1000:Int):Rat)=1000:=rfl;rw[e0];have e:a/1000*1000=a:=Rat.div_mul_cancel ddq;unfold nwd;generalize a/1000=u at *;split
 . exact⟨by decide,by show u<=1;grind,λ_=>by show(0:Rat)<u;grind⟩
 . exact⟨by decide,by show u<=0;grind,λz=>absurd z ddq⟩
theorem aI7:pN [u,v] none (some 2)=[u,v]:=rfl
theorem aIz:pN [u,v] none (some 1)=[u]:=rfl
theorem aIn{n:Nat}(q0:0<q)(h:Ra (a/q) (n:Int))(ha:0<a):1<=n:=by
 rcases Nat.eq_zero_or_pos n with z|z
 . subst z;have h1:a/q<=0:=h.2.1;have e:a/q*q=a:=Rat.div_mul_cancel (by grind);have:0<=(0-a/q)*q:=Rat.mul_nonneg (by grind) (by grind)
   grind
 . exact z
theorem aAw:atI ((sts x y n).map aL) (-1)=some (aL (pt x y (max (n:Int) 1) (n:Int))):=oU (by
 rw[List.getLast?_eq_getElem?,List.length_map,dH,show n+1-1=n by omega,List.getElem?_map,nV (Nat.le_refl n)];rfl)
theorem aCm{a q:Rat}{n:Nat}(q0:0<q)(h:Ra (a/q) (n:Int))(a0:0<=a) :
   pN [aL x,aL (pt x y (max (n:Int) 1) (n:Int))] none (some (1+if 0<a.num then 1 else 0))=(sts x y (nwd a)).map aL:=by
 by_cases ha:0<a
 . rw[jd (DR.mpr ha)];have hn:=aIn q0 h ha;rw[show max (n:Int) 1=(n:Int) by omega,aGl ooq];unfold nwd;rw[jd ha,aDO];exact aI7
 . rw[jb (λz=>ha (DR.mp z))];unfold nwd;rw[jb ha,aDk];exact aIz
theorem aFH:pEq true (aL r) (aL s) G Q=Q (.bl (!decide (r=s))) G:=by
 unfold aL;rw[LQ];have e:(decide (r.1=s.1)&&(decide (r.2.1=s.2.1)&&decide (r.2.2=s.2.2)))=decide (r=s):=by
   obtain⟨a,b,c⟩:=r;obtain⟨a',b',c'⟩:=s;simp only[Prod.mk.injEq];by_cases h1:a=a'<;>by_cases h2:b=b'<;>by_cases h3:c=c'<;>simp[h1,h2,h3]
 rw[e]
theorem aEC:pN [aL x,aL z] none (some (1+if (!decide (x=z))=true then 1 else 0))=(sts x z (nwd (cB x z 1 1 1))).map aL:=by
 have e1:Ey 1 1 1:=⟨⟨by decide,by decide⟩,⟨by decide,by decide⟩,by decide,by decide⟩;by_cases hx:x=z
 . subst hx;have e:cB x x 1 1 1=0:=by unfold cB fK;grind
   rw[e,jb (by simp)];have e2:nwd 0=0:=by unfold nwd;rw[jb ddq]
   rw[e2,aDk];exact aIz
 . rw[jd (by simpa using hx)];have hp:0<cB x z 1 1 1:=by
     rcases Rat.le_total (a:=cB x z 1 1 1) (b:=0) with w|w
     . exact absurd (ZA e1 w) hx
     . rcases Rat.le_iff_lt_or_eq.mp w with w|w
       . exact w
       . exact absurd (ZA e1 (by rw[<-w];exact Rat.le_refl)) hx
   have e2:nwd (cB x z 1 1 1)=1:=by unfold nwd;rw[jd hp]
   rw[e2,aDO];exact aI7
theorem MD:Lim ((1000:Int):Rat):=⟨by decide,by decide⟩
local macro_rules | `(tactic| walk_at "rz") => wk (wqB++" pG uZ JN aBx TJ SD ZQ nL List.getElem?_cons_zero List.getElem?_cons_succ and_false yZ mJ AJ uW CF mK dI jK lI gE dY exists_eq' Option.getD_some sz1 sz2 lL av0 av1 av2 RV")
section
variable{T:Tb}
noncomputable def rtC:CE:=.cmpr false (.gn 1) (.isq (.var 10)) .nil (.an (.cal "_law_whole" %[.var 1|_]) (.cmp .Eq (.var 1) (.var 2))) [none,none,some 9]
noncomputable def rt4:CS:=.seq (.asg (.gn 13) (.cal "Row" %[.var 6,.var 5,.var 8,.var 4|_])) (.seq (.asg (.gn 14) (.cal "Row" %[.var 5,.var 6,.tup %[.int 1000,.int 1|_],.var 4|_])) (.seq (.asg (.gn 15) (.cak "Row" %[.var 5,.cal "_law_made" %[.var 3|_],.tup %[.int 1000,.int 1|_]|_] .nil [.arg 0,.arg 1,.arg 2,.non])) (.seq (.asg (.gn 16) (.sli (.lst false %[.idx (.var 11) (.int 0),.idx (.var 11) (.neg (.int 1))|_]) .nil (.tst (.bin .Add (.int 1) (.blt .int %[.cmp .Gt (.idx (.var 7) (.int 0)) (.int 0)|_]))))) (.seq (.asg (.gn 17) (.lst true %[.tup %[.cal "Row" %[.var 5,.var 6,.var 8,.var 4|_],.var 11|_],.tup %[.var 13,.rev (.var 11)|_],.tup %[.var 14,.var 16|_]|_])) (.seq (.ex (.app (.var 17) (.tup %[.var 15,.sli (.lst false %[.var 1,.var 3|_]) .nil (.tst (.bin .Add (.int 1) (.blt .int %[.cmp .NotEq (.var 1) (.var 3)|_])))|_]))) (.ret (.cal "_law_alike_right" %[.var 12,.var 11,.var 17|_])))))))
theorem aJn(f:PF T)(m:L28 T){e:PV}{i j k:Int}{n:Nat}{R:PK1}(hx:Ok3 12 x)(hy:Ok3 12 y)(hz:Ok3 12 z)(ev:iS e i j k)(ey:Ey i j k)(lm:Lim q)(bq:Bd 2000 q)(h:Ra (cB x y i j k/q) (n:Int))(hn:n<=900)(hq:∀K,Xt G K->Wk R (.bl true) K) :
   wpS T rt4 (aH R) [u,some (aL x),some (aL y),some (aL z),some e,some (shV x),some (shV y),some (FQ (cB x y i j k)),some (FQ q),some (.int (n:Int)),x10,some (LR3 (sts x y n)),some (ROW (sts x y n)),x13,x14,x15,x16,x17] G:=by
 unfold rt4;have a0:0<=cB x y i j k:=AV ey;have a1:cB x y i j k<=297:=HP ey hx.1 hy.1;have q0:=BQ lm;have ef:cB y x i j k=cB x y i j k:=aB7;have e1:Ey 1 1 1:=⟨⟨by decide,by decide⟩,⟨by decide,by decide⟩,by decide,by decide⟩;have b0:0<=cB x z 1 1 1:=AV e1;have b1:cB x z 1 1 1<=297:=HP e1 hx.1 hz.1;have bk:Bd 2000 ((1000:Int):Rat):=MQ.mono ddq;have w1:=aDp a0 a1;have w2:=aDp b0 b1;have nle:∀a:Rat,nwd a<=1000:=λa=>by unfold nwd;split<;>decide
 refine cH λN h0=>?_;walk_at "rz"
 refine yU f hy hx ev ey lm bq (by rw[ef];exact h) ooq (h0.o _ _ ?_);clear h0 N;refine cH λN h0=>?_;walk_at "rz"
 refine yU f hx hy ev ey MD bk w1 (nle _) (h0.o _ _ ?_);clear h0 N;refine cH λN h0=>?_;walk_at "rz"
 refine vV m hz ?_;refine yU f hx hz (.inl ⟨rfl,rfl,rfl,rfl⟩) e1 MD bk w2 (nle _) (h0.o _ _ ?_);clear h0 N;walk_at "rz"
 show mU (.lst ((sts x y n).map aL)) (.int 0) G _;rw[cA];refine⟨aL x,(cF (j:=0) (by rw[List.getElem?_map,nV (Nat.zero_le n),show((0:Nat):Int)=0 from rfl,aAD];rfl)),?_⟩;show mU (.lst ((sts x y n).map aL)) (.int (-1)) G _;rw[cA];refine⟨_,aAw,?_⟩;refine yU f hx hy ev ey lm bq h ooq ?_;refine .inl ⟨_,rfl,λl hl=>?_⟩;rw[aCm q0 h a0];rw[aFH,mK,bR];refine⟨_,rfl,_,aD,(show 3<sizeLine by decide),?_⟩;rw[aEC,cS,m.alike];have hrev:((sts x y n).map aL).reverse=(sts y x n).map aL:=by
   rw[<-List.map_reverse,aCa λz0=>?_];refine ZA ey ?_;subst z0;have h1:cB x y i j k/q<=0:=h.2.1;have e:cB x y i j k/q*q=cB x y i j k:=Rat.div_mul_cancel (by grind);have:0<=(0-cB x y i j k/q)*q:=Rat.mul_nonneg (by grind) (by grind)
   grind
 rw[hrev];refine⟨sts x y n,[sts x y n,sts y x n,sts x y (nwd (cB x y i j k)),sts x z (nwd (cB x z 1 1 1))],l,rfl,aD,by simp,by rw[dH];omega,by rw[dH];omega,ZM hx hy ooq,hq _ (Xt.new (λ_ _ z=>z) hl)⟩
noncomputable def rt3:CS:=.seq (.asg (.gn 11) (.cal "_law_due" %[.var 1,.var 2,.var 9|_])) (.seq (.asg (.gn 12) (.cal "Row" %[.var 5,.var 6,.var 8,.var 4|_])) (.seq (.iff (.no (.tst (.blt .all %[.cmpr false (.gn 1) (.isq (.lst false %[.var 12,.cak "Row" .nil %[.var 8,.var 4,.var 6,.var 5|_] [.arg 3,.arg 2,.arg 0,.arg 1]|_])) .nil (.cal "_law_row_right" %[.var 1,.var 2|_]) [none,none,some 11]|_]))) (.ret (.bl false)) .nil) rt4))
theorem aDQ(f:PF T)(m:L28 T){x y z:R3}{q:Rat}{n:Nat}{u x10 x11 x12 x13 x14 x15 x16 x17:Option PV}{R:PK1}(hx:Ok3 12 x)(hy:Ok3 12 y)(hz:Ok3 12 z)(ev:iS e i j k)(ey:Ey i j k)(lm:Lim q)(bq:Bd 2000 q)(h:Ra (cB x y i j k/q) (n:Int))(hn:n<=900)(hq:∀K,Xt G K->Wk R (.bl true) K) :
   wpS T rt3 (aH R) [u,some (aL x),some (aL y),some (aL z),some e,some (shV x),some (shV y),some (FQ (cB x y i j k)),some (FQ q),some (.int (n:Int)),x10,x11,x12,x13,x14,x15,x16,x17] G:=by
 unfold rt3;have e2:=m.due;have e3:=m.rowR;walk_at "rz"
 refine⟨x,y,n,rfl,by omega,hx,hy,?_⟩;dsimp only;refine yU f hx hy ev ey lm bq h ooq ?_;refine yU f hx hy ev ey lm bq h ooq ?_;have hsh:=ZM hx hy (show n<=1000 by omega);have hle:(sts x y n).length=n+1:=dH;have c1:=@eI;have c2:=@dB;walk_at "rz"
 refine⟨sts x y n,rfl,by omega,by omega,hsh,⟨sts x y n,rfl,by omega,by omega,hsh,?_⟩⟩;refine⟨true,rfl,?_⟩;rw[jb ddq];exact aJn f m hx hy hz ev ey lm bq h hn hq
noncomputable def rt2:CS:=.seq (.asg (.gn 10) (.lst true %[.cal "steps_between" %[.var 5,.var 6,.var 8,.var 4|_]|_])) (.seq (.ex (.app (.var 10) (.cak "steps_between" .nil %[.var 4,.var 8,.var 6,.var 5|_] [.arg 3,.arg 2,.arg 1,.arg 0]))) (.seq (.iff (.tsb (.cmp .Is (.var 4) .non)) (.asg (.gn 10) (.ladd (.var 10) (.lst false %[.cak "steps_between" %[.var 5,.var 6,.var 8|_] .nil [.arg 0,.arg 1,.arg 2,.non],.cak "steps_between" %[.var 5|_] %[.var 8,.var 6|_] [.arg 0,.arg 2,.arg 1,.non]|_]))) .nil) (.seq (.iff (.no (.tst (.blt .all %[rtC|_]))) (.ret (.bl false)) .nil) rt3)))
theorem aD2{l:Addr}{x0 x1 x2 x3 x4 x5 x6 x7 x8 x11 x12 x13 x14 x15 x16 x17:Option PV}{G:Gh}(lt:LT T)(hN:N<=10)(gl:G l=some (.lst (List.replicate N (.int n))))(hq:Q (.lst (List.replicate N (.bl true))) G):wpE T rtC [x0,x1,x2,x3,x4,x5,x6,x7,x8,some (.int n),some (.ref l),x11,x12,x13,x14,x15,x16,x17] G Q:=by
 unfold rtC;have:=lt.whole;walk_at "rz"
 refine⟨_,gl,by rw[List.length_replicate];exact szN ooq,?_⟩;rw[show List.replicate N (PV.int n)=(List.replicate N ()).map (λ_=>PV.int n) by rw[List.map_replicate]] at gl ⊢;refine dF (λ_:Unit=>PV.int n) (λr σ K acc=>K=G/\(∃u v,σ=[u,v,some (.int n)])/\acc++List.replicate r.length (.bl true)=List.replicate N (.bl true)) (λ_ _ _ _ h=>by rw[h.1];exact gl) ?_ ?_ (List.replicate N ()) _ _ _ ⟨rfl,⟨_,_,rfl⟩,by rw[List.length_replicate];rfl⟩
 . rintro _ r σ K acc R ⟨rfl,⟨u,v,rfl⟩,e⟩ hR;walk_at "rz"
   refine hR _ _ _ ⟨rfl,⟨_,_,rfl⟩,?_⟩;rw[<-e,List.length_cons,List.replicate_succ,List.append_assoc];rfl
 . rintro σ K acc ⟨rfl,_,e⟩;rw[List.length_nil,List.replicate_zero,List.append_nil] at e;rw[e];exact hq
theorem aJv(lt:LT T)(f:PF T)(m:L28 T){i j k:Int}{n:Nat}{u x10 x11 x12 x13 x14 x15 x16 x17:Option PV}{G:Gh}(hx:Ok3 12 x)(hy:Ok3 12 y)(hz:Ok3 12 z)(ev:iS e i j k)(ey:Ey i j k)(lm:Lim q)(bq:Bd 2000 q)(h:Ra (cB x y i j k/q) (n:Int))(hn:n<=900)(hq:∀K,Xt G K->Wk R (.bl true) K) :
   wpS T rt2 (aH R) [u,some (aL x),some (aL y),some (aL z),some e,some (shV x),some (shV y),some (FQ (cB x y i j k)),some (FQ q),some (.int (n:Int)),x10,x11,x12,x13,x14,x15,x16,x17] G:=by
 unfold rt2;have st:∀{G:Gh} {R:PK1},R (.int (n:Int)) G->T.S "steps_between" [shV x,shV y,FQ q,e] G R:=λ{G R} r=>aCr f hx hy ev ey lm bq h r;have lo:=@dI;rcases ev with ⟨rfl,rfl,rfl,rfl⟩|rfl
 . walk_at "rz"
   refine st λp hp=>st ⟨_,aD,(show 1<sizeLine by decide),st (st ?_)⟩;rw[cS];refine⟨_,_,dI,rfl,(show 4<=sizeLine by decide),λp2 hp2=>?_⟩;refine aD2 lt (N:=4) ddq aD ?_;rw[jK];refine⟨true,lB _,?_⟩;rw[aV,jb ddq];exact aDQ f m hx hy hz (.inl ⟨rfl,rfl,rfl,rfl⟩) ey lm bq h hn λK' hK=>hq K' λa o z=>hK a o ((((Xt.new (λ_ _ z=>z) hp).new hp2) a o z))
 . walk_at "rz"
   refine st λp hp=>st ⟨_,aD,(show 1<sizeLine by decide),?_⟩;rw[MY (λz=>by cases z),cS];refine⟨false,rfl,?_⟩;rw[jb ddq];refine aD2 lt (N:=2) ddq aD ?_;rw[jK];refine⟨true,lB _,?_⟩;rw[aV,jb ddq];exact aDQ f m hx hy hz (.inr rfl) ey lm bq h hn λK' hK=>hq K' λa o z=>hK a o ((Xt.new (λ_ _ z=>z) hp) a o z)
end
theorem Pk.xt{G G' K:Gh}(h:Pn p G G')(x:Xt G' K):Pk p G K:=⟨G',h,x⟩
theorem aMc(q0:0<q)(h:Ra (a/q) r)(ha:a<=900*q):r<=30:=by
 refine aC1 h ddq ?_;have e:a/q*q=a:=Rat.div_mul_cancel (by grind);show a/q<=900;generalize a/q=u at *;refine Rat.le_of_mul_le_mul_right (c:=q) ?_ q0
 grind
local macro_rules | `(tactic| walk_at "rz") => wk (wqB++" pG uZ aDK List.getElem?_cons_zero List.getElem?_cons_succ exists_false false_and and_false WV cA BY rC VU yM zB Option.getD_some jT mD wH rA jT wH rA zB eI dB")
section
variable{T:Tb}
noncomputable def rt1:CS:=.seq (.asg (.gn 8) (.cal "_law_limit" %[.var 0,.var 7|_])) (.seq (.asg (.gn 9) (.cal "_law_steps" %[.var 7,.var 8|_])) rt2)
noncomputable def kN:CS:=.seq (.par 5 6 (.cal "_law_made" %[.var 1|_]) (.cal "_law_made" %[.var 2|_])) (.seq (.asg (.gn 7) (.cal "_law_far" %[.var 1,.var 2,.oo (.var 4) (.tup %[.int 1,.int 1,.int 1|_])|_])) rt1)
theorem aCZ(lt:LT T)(f:PF T)(m:L28 T)(hp:Pu p G)(hx:Ok3 12 x)(hy:Ok3 12 y)(hz:Ok3 12 z)(ev:iS e i j k)(ey:Ey i j k)(hq:∀K,Pk p G K->Q (.bl true) K) :
   wpS T rt1 (aH Q) [some (.ref p),some (aL x),some (aL y),some (aL z),some e,some (shV x),some (shV y),some (FQ (cB x y i j k)),x8,x9,x10,x11,x12,x13,x14,x15,x16,x17] G:=by
 unfold rt1;have e1:=m.limL;have e2:=m.stepsL;walk_at "rz"
 have a0:0<=cB x y i j k:=AV ey;have a1:cB x y i j k<=297:=HP ey hx.1 hy.1;have bf:=aAG ey hx hy;refine⟨p,_,rfl,hp,a0,a1,bf.mono ddq,λq G1 lm bq hle n1=>?_⟩;have q0:=BQ lm;refine⟨_,_,rfl,a0,q0,bf.mono ddq,bq.mono ddq,by grind,λr hr=>?_⟩;have h0:=hr.1;have h30:=aMc q0 hr hle;obtain⟨n,rfl⟩:=Int.eq_ofNat_of_zero_le h0;exact aJv lt f m hx hy hz ev ey lm (bq.mono ddq) hr ooq λK hK=>Wk.here (hq K (Pk.xt n1 hK))
theorem zT(lt:LT T)(f:PF T)(m:L28 T):∀xs G Q,sD xs G Q->wpS T kN (aH Q) (aB 18 xs) G:=by
 rintro xs G Q ⟨p,x,y,z,e,i,j,k,rfl,hp,ev,ey,hx,hy,hz,hq⟩;unfold kN;have e1:=m.farL;have b1:=λ{u:Rat} (h:Bd 12 u)=>h.mono (show 12<=100 by decide);have sf:∀{R:PK1},R (FQ (cB x y i j k)) G->BB [aL x,aL y,.tup [.int i,.int j,.int k]] G R:=λ{R} q=>⟨_,_,_,_,_,_,i,j,k,rfl,ey,b1 hx.2.1,b1 hx.2.2.1,b1 hx.2.2.2,b1 hy.2.1,b1 hy.2.2.1,b1 hy.2.2.2,q⟩;rcases ev with ⟨rfl,rfl,rfl,rfl⟩|rfl
 . walk_at "rz"
   refine vV m hx ?_;refine vV m hy ?_;refine sf ?_;exact aCZ lt f m hp hx hy hz (.inl ⟨rfl,rfl,rfl,rfl⟩) ey hq
 . walk_at "rz"
   refine vV m hx ?_;refine vV m hy ?_;rw[WF,jd (show(!List.isEmpty [PV.int i,PV.int j,PV.int k])=true from rfl)];refine sf ?_;exact aCZ lt f m hp hx hy hz (.inr rfl) ey hq
noncomputable def XT:CS:=.iff (.oo (.no (.tst (.cal "_law_greatest_right" %[.var 2|_]))) (.no (.tst (.cal "_law_right" %[.var 2,.var 5,.var 6,.var 7,.var 8|_])))) (.ret (.bl false)) .nil
noncomputable def SK:CS:=.seq (.asg (.gn 8) (.idx (.lst false %[.non,.cal "_law_eye" %[.var 2|_],.cal "_law_eye" %[.var 2|_]|_]) (.var 3))) XT
def I28(ns:List Int)(σ:PSt):Prop:= ∃a b c d e f g h,σ=[some (.scr ns),a,b,c,d,e,f,g,h]
theorem SA(m:L28 T)(D:eU)(hp:Pu p G)(hx:Ok3 12 x)(hy:Ok3 12 y)(hz:Ok3 12 z)(ev:iS e a b c)(ey:Ey a b c)(hR:∀σ G',I28 ns σ->D.nx σ G') :
   wpS T XT D [some (.scr ns),some i,some (.ref p),x3,x4,some (aL x),some (aL y),some (aL z),some e] G:=by
 unfold XT;have e1:=m.greatR;have e2:=m.right;walk_at "rz"
 refine⟨p,rfl,hp,λG1 m1=>?_⟩;dsimp only;rw[aV,jb ddq];refine⟨p,x,y,z,e,a,b,c,rfl,m1.pu,ev,ey,hx,hy,hz,λG2 _=>?_⟩;dsimp only;rw[aV,jb ddq];exact hR _ _ ⟨_,_,_,_,_,_,_,_,rfl⟩
theorem aCR(m:L28 T)(D:eU)(hp:Pu p G)(r0:0<=r)(r3:r<3)(hx:Ok3 12 x)(hy:Ok3 12 y)(hz:Ok3 12 z)(hR:∀σ G',I28 ns σ->D.nx σ G') :
   wpS T SK D [some (.scr ns),some i,some (.ref p),some (.int r),x4,some (aL x),some (aL y),some (aL z),x8] G:=by
 unfold SK;have e1:=m.eyeL;walk_at "rz"
 refine⟨p,rfl,hp,λa b c G1 ey1 m1=>⟨p,rfl,m1.pu,λa' b' c' G2 ey2 m2=>?_⟩⟩;have hd:r=0∨r=1∨r=2:=by omega
 rcases hd with rfl|rfl|rfl
 . exact⟨_,rfl,SA m D m2.pu hx hy hz iS.o Ey.o hR⟩
 . exact⟨_,rfl,SA m D m2.pu hx hy hz iS.t ey1 hR⟩
 . exact⟨_,rfl,SA m D m2.pu hx hy hz iS.t ey2 hR⟩
noncomputable def XE:CS:=.seq (.iff (.tsb (.cmp .Eq (.var 4) (.int 4))) (.asg (.gn 6) (.var 5)) .nil) SK
noncomputable def HB:CS:=.seq (.asg (.gl 3 %[.gn 5,.gn 6,.gn 7|_]) (.cmpr false (.gn 1) (.irg %[.int 3|_]) .nil (.cal "_law_shares" %[.var 2|_]) [none,none,some 2])) XE
noncomputable def SS:CS:=.seq (.asg (.gn 2) (.cal "_law_purse" %[.cal "_law_cell" %[.var 0,.var 1|_]|_])) (.seq (.par 3 4 (.cal "_law_pick" %[.var 2,.int 3|_]) (.cal "_law_pick" %[.var 2,.int 6|_])) HB)
theorem aFc(lt:LT T)(m:L28 T)(D:eU)(hp:Pu p G2)(a1:0<=r)(a2:r<3)(hR:∀σ G',I28 ns σ->D.nx σ G') :
   wpS T HB D [some (.scr ns),some i,some (.ref p),some (.int r),some (.int r2),x5,x6,x7,x8] G2:=by
 unfold HB;have:=lt.shares;walk_at "rz"
 refine⟨by decide,by decide,λa b c G3 i1 i2 i3 d1 d2 d3 m3=>⟨m3.pu,λa' b' c' G4 j1 j2 j3 f1 f2 f3 m4=>⟨m4.pu,λa'' b'' c'' G5 k1 k2 k3 h1 h2 h3 m5=>?_⟩⟩⟩;have ox:Ok3 12 (a,b,c):=⟨⟨i1,i2,i3⟩,d1,d2,d3⟩;have oy:Ok3 12 (a',b',c'):=⟨⟨j1,j2,j3⟩,f1,f2,f3⟩;have oz:Ok3 12 (a'',b'',c''):=⟨⟨k1,k2,k3⟩,h1,h2,h3⟩;unfold XE;walk_at "rz"
 split
 . exact aCR m D (x:=(a,b,c)) (y:=(a,b,c)) (z:=(a'',b'',c'')) m5.pu a1 a2 ox ox oz hR
 . exact aCR m D (x:=(a,b,c)) (y:=(a',b',c')) (z:=(a'',b'',c'')) m5.pu a1 a2 ox oy oz hR
theorem aIA(lt:LT T)(m:L28 T)(D:eU)(j0:0<=j)(j1:j<64)(hR:∀σ G',I28 ns σ->D.nx σ G') :
   wpS T SS D [some (.scr ns),some (.int j),x2,x3,x4,x5,x6,x7,x8] G:=by
 unfold SS;have:=lt.cell;have:=lt.purse;have:=lt.pick;walk_at "rz"
 exact⟨ns,rfl,λc p x y z hp0=>⟨⟨_,_,_,aD⟩,by decide,smP ddq ddq,λr G1 a1 a2 m1=>⟨m1.pu,by decide,smP ddq ddq,λr2 G2 a3 a4 m2=>aFc lt m D m2.pu a1 a2 hR⟩⟩⟩
noncomputable def CT:CS:=.seq (.fr (.gn 1) (.irg %[.blt .max %[.int 2,.blt .min %[.blt .len %[.var 0|_],.int 3|_]|_]|_]) SS) (.ret (.bl true))
theorem aJr(lt:LT T)(m:L28 T):∀xs G Q,AX xs G Q->wpS T CT (aH Q) (aB 9 xs) G:=by
 rintro xs G Q ⟨ns,rfl,hl,hq⟩;have:=@yT;unfold CT;walk_at "rz"
 refine⟨by omega,by omega,?_⟩;refine wK (λσ _=>I28 ns σ) ⟨_,_,_,_,_,_,_,_,rfl⟩ ?_ ?_
 . rintro x hx σ G' R ⟨x1,x2,x3,x4,x5,x6,x7,x8,rfl⟩ hR;obtain⟨j,rfl,hj⟩:=MK hx;exact aIA lt m _ ooq ooq hR
 . exact λ_ _ _=>trivial
end
end L3
namespace My
open PySem L2 L3 PyProof.Rows
noncomputable abbrev gL:List Str:=["EVEN_EYE","LEAST_LIMIT","MOST_LIMIT","MOST_OF_EYE","PIECE","PIECE_FIGURES","Row","Shade"]
noncomputable abbrev tL:List Str:=["bool","int","list","str","tuple"]
noncomputable abbrev bL:List Str:=["abs","all","any","bool","divmod","enumerate","int","isinstance","len","list","max","min","range","repr","str","tuple","zip"]
noncomputable abbrev mkC(s:Stmt)(N fns:List Str):Cfg:={N:=N,names:=(bS s).names,fns:=fns,gls:=gL,tys:=tL,blt:=bL}
noncomputable def top(i:Nat):Stmt:=PySem.Challenge.pw_lightshares_k28_rows_even_and_least.main.body.getD i (.Pass ⟨0,0,0,0⟩)
noncomputable abbrev lD:Stmt:=top 44
noncomputable abbrev aAg:Cfg:=mkC lD ["_law_script","_law_k","_law_state","_law_cell_here"] []
noncomputable abbrev kX:Stmt:=top 46
noncomputable abbrev YF:Cfg:=mkC kX ["_law_purse_here","_law_many","_law_state","_law_taken"] []
noncomputable abbrev pE:Stmt:=top 57
noncomputable abbrev aA3:Cfg:=mkC pE ["_law_purse_here","_law_mode"] ["_law_pick"]
noncomputable abbrev lX:Stmt:=top 11
noncomputable abbrev WH:Cfg:=mkC lX ["one","other"] []
noncomputable abbrev lQ:Stmt:=top 13
noncomputable abbrev SN:Cfg:=mkC lQ ["top","bottom","shared"] ["common"]
noncomputable abbrev gW:Stmt:=top 10
noncomputable abbrev GK:Cfg:=mkC gW ["thing"] []
noncomputable abbrev dW:Stmt:=top 12
noncomputable abbrev xT:Cfg:=mkC dW ["thing","top","bottom"] ["common","is_whole"]
noncomputable abbrev gG:Stmt:=top 22
noncomputable abbrev JF:Cfg:=mkC gG ["thing"] ["is_fraction"]
noncomputable abbrev bZ:Stmt:=aT (top 23) 0
noncomputable abbrev rR:Cfg:=mkC bZ ["self","ember","leaf","sky","light","share"] ["is_share"]
noncomputable abbrev gQ:Stmt:=top 27
noncomputable abbrev HN:Cfg:={mkC gQ ["shares","ember","leaf","sky"] [] with mks:=["Shade"],ls:=["shares"]}
noncomputable abbrev gX:Stmt:=top 24
noncomputable abbrev JB:Cfg:=mkC gX ["thing"] []
noncomputable abbrev eP:Stmt:=top 25
noncomputable abbrev zC:Cfg:=mkC eP ["thing"] ["is_shade"]
noncomputable abbrev fJ:Stmt:=top 26
noncomputable abbrev EQ:Cfg:=mkC fJ ["shade"] ["need_shade"]
noncomputable abbrev gA:Stmt:=top 40
noncomputable abbrev GU:Cfg:={mkC gA ["shade","other","part","shares","one","two","top"] ["lowest","shade_of","shares_of"] with M:=["shares"]}
noncomputable abbrev lJ:Stmt:=top 33
noncomputable abbrev WC:Cfg:=mkC lJ ["thing"] ["is_whole"]
noncomputable abbrev lH:Stmt:=top 34
noncomputable abbrev VS:Cfg:=mkC lH ["eye"] ["is_eye"]
noncomputable abbrev dS:Stmt:=top 35
noncomputable abbrev xA:Cfg:=mkC dS ["shade","other","eye","top","bottom","one","two","many","lack","under"] ["shares_of"]
noncomputable abbrev CV:Stmt:=top 36
noncomputable abbrev aKh:Cfg:=mkC CV ["shade","other","eye","top","bottom"] ["eye_of","gap_between","lowest","need_shade"]
noncomputable abbrev vQ:Stmt:=top 16
noncomputable abbrev aER:Cfg:=mkC vQ ["one","other"] []
noncomputable abbrev fZ:Stmt:=top 37
noncomputable abbrev HC:Cfg:=mkC fZ ["thing"] ["is_fraction","less"]
noncomputable abbrev eN:Stmt:=top 38
noncomputable abbrev zD:Cfg:=mkC eN ["thing"] ["is_limit"]
noncomputable abbrev bY:Stmt:=top 14
noncomputable abbrev rS:Cfg:=mkC bY ["things","place","thing"] ["is_fraction"]
noncomputable abbrev vO:Stmt:=top 15
noncomputable abbrev aHK:Cfg:=mkC vO ["one","other"] ["lowest","need_fractions"]
noncomputable abbrev eT:Stmt:=top 17
noncomputable abbrev zK:Cfg:=mkC eT ["number","guess","nearer"] []
noncomputable abbrev eQ:Stmt:=top 18
noncomputable abbrev zN:Cfg:=mkC eQ ["one","top","bottom","under"] ["need_fractions","root_under"]
noncomputable abbrev cK:Stmt:=top 41
noncomputable abbrev tX:Cfg:=mkC cK ["shade","other","limit","eye"] ["far","need_limit","need_shade","over","root_above"]
noncomputable abbrev cX:Stmt:=aT (top 42) 0
noncomputable abbrev wB:Cfg:=mkC cX ["self","shade","other","limit","eye","steps","bottom"] ["part_way","steps_between"]
noncomputable abbrev iW:Stmt:=top 53
noncomputable abbrev QT:Cfg:=mkC iW ["_law_a","_law_b"] []
noncomputable abbrev pD:Stmt:=top 48
noncomputable abbrev aAL:Cfg:=mkC pD ["_law_top","_law_bottom","_law_one","_law_mate"] []
noncomputable abbrev jD:Stmt:=top 50
noncomputable abbrev PM:Cfg:=mkC jD ["_law_a","_law_b"] ["_law_low"]
noncomputable abbrev lY:Stmt:=top 49
noncomputable abbrev WE:Cfg:=mkC lY ["_law_a","_law_b"] ["_law_low"]
noncomputable abbrev iR:Stmt:=top 51
noncomputable abbrev QJ:Cfg:=mkC iR ["_law_a","_law_b"] ["_law_low"]
noncomputable abbrev lO:Stmt:=top 60
noncomputable abbrev XZ:Cfg:=mkC lO ["_law_hue"] []
noncomputable abbrev cU:Stmt:=aT (top 23) 1
noncomputable abbrev wE:Cfg:=mkC cU ["self","other"] ["shares_of"]
noncomputable abbrev dU:Stmt:=aT (top 42) 4
noncomputable abbrev wZ:Cfg:=mkC dU ["self"] []
noncomputable abbrev lV:Stmt:=aT (top 42) 1
noncomputable abbrev TH:Cfg:=mkC lV ["self","place"] ["is_whole"]
noncomputable abbrev cY:Stmt:=top 67
noncomputable abbrev vI:Cfg:={mkC cY ["_law_hue","_law_goal","_law_one","_law_mate","_law_many","_law_row","_law_spots","_law_rows","_law_due_here","_law_spot","_law_part"] ["_law_low","_law_minus","_law_plus","_law_times","_law_told"] with M:=["_law_due_here"],eqs:=[("Shade","Shade.__eq__")],ows:=[("len",[("Row","Row.__len__")])],mts:=[("at",1,[],[("Row","Row.at",[.arg 0])])],bmts:=[("at",1,[],[("Row","Row.at",[.arg 0])])]}
noncomputable abbrev lZ:Stmt:=top 59
noncomputable abbrev ZK:Cfg:={mkC lZ ["_law_row"] [] with mks:=["Shade"]}
noncomputable abbrev iQ:Stmt:=top 61
noncomputable abbrev NU:Cfg:=mkC iQ ["_law_apart","_law_reach","_law_found","_law_power","_law_number"] ["_law_below","_law_times"]
noncomputable abbrev bK:Stmt:=top 68
noncomputable abbrev nZ:Cfg:={mkC bK ["_law_purse_here","_law_ends","_law_number","_law_square","_law_some","_law_one","_law_mate","_law_row","_law_reach","_law_many"] ["_law_below","_law_long_right","_law_low","_law_made","_law_pick","_law_steps","_law_told","steps_between"] with mks:=["Row"],M:=["_law_some"]}
noncomputable abbrev iM:Stmt:=top 45
noncomputable abbrev QL:Cfg:={mkC iM ["_law_cell_here"] [] with rm:=true}
noncomputable abbrev eM:Stmt:=aT (top 42) 3
noncomputable abbrev BP:Cfg:={mkC eM ["self","other"] [] with eqs:=[("Shade","Shade.__eq__")],tq:=true}
noncomputable abbrev iJ:Stmt:=top 19
noncomputable abbrev QG:Cfg:={mkC iJ ["number","pieces","piece"] [] with M:=["pieces"]}
noncomputable abbrev jA:Stmt:=top 20
noncomputable abbrev QD:Cfg:=mkC jA ["one"] ["figures"]
noncomputable abbrev cJ:Stmt:=aT (top 23) 3
noncomputable abbrev uE:Cfg:=mkC cJ ["self"] ["shares_of","written"]
noncomputable abbrev dO:Stmt:=aT (top 42) 5
noncomputable abbrev xH:Cfg:={mkC dO ["self"] [] with ows:=[("str",[("Shade","Shade.__str__")])]}
noncomputable abbrev eV:Stmt:=aT (top 42) 2
noncomputable abbrev BR:Cfg:={mkC eV ["self"] [] with rm:=true}
noncomputable abbrev cM:Stmt:=top 66
noncomputable abbrev uI:Cfg:={mkC cM ["_law_row","_law_due_here","_law_others","_law_mate","_law_rows","_law_alike","_law_told_here","_law_some"] [] with exs:=[("Row","Row.__eq__"),("Shade","Shade.__eq__")],ows:=[("str",[("Row","Row.__str__")])],mts:=[("at",1,[],[("Row","Row.at",[.arg 0])]),("shades",0,[],[("Row","Row.shades",[])])],bmts:=[("at",1,[],[("Row","Row.at",[.arg 0])]),("shades",0,[],[("Row","Row.shades",[])])]}
noncomputable abbrev rF:Stmt:=top 63
noncomputable abbrev aBH:Cfg:={mkC rF ["_law_one","_law_mate","_law_many","_law_rows","_law_k","_law_part"] ["_law_low","_law_minus","_law_plus","_law_times"] with M:=["_law_rows"]}
noncomputable abbrev oW:Stmt:=top 58
noncomputable abbrev aCN:Cfg:=mkC oW ["_law_one","_law_mate","_law_seer","_law_found","_law_light","_law_apart"] ["_law_minus","_law_plus","_law_times"]
noncomputable abbrev kW:Stmt:=top 52
noncomputable abbrev XS:Cfg:=mkC kW ["_law_a","_law_b"] ["_law_low"]
noncomputable abbrev jG:Stmt:=top 62
noncomputable abbrev OO:Cfg:=mkC jG ["_law_purse_here","_law_apart","_law_many","_law_mode","_law_reach","_law_parts"] ["_law_below","_law_over","_law_pick","_law_times"]
noncomputable abbrev mB:Stmt:=top 54
noncomputable abbrev VL:Cfg:=mkC mB ["_law_a"] []
noncomputable abbrev jH:Stmt:=top 64
noncomputable abbrev OU:Cfg:=mkC jH ["_law_rows"] ["_law_text"]
noncomputable abbrev cV:Stmt:=aT (top 42) 6
noncomputable abbrev vC:Cfg:={mkC cV ["self"] [] with ows:=[("str",[("Row","Row.__str__")])]}
noncomputable abbrev dQ:Stmt:=top 65
noncomputable abbrev xP:Cfg:={mkC dQ ["_law_row","_law_due_here","_law_shades","_law_wording"] ["_law_shown","_law_told"] with M:=["_law_shades"],lns:=[("Row","Row.__len__")],ows:=[("len",[("Row","Row.__len__")]),("str",[("Row","Row.__str__")]),("repr",[("Row","Row.__repr__")]),("bool",[("Row","Row.__len__")])],mts:=[("at",0,["place"],[("Row","Row.at",[.arg 0])]),("at",1,[],[("Row","Row.at",[.arg 0])]),("shades",0,[],[("Row","Row.shades",[])])],bmts:=[("at",0,["place"],[("Row","Row.at",[.arg 0])]),("at",1,[],[("Row","Row.at",[.arg 0])]),("shades",0,[],[("Row","Row.shades",[])])]}
noncomputable abbrev jJ:Stmt:=top 47
noncomputable abbrev NM:Cfg:=mkC jJ ["_law_thing"] []
noncomputable abbrev iO:Stmt:=top 69
noncomputable abbrev PH:Cfg:={mkC iO ["_law_purse_here","_law_one","_law_mate","_law_third","_law_seer","_law_hue","_law_goal","_law_apart","_law_reach","_law_many","_law_told_here","_law_due_here","_law_row","_law_back","_law_wide","_law_far_off","_law_ends","_law_others"] ["_law_alike_right","_law_due","_law_far","_law_limit","_law_made","_law_row_right","_law_steps","_law_whole","steps_between"] with mks:=["Row"],shs:=[("steps_between",0,["eye","limit","other","shade"],[.arg 3,.arg 2,.arg 1,.arg 0]),("steps_between",1,["limit","other"],[.arg 0,.arg 2,.arg 1,.non]),("steps_between",3,[],[.arg 0,.arg 1,.arg 2,.non])],mkk:=[("Row",["limit","eye","other","shade"],[.arg 3,.arg 2,.arg 0,.arg 1])],M:=["_law_others","_law_told_here"],mkp:=[("Row",3,[],[.arg 0,.arg 1,.arg 2,.non])]}
noncomputable abbrev jI:Stmt:=top 55
noncomputable abbrev OS:Cfg:=mkC jI ["_law_purse_here","_law_mode","_law_bottom"] ["_law_low","_law_pick"]
noncomputable abbrev gY:Stmt:=top 56
noncomputable abbrev HG:Cfg:={mkC gY ["_law_purse_here","_law_alike","_law_row"] ["_law_pick","_law_share"] with M:=["_law_row"]}
noncomputable abbrev yN:Stmt:=top 70
noncomputable abbrev aI8:Cfg:=mkC yN ["_law_script","_law_k","_law_purse_here","_law_mode","_law_alike","_law_one","_law_mate","_law_third","_law_seer"] ["_law_cell","_law_eye","_law_greatest_right","_law_pick","_law_purse","_law_right","_law_shares"]
noncomputable abbrev zS0:Value:=.str "law_lightshares_k28_rows_even_and_least" 700
noncomputable abbrev zS1:Value:=.str "lightshares.errors" 187
noncomputable abbrev zS2:Value:=.str "lightshares.fractions" 332
noncomputable abbrev zS3:Value:=.str "lightshares.shades" 433
noncomputable abbrev zS4:Value:=.str "lightshares.rows" 604
noncomputable abbrev zS5:Value:=.str "lightshares.nearness" 536
noncomputable abbrev fX(a b:Str)(s:Stmt)(d m c:Value):Ja:=W.fnOf a b (fE s) (dG s) (bS s) d .none .none m none c .none
noncomputable abbrev oC(l:List Value):Obj:=⟨.type "code",none,.fields l.toArray,#[]⟩
noncomputable abbrev oT(l:List Value):Obj:=⟨.type "tuple",none,.seq l.toArray 0,#[]⟩
noncomputable abbrev oL(l:List Value):Obj:=⟨.none,none,.fields l.toArray,#[]⟩
noncomputable abbrev oN(a b:Str)(s:Stmt):Obj:=⟨.none,none,.func {W.fnOf a b (fE s) (dG s) (bS s) .none .none .none .none none .none .none with globals:=0,builtins:=0},#[]⟩
noncomputable abbrev oF(a b:Str)(s:Stmt)(d m:Value)(c:Addr):Obj:=⟨.type "function",none,.func (W.fnOf a b (fE s) (dG s) (bS s) d .none .none m none (.ref c) .none),#[]⟩
noncomputable abbrev oR(c l:Addr)(m:Value):Obj:=⟨.type "frame",none,.plain,#[some (.ref c),some (.ref 3),some (.ref l),none,some m,none,some (.ref 0)]⟩
noncomputable abbrev oS(c:Addr):Obj:=⟨.type "super",none,.fields #[.ref c,.ref c,.ref c],#[]⟩
noncomputable abbrev oB(n:J8)(c:Value):Obj:=⟨.type "builtin_function_or_method",none,.fields #[.builtin n,c],#[]⟩
noncomputable abbrev fC(n:Tok):Value:=.str "/claim/cut.py" n
noncomputable abbrev iV(n:Int):Value:=.int n 0
noncomputable abbrev oD(l:List DictEntry):Obj:=⟨.type "dict",none,.dict l.toArray 0,#[]⟩
noncomputable def kE(P:Params)(x:Str)(t:Tok)(v:Value):DictEntry:=⟨PyData.keyHash P x,.str x t,v⟩
noncomputable abbrev zV(n:Nat):Value:=if n=0 then .none else .ref n
noncomputable abbrev zXt(a b:Str)(i l n c x y u v w q:Nat):Obj:=oC [.str a i,.str b (i+1),fC (i+2),iV l,iV n,iV 0,iV 0,iV c,.ref x,.bool true,iV 181,.ref y,.none,zV u,zV v,zV w,iV q,iV l,fC (q+1)]
noncomputable abbrev zOt(a:Str):=zXt a a
noncomputable abbrev zXf(a b:Str)(i l n c x y u v w q:Nat):Obj:=oC [.str a i,.str b (i+1),fC (i+2),iV l,iV n,iV 0,iV 0,iV c,.ref x,.bool false,iV 181,.ref y,.none,zV u,zV v,zV w,iV q,iV l,fC (q+1)]
noncomputable abbrev zOf(a:Str):=zXf a a
noncomputable abbrev zY(n:Str)(e w:J8)(b c d x i j:Nat):Obj:=⟨.type "type",none,.cls ⟨n,[.ref b],[.ref c,.ref b,.type e,.type "Exception",.type "BaseException",.type "object"],d,n,true,[],[],false,none,false⟩,#[some (.ref x),none,some (.str n i),some (.str n j),some (.builtin w),some (.bool true)]⟩
noncomputable abbrev kL(P:Params)(n l:Nat):DictEntry:=kE P "__firstlineno__" n (.int l (n-1))
noncomputable abbrev kT(P:Params)(n l:Nat):DictEntry:=kE P "__static_attributes__" n (.ref l)
noncomputable abbrev kI(P:Params)(n l:Nat):DictEntry:=kE P "__init__" n (.ref l)
noncomputable abbrev kD(P:Params)(n:Nat):DictEntry:=kE P "__doc__" n .none
noncomputable abbrev kQ(P:Params)(n:Nat)(x:Str):DictEntry:=kE P "__qualname__" n (.str x (n-1))
noncomputable abbrev kM(P:Params)(n:Nat):DictEntry:=kE P "__module__" n zS1
noncomputable abbrev oDn(l:List DictEntry)(n:Nat):Obj:=⟨.type "dict",none,.dict l.toArray n,#[]⟩
noncomputable def ko3(P:Params):Obj:=⟨(.type "dict"),none,.dict #[kE P "__name__" 165 zS0,kD P 166,kE P "__package__" 167 .none,kE P "__loader__" 168 (.builtin "__main__.__loader__#opaque"),kE P "__spec__" 169 .none,kE P "__annotations__" 170 (.ref 6),kE P "__builtins__" 171 (.ref 4),kE P "__file__" 173 (.str "/claim/cut.py" 172),kE P "__cached__" 174 .none,kE P "ShadeError" 206 (.ref 24),kE P "NoNumber" 231 (.ref 44),kE P "NoShade" 256 (.ref 63),kE P "NoEye" 281 (.ref 82),kE P "NoLimit" 306 (.ref 101),kE P "NoPlace" 331 (.ref 120),kE P "PIECE_FIGURES" 335 (.int 64 334),kE P "PIECE" 339 (.int 10000000000000000000000000000000000000000000000000000000000000000 338),kE P "is_whole" 346 (.ref 129),kE P "common" 354 (.ref 136),kE P "is_fraction" 363 (.ref 143),kE P "lowest" 372 (.ref 150),kE P "need_fractions" 381 (.ref 157),kE P "over" 389 (.ref 164),kE P "less" 397 (.ref 171),kE P "root_under" 406 (.ref 178),kE P "root_above" 416 (.ref 185),kE P "figures" 425 (.ref 192),kE P "written" 432 (.ref 199),kE P "is_share" 441 (.ref 206),kE P "Shade" 504 (.ref 247),kE P "is_shade" 511 (.ref 258),kE P "need_shade" 518 (.ref 265),kE P "shares_of" 525 (.ref 272),kE P "shade_of" 535 (.ref 279),kE P "EVEN_EYE" 541 (.ref 280),kE P "MOST_OF_EYE" 543 (.int 99 542),kE P "LEAST_LIMIT" 546 (.ref 281),kE P "MOST_LIMIT" 549 (.ref 282),kE P "is_eye" 555 (.ref 287),kE P "eye_of" 562 (.ref 294),kE P "gap_between" 578 (.ref 301),kE P "far" 589 (.ref 309),kE P "is_limit" 596 (.ref 316),kE P "need_limit" 603 (.ref 323),kE P "part_way" 618 (.ref 330),kE P "steps_between" 628 (.ref 338),kE P "Row" 699 (.ref 394),kE P "_law_cell" 711 (.ref 405),kE P "_law_purse" 718 (.ref 412),kE P "_law_pick" 728 (.ref 419),kE P "_law_whole" 735 (.ref 426),kE P "_law_low" 745 (.ref 433),kE P "_law_plus" 753 (.ref 440),kE P "_law_minus" 761 (.ref 447),kE P "_law_times" 769 (.ref 454),kE P "_law_over" 777 (.ref 461),kE P "_law_below" 785 (.ref 468),kE P "_law_text" 792 (.ref 475),kE P "_law_share" 801 (.ref 482),kE P "_law_shares" 807 (.ref 487),kE P "_law_eye" 813 (.ref 492),kE P "_law_far" 825 (.ref 499),kE P "_law_made" 832 (.ref 506),kE P "_law_told" 839 (.ref 513),kE P "_law_steps" 850 (.ref 520),kE P "_law_limit" 862 (.ref 527),kE P "_law_due" 868 (.ref 532),kE P "_law_shown" 874 (.ref 537),kE P "_law_row_right" 880 (.ref 542),kE P "_law_alike_right" 886 (.ref 547),kE P "_law_long_right" 892 (.ref 552),kE P "_law_greatest_right" 908 (.ref 559),kE P "_law_right" 914 (.ref 564),kE P "law" 920 (.ref 569)] 74,#[]⟩
def JQ(P:Params):=oDn [kM P 196,kL P 200 2,kT P 201 22,kE P "__weakref__" 203 (.ref 25),kD P 204] 3
noncomputable def NX:Obj:=⟨(.type "type"),none,.cls ⟨"ShadeError",[(.type "ValueError")],[(.ref 24),(.type "ValueError"),(.type "Exception"),(.type "BaseException"),(.type "object")],23,"ShadeError",true,[],[(.ref 44),(.ref 63),(.ref 82),(.ref 101),(.ref 120)],false,none,false⟩,#[(some (.ref 15)),none,(some (.str "ShadeError" 189)),(some (.str "ShadeError" 197)),(some (.builtin "ValueError.__new__")),(some (.bool true))]⟩
def IA(P:Params):=oDn [kM P 214,kL P 218 4,kI P 226 41,kT P 228 42,kD P 229] 2
def GL:=zY "NoNumber" "ValueError" "ValueError.__new__" 24 44 43 28 207 215
def IV(P:Params):=oDn [kM P 239,kL P 243 9,kI P 251 60,kT P 253 61,kD P 254] 2
def JU:=zY "NoShade" "ValueError" "ValueError.__new__" 24 63 62 47 232 240
def OM(P:Params):=oDn [kM P 264,kL P 268 14,kI P 276 79,kT P 278 80,kD P 279] 2
def QH:=zY "NoEye" "ValueError" "ValueError.__new__" 24 82 81 66 257 265
def yC(P:Params):=oDn [kM P 289,kL P 293 19,kI P 301 98,kT P 303 99,kD P 304] 2
def yE:=zY "NoLimit" "ValueError" "ValueError.__new__" 24 101 100 85 282 290
def yQ(P:Params):=oDn [kM P 314,kL P 318 24,kI P 326 117,kT P 328 118,kD P 329] 2
def xX:=zY "NoPlace" "ValueError" "ValueError.__new__" 24 120 119 104 307 315
def DN:=zOt "is_whole" 340 32 1 3 123 124 125 126 127 344
def CG:=oF "is_whole" "is_whole" gW .none zS2 128
def DS:=zOt "common" 347 34 2 3 130 131 132 133 134 352
def DU:=oF "common" "common" lX .none zS2 135
def FG:=zOt "is_fraction" 355 38 1 3 137 138 139 140 141 361
def DK:=oF "is_fraction" "is_fraction" dW .none zS2 142
def FI:=zOt "lowest" 364 43 2 3 144 145 146 147 148 370
def CC:=oF "lowest" "lowest" lQ .none zS2 149
def CB:=zOt "need_fractions" 373 48 1 3 151 152 153 154 155 379
def FC:=oF "need_fractions" "need_fractions" bY .none zS2 156
def DH:=zOt "over" 382 52 2 3 158 159 160 161 162 387
def EM:=oF "over" "over" vO .none zS2 163
def FF:=zOt "less" 390 57 2 3 165 166 167 168 169 395
def EJ:=oF "less" "less" vQ .none zS2 170
def ED:=zOt "root_under" 398 59 1 3 172 173 174 175 176 404
def FH:=oF "root_under" "root_under" eT .none zS2 177
def DO:=zOt "root_above" 407 68 1 3 179 180 181 182 183 414
def DZ:=oF "root_above" "root_above" eQ .none zS2 184
def DW:=zOt "figures" 417 77 1 3 186 187 188 189 190 423
def EL:=oF "figures" "figures" iJ .none zS2 191
def FK:=zOt "written" 426 84 1 3 193 194 195 196 197 430
def CJ:=oF "written" "written" jA .none zS2 198
def ER:=zOt "is_share" 435 89 1 3 200 201 202 203 204 439
def ET:=oF "is_share" "is_share" gG .none zS3 205
def ES:=zXt "__init__" "Shade.__init__" 454 93 4 3 214 215 216 217 218 463
def BZ:=oF "__init__" "Shade.__init__" bZ .none zS3 219
def DP:=zXt "__eq__" "Shade.__eq__" 466 101 2 3 221 222 223 224 225 471
def EA:=oF "__eq__" "Shade.__eq__" cU .none zS3 226
def FR:=zXt "__str__" "Shade.__str__" 480 107 1 3 233 234 0 0 235 483
def DX:=oF "__str__" "Shade.__str__" cJ .none zS3 236
def EC(P:Params):=oDn [kE P "__module__" 449 zS3,kL P 453 91,kI P 465 220,kE P "__eq__" 473 (.ref 227),kE P "__len__" 479 (.ref 232),kE P "__str__" 485 (.ref 237),kE P "__repr__" 492 (.ref 244),kT P 496 245,kE P "__dict__" 498 (.ref 248),kE P "__weakref__" 500 (.ref 249),kD P 501,kE P "__hash__" 502 .none] 5
noncomputable def DA:Obj:=⟨(.type "type"),none,.cls ⟨"Shade",[(.type "object")],[(.ref 247),(.type "object")],246,"Shade",true,[],[],false,none,false⟩,#[none,none,(some (.str "Shade" 442)),(some (.str "Shade" 450)),(some (.builtin "object.__new__")),(some (.bool true))]⟩
def JV:=zOt "is_shade" 505 112 1 3 252 253 254 255 256 509
def KQ:=oF "is_shade" "is_shade" gX .none zS3 257
def KI:=zOt "need_shade" 512 114 1 3 259 260 261 262 263 516
def JZ:=oF "need_shade" "need_shade" eP .none zS3 264
def LV:=zOt "shares_of" 519 117 1 3 266 267 268 269 270 523
def KR:=oF "shares_of" "shares_of" fJ .none zS3 271
def KF:=zOt "shade_of" 526 120 1 3 273 274 275 276 277 533
def LJ:=oF "shade_of" "shade_of" gQ .none zS3 278
def MA:=oT [.int 1 538,.int 1 539,.int 1 540]
def JY:=oT [.int 1 544,.int 1000 545]
def MN:=oT [.int 1000 547,.int 1 548]
def MS:=zOt "is_eye" 550 128 1 3 283 284 0 0 285 553
def MT:=oF "is_eye" "is_eye" lJ .none zS5 286
def MI:=zOt "eye_of" 556 132 1 3 288 289 290 291 292 560
def ME:=oF "eye_of" "eye_of" lH .none zS5 293
def KK:=zOt "gap_between" 563 138 3 3 295 296 297 298 299 576
def LM:=oF "gap_between" "gap_between" dS .none zS5 300
def aH1:=oT [.none]
def LC:=zOt "far" 579 147 3 3 303 304 305 306 307 587
def KP:=oF "far" "far" CV (.ref 302) zS5 308
def MG:=zOt "is_limit" 590 152 1 3 310 311 312 313 314 594
def MM:=oF "is_limit" "is_limit" fZ .none zS5 315
def KC:=zOt "need_limit" 597 154 1 3 317 318 319 320 321 601
def KJ:=oF "need_limit" "need_limit" eN .none zS5 322
def KS:=zOt "part_way" 606 158 3 3 324 325 326 327 328 616
def MX:=oF "part_way" "part_way" gA .none zS4 329
def aJm:=oT [.none]
def YN:=zOt "steps_between" 619 164 4 3 332 333 334 335 336 626
def WS:=oF "steps_between" "steps_between" cK (.ref 331) zS4 337
def sP:=oT [.none]
def ZT:=zXt "__init__" "Row.__init__" 641 171 5 3 347 348 0 0 349 644
def aAa:=oF "__init__" "Row.__init__" cX (.ref 346) zS4 350
def XA:=zXt "at" "Row.at" 647 176 2 3 352 353 354 355 356 652
def VG:=oF "at" "Row.at" lV .none zS4 357
def YJ:=zXt "shades" "Row.shades" 655 181 1 3 359 360 361 362 363 659
def WU:=oF "shades" "Row.shades" eV .none zS4 364
def aAl:=zXt "__eq__" "Row.__eq__" 662 184 2 3 366 367 368 369 370 667
def YS:=oF "__eq__" "Row.__eq__" eM .none zS4 371
def XF:=zXt "__len__" "Row.__len__" 670 187 1 3 373 374 375 376 377 674
def VF:=oF "__len__" "Row.__len__" dU .none zS4 378
def aAb:=zXt "__str__" "Row.__str__" 677 190 1 3 380 381 0 0 382 680
def XX:=oF "__str__" "Row.__str__" dO .none zS4 383
def aAd:=zXt "__repr__" "Row.__repr__" 683 193 1 3 385 386 387 388 389 687
def SV:=oF "__repr__" "Row.__repr__" cV .none zS4 390
def aAi(P:Params):=oDn [kE P "__module__" 636 zS4,kL P 640 169,kI P 646 351,kE P "at" 654 (.ref 358),kE P "shades" 661 (.ref 365),kE P "__eq__" 669 (.ref 372),kE P "__len__" 676 (.ref 379),kE P "__str__" 682 (.ref 384),kE P "__repr__" 689 (.ref 391),kT P 691 392,kE P "__dict__" 693 (.ref 395),kE P "__weakref__" 695 (.ref 396),kD P 696,kE P "__hash__" 697 .none] 5
noncomputable def RF:Obj:=⟨(.type "type"),none,.cls ⟨"Row",[(.type "object")],[(.ref 394),(.type "object")],393,"Row",true,[],[],false,none,false⟩,#[none,none,(some (.str "Row" 629)),(some (.str "Row" 637)),(some (.builtin "object.__new__")),(some (.bool true))]⟩
def YA:=zOt "_law_cell" 702 196 2 3 399 400 401 402 403 709
def ZX:=oF "_law_cell" "_law_cell" lD .none zS0 404
def UA:=zOt "_law_purse" 712 203 1 3 406 407 408 409 410 716
def aAe:=oF "_law_purse" "_law_purse" iM .none zS0 411
def TW:=zOt "_law_pick" 719 205 2 3 413 414 415 416 417 726
def XG:=oF "_law_pick" "_law_pick" kX .none zS0 418
def ZN:=zOt "_law_whole" 729 214 1 3 420 421 422 423 424 733
def YG:=oF "_law_whole" "_law_whole" jJ .none zS0 425
def VW:=zOt "_law_low" 736 216 2 3 427 428 429 430 431 743
def YO:=oF "_law_low" "_law_low" pD .none zS0 432
def SG:=zOt "_law_plus" 746 223 2 3 434 435 436 437 438 751
def SU:=oF "_law_plus" "_law_plus" lY .none zS0 439
def aDe:=zOt "_law_minus" 754 225 2 3 441 442 443 444 445 759
def aEf:=oF "_law_minus" "_law_minus" jD .none zS0 446
def aDu:=zOt "_law_times" 762 227 2 3 448 449 450 451 452 767
def aDx:=oF "_law_times" "_law_times" iR .none zS0 453
def aDI:=zOt "_law_over" 770 229 2 3 455 456 457 458 459 775
def aDE:=oF "_law_over" "_law_over" kW .none zS0 460
def aD9:=zOt "_law_below" 778 231 2 3 462 463 464 465 466 783
def aDY:=oF "_law_below" "_law_below" iW .none zS0 467
def aC4:=zOt "_law_text" 786 233 1 3 469 470 471 472 473 790
def aDZ:=oF "_law_text" "_law_text" mB .none zS0 474
def aCT:=zOt "_law_share" 793 235 1 3 476 477 478 479 480 799
def aD7:=oF "_law_share" "_law_share" jI .none zS0 481
def aDD:=zOt "_law_shares" 802 239 1 3 483 484 0 0 485 805
def aD8:=oF "_law_shares" "_law_shares" gY .none zS0 486
def aDH:=zOt "_law_eye" 808 247 1 3 488 489 0 0 490 811
def aEd:=oF "_law_eye" "_law_eye" pE .none zS0 491
def aCU:=zOt "_law_far" 814 250 3 3 493 494 495 496 497 823
def aDA:=oF "_law_far" "_law_far" oW .none zS0 498
def aEc:=zOt "_law_made" 826 256 1 3 500 501 502 503 504 830
def aCQ:=oF "_law_made" "_law_made" lZ .none zS0 505
def aDz:=zOt "_law_told" 833 258 1 3 507 508 509 510 511 837
def aDn:=oF "_law_told" "_law_told" lO .none zS0 512
def aDG:=zOt "_law_steps" 840 260 2 3 514 515 516 517 518 848
def aDt:=oF "_law_steps" "_law_steps" iQ .none zS0 519
def aDC:=zOt "_law_limit" 851 268 2 3 521 522 523 524 525 860
def aDw:=oF "_law_limit" "_law_limit" jG .none zS0 526
def aC9:=zOt "_law_due" 863 280 3 3 528 529 0 0 530 866
def aCO:=oF "_law_due" "_law_due" rF .none zS0 531
def aD1:=zOt "_law_shown" 869 286 1 3 533 534 0 0 535 872
def aDS:=oF "_law_shown" "_law_shown" jH .none zS0 536
def aDP:=zOt "_law_row_right" 875 288 2 3 538 539 0 0 540 878
def aDh:=oF "_law_row_right" "_law_row_right" dQ .none zS0 541
def aDU:=zOt "_law_alike_right" 881 302 3 3 543 544 0 0 545 884
def aC2:=oF "_law_alike_right" "_law_alike_right" cM .none zS0 546
def aDT:=zOt "_law_long_right" 887 310 6 3 548 549 0 0 550 890
def aEa:=oF "_law_long_right" "_law_long_right" cY .none zS0 551
def aD4:=zOt "_law_greatest_right" 893 318 1 3 553 554 555 556 557 906
def aDF:=oF "_law_greatest_right" "_law_greatest_right" bK .none zS0 558
def aC7:=zOt "_law_right" 909 333 5 3 560 561 0 0 562 912
def aDd:=oF "_law_right" "_law_right" iO .none zS0 563
def aDa:=zOt "law" 915 355 1 3 565 566 0 0 567 918
def aEe:=oF "law" "law" yN .none zS0 568
noncomputable def K0:Params->W.Frag:=λP=>[(3,ko3 P),(23,JQ P),(24,NX),(43,IA P),(44,GL),(62,IV P),(63,JU),(81,OM P),(82,QH),(100,yC P),(101,yE),(119,yQ P),(120,xX),(128,DN),(129,CG),(135,DS),(136,DU),(142,FG),(143,DK),(149,FI),(150,CC),(156,CB),(157,FC),(163,DH),(164,EM),(170,FF),(171,EJ),(177,ED),(178,FH),(184,DO),(185,DZ),(191,DW),(192,EL),(198,FK),(199,CJ),(205,ER),(206,ET),(219,ES),(220,BZ),(226,DP),(227,EA),(236,FR),(237,DX),(246,EC P),(247,DA),(257,JV),(258,KQ),(264,KI),(265,JZ),(271,LV),(272,KR),(278,KF),(279,LJ),(280,MA),(281,JY),(282,MN),(286,MS),(287,MT),(293,MI),(294,ME),(300,KK),(301,LM),(302,aH1),(308,LC),(309,KP),(315,MG),(316,MM),(322,KC),(323,KJ),(329,KS),(330,MX),(331,aJm),(337,YN),(338,WS),(346,sP),(350,ZT),(351,aAa),(357,XA),(358,VG),(364,YJ),(365,WU),(371,aAl),(372,YS),(378,XF),(379,VF),(383,aAb),(384,XX),(390,aAd),(391,SV),(393,aAi P),(394,RF),(404,YA),(405,ZX),(411,UA),(412,aAe),(418,TW),(419,XG),(425,ZN),(426,YG),(432,VW),(433,YO),(439,SG),(440,SU),(446,aDe),(447,aEf),(453,aDu),(454,aDx),(460,aDI),(461,aDE),(467,aD9),(468,aDY),(474,aC4),(475,aDZ),(481,aCT),(482,aD7),(486,aDD),(487,aD8),(491,aDH),(492,aEd),(498,aCU),(499,aDA),(505,aEc),(506,aCQ),(512,aDz),(513,aDn),(519,aDG),(520,aDt),(526,aDC),(527,aDw),(531,aC9),(532,aCO),(536,aD1),(537,aDS),(541,aDP),(542,aDh),(546,aDU),(547,aC2),(551,aDT),(552,aEa),(558,aD4),(559,aDF),(563,aC7),(564,aDd),(568,aDa),(569,aEe)]
noncomputable def aK:List Addr:=[3,23,24,43,44,62,63,81,82,100,101,119,120,128,129,135,136,142,143,149,150,156,157,163,164,170,171,177,178,184,185,191,192,198,199,205,206,219,220,226,227,236,237,246,247,257,258,264,265,271,272,278,279,280,281,282,286,287,293,294,300,301,302,308,309,315,316,322,323,329,330,331,337,338,346,350,351,357,358,364,365,371,372,378,379,383,384,390,391,393,394,404,405,411,412,418,419,425,426,432,433,439,440,446,447,453,454,460,461,467,468,474,475,481,482,486,487,491,492,498,499,505,506,512,513,519,520,526,527,531,532,536,537,541,542,546,547,551,552,558,559,563,564,568,569]
noncomputable def qv:J9:={PySem.Challenge.pw_lightshares_k28_rows_even_and_least with main:={PySem.Challenge.pw_lightshares_k28_rows_even_and_least.main with body:=[top 70]}}
noncomputable def lo:List Str:=(["ShadeError","NoNumber","NoShade","NoEye","NoLimit","NoPlace","PIECE_FIGURES","PIECE","is_whole","common","is_fraction","lowest","need_fractions","over","less","root_under","root_above","figures","written","is_share","Shade","is_shade","need_shade","shares_of","shade_of","EVEN_EYE","MOST_OF_EYE","LEAST_LIMIT","MOST_LIMIT","is_eye","eye_of","gap_between","far","is_limit","need_limit","part_way","steps_between","Row","_law_cell","_law_purse","_law_pick","_law_whole","_law_low","_law_plus","_law_minus","_law_times","_law_over","_law_below","_law_text","_law_share","_law_shares","_law_eye","_law_far","_law_made","_law_told","_law_steps","_law_limit","_law_due","_law_shown","_law_row_right","_law_alike_right","_law_long_right","_law_greatest_right","_law_right"]:List J8).map Str.ofString
noncomputable def nmS:List Str:=(["is_whole","common","is_fraction","lowest","need_fractions","plus","minus","times","over","below","nearest_whole","is_share","Shade","Shade.__init__","is_shade","need_shade","shares_of","shade_of","is_grade","need_grade","is_step","need_step","printed","span_of","_law_cell","_law_purse","_law_pick","_law_whole","_law_low","_law_plus","_law_minus","_law_times","_law_over","_law_below","_law_is_fraction","_law_share","_law_shares","is_eye","eye_of","gap_between","far","less","is_limit","need_limit","root_under","root_above","steps_between","part_way","Row","Row.__init__","Row.__len__","figures","written","Shade.__str__","Shade.__eq__","Row.at","Row.shades","Row.__eq__","Row.__str__","Row.__repr__","_law_told","_law_text","_law_shown","_law_steps","_law_limit","_law_due","_law_row_right","_law_alike_right","_law_long_right","_law_greatest_right","_law_right","_law_made","_law_far","_law_eye","law"]:List J8).map Str.ofString
noncomputable def pkS(y:PX):Nat->Sp3
 | 0=>dY
 | 1=>oY
 | 2=>lG
 | 3=>bJ
 | 4=>uM
 | 5=>oG
 | 6=>jS
 | 7=>fA
 | 8=>lU
 | 9=>dE
 | 10=>GF
 | 11=>mE
 | 12=>oX
 | 13=>uT
 | 14=>mF
 | 15=>mN
 | 16=>cI
 | 17=>mH
 | 18=>II
 | 19=>vD
 | 20=>wI
 | 21=>nP
 | 22=>yD
 | 23=>QW
 | 24=>wH
 | 25=>rA
 | 26=>jT
 | 27=>dY
 | 28=>bJ
 | 29=>oG
 | 30=>jS
 | 31=>fA
 | 32=>lU
 | 33=>dE
 | 34=>yP
 | 35=>pM
 | 36=>mD
 | 37=>uQ
 | 38=>BL
 | 39=>TL
 | 40=>ZJ
 | 41=>dE
 | 42=>AB
 | 43=>AT
 | 44=>uL
 | 45=>AS
 | 46=>zM
 | 47=>zL
 | 48=>aEb
 | 49=>HK
 | 50=>wC
 | 51=>VX
 | 52=>aAU
 | 53=>HR
 | 54=>VC
 | 55=>aGd
 | 56=>RD
 | 57=>XQ
 | 58=>IK
 | 59=>IS
 | 60=>AN
 | 61=>GX
 | 62=>BU
 | 63=>wM
 | 64=>GN
 | 65=>aAj
 | 66=>HH
 | 67=>AK
 | 68=>GW
 | 69=>wA
 | 70=>sD
 | 71=>AL
 | 72=>BB
 | 73=>IU
 | 74=>AX
 | _=>λ_ _ _=>False
noncomputable def nmG:List Str:=(["ONE","ZERO","MOST_GRADE","Shade","int","bool","tuple","EVEN_EYE","MOST_OF_EYE","LEAST_LIMIT","MOST_LIMIT","list","Row","PIECE","PIECE_FIGURES","str"]:List J8).map Str.ofString
noncomputable def pkG:Nat->PV
 | 0=>FQ 1
 | 1=>FQ 0
 | 2=>.int 1000
 | 3=>.cl "Shade"
 | 4=>.ty "int"
 | 5=>.ty "bool"
 | 6=>.ty "tuple"
 | 7=>.tup [.int 1,.int 1,.int 1]
 | 8=>.int 99
 | 9=>.tup [.int 1,.int 1000]
 | 10=>.tup [.int 1000,.int 1]
 | 11=>.ty "list"
 | 12=>.cl "Row"
 | 13=>.int (10^64)
 | 14=>.int 64
 | 15=>.ty "str"
 | _=>.non
noncomputable abbrev tcs:List J8:=["Row","Shade"]
noncomputable abbrev tfl:List (J8×Str):=[("Row","stations"),("Shade","ember"),("Shade","leaf"),("Shade","sky")]
noncomputable def T(y:PX):Tb:={S:=λf=>pkS y (nmS.idxOf f),gv:=λf=>pkG (nmG.idxOf f),cs:=tcs,fl:=tfl,fam:=λx f=>pkS x (nmS.idxOf f),xp:=y,xi:=[],fx:=[]}
theorem hPT:PT (T y):=by constructor<;>first|kernel_rfl|exact List.contains_iff_mem.mp (by kernel_rfl)
theorem hLT:LT (T y):=by constructor<;>first|kernel_rfl|exact List.contains_iff_mem.mp (by kernel_rfl)
theorem hPF:PF (T y):=by constructor<;>first|kernel_rfl|exact List.contains_iff_mem.mp (by kernel_rfl)
theorem rQ:L28 (T y):=by constructor<;>first|kernel_rfl|exact List.contains_iff_mem.mp (by kernel_rfl)
noncomputable def CY(a:Nat->Addr)(c:J8):Addr:=if c="Row" then a 61 else if c="Shade" then a 62 else 0
theorem aF:CY a "Row"=a 61:=by unfold CY;simp
theorem aO:CY a "Shade"=a 62:=by unfold CY;simp
structure Tx(K:W.Frag)(mg:Str->Option Value)(a:Nat->Addr)(d:Nat->Ja)(v:Nat->Value):Prop where
 qa:aQ K "_law_cell" "_law_cell" lD (.none) (a 0) (d 0)
 qb:mg "_law_cell"=some (.ref (a 0))
 qc:aQ K "_law_pick" "_law_pick" kX (.none) (a 1) (d 1)
 qd:mg "_law_pick"=some (.ref (a 1))
 qe:aQ K "_law_eye" "_law_eye" pE (.none) (a 2) (d 2)
 qf:mg "_law_eye"=some (.ref (a 2))
 qg:aQ K "common" "common" lX (.none) (a 3) (d 3)
 qh:mg "common"=some (.ref (a 3))
 qi:aQ K "lowest" "lowest" lQ (.none) (a 4) (d 4)
 qj:mg "lowest"=some (.ref (a 4))
 qk:aQ K "is_whole" "is_whole" gW (.none) (a 5) (d 5)
 ql:mg "is_whole"=some (.ref (a 5))
 qm:aQ K "is_fraction" "is_fraction" dW (.none) (a 6) (d 6)
 qo:mg "is_fraction"=some (.ref (a 6))
 qp:aQ K "is_share" "is_share" gG (.none) (a 7) (d 7)
 qq:mg "is_share"=some (.ref (a 7))
 qr:aQ K "__init__" "Shade.__init__" bZ (.none) (a 8) (d 8)
 qt:aQ K "shade_of" "shade_of" gQ (.none) (a 9) (d 9)
 qu:mg "shade_of"=some (.ref (a 9))
 qw:aQ K "is_shade" "is_shade" gX (.none) (a 10) (d 10)
 qx:mg "is_shade"=some (.ref (a 10))
 qy:aQ K "need_shade" "need_shade" eP (.none) (a 11) (d 11)
 qz:mg "need_shade"=some (.ref (a 11))
 qA:aQ K "shares_of" "shares_of" fJ (.none) (a 12) (d 12)
 qB:mg "shares_of"=some (.ref (a 12))
 qC:aQ K "part_way" "part_way" gA (.none) (a 13) (d 13)
 qD:mg "part_way"=some (.ref (a 13))
 qE:aQ K "is_eye" "is_eye" lJ (.none) (a 14) (d 14)
 qF:mg "is_eye"=some (.ref (a 14))
 qG:aQ K "eye_of" "eye_of" lH (.none) (a 15) (d 15)
 qH:mg "eye_of"=some (.ref (a 15))
 qI:aQ K "gap_between" "gap_between" dS (.none) (a 16) (d 16)
 qJ:mg "gap_between"=some (.ref (a 16))
 qK:aQ K "far" "far" CV (v 17) (a 17) (d 17)
 qL:∃(b:Addr) (oc:Value) (od:Option Addr) (n:Nat) (sl:Array (Option Value)) ,v 17= .ref b/\K.lookup b=some ⟨oc,od,.seq #[.none] n,sl⟩
 qM:mg "far"=some (.ref (a 17))
 qN:aQ K "less" "less" vQ (.none) (a 18) (d 18)
 qO:mg "less"=some (.ref (a 18))
 qP:aQ K "is_limit" "is_limit" fZ (.none) (a 19) (d 19)
 qQ:mg "is_limit"=some (.ref (a 19))
 qR:aQ K "need_limit" "need_limit" eN (.none) (a 20) (d 20)
 qS:mg "need_limit"=some (.ref (a 20))
 qT:aQ K "need_fractions" "need_fractions" bY (.none) (a 21) (d 21)
 qU:mg "need_fractions"=some (.ref (a 21))
 qV:aQ K "over" "over" vO (.none) (a 22) (d 22)
 qW:mg "over"=some (.ref (a 22))
 qX:aQ K "root_under" "root_under" eT (.none) (a 23) (d 23)
 qY:mg "root_under"=some (.ref (a 23))
 qZ:aQ K "root_above" "root_above" eQ (.none) (a 24) (d 24)
 qz1:mg "root_above"=some (.ref (a 24))
 qz2:aQ K "steps_between" "steps_between" cK (v 25) (a 25) (d 25)
 qz3:∃(b:Addr) (oc:Value) (od:Option Addr) (n:Nat) (sl:Array (Option Value)) ,v 25= .ref b/\K.lookup b=some ⟨oc,od,.seq #[.none] n,sl⟩
 qz4:mg "steps_between"=some (.ref (a 25))
 qz5:aQ K "__init__" "Row.__init__" cX (v 26) (a 26) (d 26)
 qz6:∃(b:Addr) (oc:Value) (od:Option Addr) (n:Nat) (sl:Array (Option Value)) ,v 26= .ref b/\K.lookup b=some ⟨oc,od,.seq #[.none] n,sl⟩
 qz7:aQ K "_law_below" "_law_below" iW (.none) (a 27) (d 27)
 qz8:mg "_law_below"=some (.ref (a 27))
 qz9:aQ K "_law_low" "_law_low" pD (.none) (a 28) (d 28)
 qz10:mg "_law_low"=some (.ref (a 28))
 qz11:aQ K "_law_minus" "_law_minus" jD (.none) (a 29) (d 29)
 qz12:mg "_law_minus"=some (.ref (a 29))
 qz13:aQ K "_law_plus" "_law_plus" lY (.none) (a 30) (d 30)
 qz14:mg "_law_plus"=some (.ref (a 30))
 qz15:aQ K "_law_times" "_law_times" iR (.none) (a 31) (d 31)
 qz16:mg "_law_times"=some (.ref (a 31))
 qz17:aQ K "_law_told" "_law_told" lO (.none) (a 32) (d 32)
 qz18:mg "_law_told"=some (.ref (a 32))
 qz19:aQ K "__eq__" "Shade.__eq__" cU (.none) (a 33) (d 33)
 qz20:cR K (a 62) "__eq__" (a 33)
 qz21:aQ K "__len__" "Row.__len__" dU (.none) (a 34) (d 34)
 qz22:cR K (a 61) "__len__" (a 34)
 qz23:aQ K "at" "Row.at" lV (.none) (a 35) (d 35)
 qz24:cR K (a 61) "at" (a 35)
 qz25:aQ K "_law_long_right" "_law_long_right" cY (.none) (a 36) (d 36)
 qz26:mg "_law_long_right"=some (.ref (a 36))
 qz27:aQ K "_law_made" "_law_made" lZ (.none) (a 37) (d 37)
 qz28:mg "_law_made"=some (.ref (a 37))
 qz29:aQ K "_law_steps" "_law_steps" iQ (.none) (a 38) (d 38)
 qz30:mg "_law_steps"=some (.ref (a 38))
 qz31:aQ K "_law_greatest_right" "_law_greatest_right" bK (.none) (a 39) (d 39)
 qz32:mg "_law_greatest_right"=some (.ref (a 39))
 qz33:aQ K "_law_purse" "_law_purse" iM (.none) (a 40) (d 40)
 qz34:mg "_law_purse"=some (.ref (a 40))
 qz35:aQ K "__eq__" "Row.__eq__" eM (.none) (a 41) (d 41)
 qz36:cR K (a 61) "__eq__" (a 41)
 qz37:aQ K "figures" "figures" iJ (.none) (a 42) (d 42)
 qz38:mg "figures"=some (.ref (a 42))
 qz39:aQ K "written" "written" jA (.none) (a 43) (d 43)
 qz40:mg "written"=some (.ref (a 43))
 qz41:aQ K "__str__" "Shade.__str__" cJ (.none) (a 44) (d 44)
 qz42:cR K (a 62) "__str__" (a 44)
 qz43:aQ K "__str__" "Row.__str__" dO (.none) (a 45) (d 45)
 qz44:cR K (a 61) "__str__" (a 45)
 qz45:aQ K "shades" "Row.shades" eV (.none) (a 46) (d 46)
 qz46:cR K (a 61) "shades" (a 46)
 qz47:aQ K "_law_alike_right" "_law_alike_right" cM (.none) (a 47) (d 47)
 qz48:mg "_law_alike_right"=some (.ref (a 47))
 qz49:aQ K "_law_due" "_law_due" rF (.none) (a 48) (d 48)
 qz50:mg "_law_due"=some (.ref (a 48))
 qz51:aQ K "_law_far" "_law_far" oW (.none) (a 49) (d 49)
 qz52:mg "_law_far"=some (.ref (a 49))
 qz53:aQ K "_law_over" "_law_over" kW (.none) (a 50) (d 50)
 qz54:mg "_law_over"=some (.ref (a 50))
 qz55:aQ K "_law_limit" "_law_limit" jG (.none) (a 51) (d 51)
 qz56:mg "_law_limit"=some (.ref (a 51))
 qz57:aQ K "_law_text" "_law_text" mB (.none) (a 52) (d 52)
 qz58:mg "_law_text"=some (.ref (a 52))
 qz59:aQ K "_law_shown" "_law_shown" jH (.none) (a 53) (d 53)
 qz60:mg "_law_shown"=some (.ref (a 53))
 qz61:aQ K "__repr__" "Row.__repr__" cV (.none) (a 54) (d 54)
 qz62:cR K (a 61) "__repr__" (a 54)
 qz63:aQ K "_law_row_right" "_law_row_right" dQ (.none) (a 55) (d 55)
 qz64:mg "_law_row_right"=some (.ref (a 55))
 qz65:aQ K "_law_whole" "_law_whole" jJ (.none) (a 56) (d 56)
 qz66:mg "_law_whole"=some (.ref (a 56))
 qz67:aQ K "_law_right" "_law_right" iO (.none) (a 57) (d 57)
 qz68:mg "_law_right"=some (.ref (a 57))
 qz69:aQ K "_law_share" "_law_share" jI (.none) (a 58) (d 58)
 qz70:mg "_law_share"=some (.ref (a 58))
 qz71:aQ K "_law_shares" "_law_shares" gY (.none) (a 59) (d 59)
 qz72:mg "_law_shares"=some (.ref (a 59))
 qz73:aQ K "law" "law" yN (.none) (a 60) (d 60)
 m_law:mg "law"=some (.ref (a 60))
 qz74:VP K (a 61)
 qz75:mg "Row"=some (.ref (a 61))
 qz76:Mk K (a 61) (a 26)
 qz77:NeC K (a 61)
 qz78:EqL K (a 61)
 qz79:EqD K (a 61) (a 62)
 qz80:∀n∈QO,W.kitOne K (.type n) (.ref (a 61))=some false
 qz81:∀n∈mS,W.kitOne K (.ref (a 61)) (.type n)=some false
 qz82:W.kitOne K (.ref (a 61)) (.ref (a 62))=some false
 qz83:eS K (a 61) "stations"
 qz84:VP K (a 62)
 qz85:mg "Shade"=some (.ref (a 62))
 qz86:Mk K (a 62) (a 8)
 qz87:NeC K (a 62)
 qz88:EqL K (a 62)
 qz89:EqD K (a 62) (a 61)
 qz90:∀n∈QO,W.kitOne K (.type n) (.ref (a 62))=some false
 qz91:∀n∈mS,W.kitOne K (.ref (a 62)) (.type n)=some false
 qz92:W.kitOne K (.ref (a 62)) (.ref (a 61))=some false
 qz93:eS K (a 62) "ember"
 qz94:eS K (a 62) "leaf"
 qz95:eS K (a 62) "sky"
 qz96:∃a t0 t1 t2 n sl,mg "EVEN_EYE"=some (.ref a)/\K.lookup a=some ⟨.type "tuple",none,.seq #[.int 1 t0,.int 1 t1,.int 1 t2] n,sl⟩
 qz97:∃a t0 t1 n sl,mg "LEAST_LIMIT"=some (.ref a)/\K.lookup a=some ⟨.type "tuple",none,.seq #[.int 1 t0,.int 1000 t1] n,sl⟩
 qz98:∃a t0 t1 n sl,mg "MOST_LIMIT"=some (.ref a)/\K.lookup a=some ⟨.type "tuple",none,.seq #[.int 1000 t0,.int 1 t1] n,sl⟩
 qz99:∃t,mg "MOST_OF_EYE"=some (.int 99 t)
 qz100:∃t,mg "PIECE"=some (.int 10000000000000000000000000000000000000000000000000000000000000000 t)
 qz101:∃t,mg "PIECE_FIGURES"=some (.int 64 t)
 nb:∀x∈bL,mg x=none
 nt:∀x∈tL,mg x=none
variable{P:J9}{w:World}{K:W.Frag}{mg:Str->Option Value}{base:Heap}{a:Nat->Addr}{d:Nat->Ja}{v:Nat->Value}{f0 z0:Hp}{y:PX}
theorem lnS{l:List Value}(h:l.length=n+1):∃a t,l=a::t/\t.length=n:=by
 cases l with
 | nil=>cases h
 | cons a t=>exact⟨a,t,rfl,Nat.succ.inj h⟩
theorem ln0{l:List Value}(h:l.length=0):l=[]:=List.eq_nil_of_length_eq_zero h
theorem ln1{l:List Value}(h:l.length=1):∃a,l=[a]:=by
 obtain⟨a,t,rfl,h2⟩:=lnS h;exact⟨a,by rw[ln0 h2]⟩
theorem ln2{l:List Value}(h:l.length=2):∃a b,l=[a,b]:=by
 obtain⟨a,t,rfl,h2⟩:=lnS h;obtain⟨b,rfl⟩:=ln1 h2;exact⟨a,b,rfl⟩
theorem ln3{l:List Value}(h:l.length=3):∃a b c,l=[a,b,c]:=by
 obtain⟨a,t,rfl,h2⟩:=lnS h;obtain⟨b,c,rfl⟩:=ln2 h2;exact⟨a,b,c,rfl⟩
theorem ln4{l:List Value}(h:l.length=4):∃a b c d,l=[a,b,c,d]:=by
 obtain⟨a,t,rfl,h2⟩:=lnS h;obtain⟨b,c,d,rfl⟩:=ln3 h2;exact⟨a,b,c,d,rfl⟩
theorem ln5{l:List Value}(h:l.length=5):∃a b c d e,l=[a,b,c,d,e]:=by
 obtain⟨a,t,rfl,h2⟩:=lnS h;obtain⟨b,c,d,e,rfl⟩:=ln4 h2;exact⟨a,b,c,d,e,rfl⟩
theorem ln6{l:List Value}(h:l.length=6):∃a b c d e f,l=[a,b,c,d,e,f]:=by
 obtain⟨a,t,rfl,h2⟩:=lnS h;obtain⟨b,c,d,e,f,rfl⟩:=ln5 h2;exact⟨a,b,c,d,e,f,rfl⟩
noncomputable abbrev Ew(K:W.Frag)(a:Nat->Addr)(f0 z0:Hp):Ev:={K:=K,cls:=CY a,f0:=f0,z0:=z0}
local macro_rules | `(tactic| walk_at "b2") => `(tactic| (intro _ _ _ _ _ _ _ us _ hl;obtain⟨_,_,z⟩ := ln2 hl;subst z;exact .of_eq rfl))
local macro_rules | `(tactic| walk_at "b1") => `(tactic| (intro _ _ _ _ _ _ _ us _ hl;obtain⟨_,z⟩ := ln1 hl;subst z;exact .of_eq rfl))
local macro_rules | `(tactic| walk_at "b4") => `(tactic| (intro _ _ _ _ _ _ _ us _ hl;obtain⟨_,_,_,_,z⟩ := ln4 hl;subst z;exact .of_eq rfl))
theorem jM(X:Tx K mg a d v):L2.aP K (d 8) ["self","ember","leaf","sky"] []:=X.qr.binds (by walk_at "b4")
local macro_rules | `(tactic| walk_at "b3") => `(tactic| (intro _ _ _ _ _ _ _ us _ hl;obtain⟨_,_,_,z⟩ := ln3 hl;subst z;exact .of_eq rfl))
theorem aIS(X:Tx K mg a d v):L2.aP K (d 17) ["shade","other","eye"] []:=by
 obtain⟨b,oc,od,n,sl,e,hb⟩:=X.qL;exact X.qK.binds λ_ _ _ _ _ _ _ us hK hl=>by obtain⟨_,_,_,rfl⟩:=ln3 hl;exact W.binds_K hK e hb rfl rfl rfl
theorem uC(X:Tx K mg a d v):L2.aP K (d 25) ["shade","other","limit","eye"] []:=by
 obtain⟨b,oc,od,n,sl,e,hb⟩:=X.qz3;exact X.qz2.binds λ_ _ _ _ _ _ _ us hK hl=>by obtain⟨_,_,_,_,rfl⟩:=ln4 hl;exact W.binds_K hK e hb rfl rfl rfl
theorem fY(X:Tx K mg a d v):L2.aP K (d 26) ["self","shade","other","limit","eye"] []:=by
 obtain⟨b,oc,od,n,sl,e,hb⟩:=X.qz6;exact X.qz5.binds λ_ _ _ _ _ _ _ us hK hl=>by obtain⟨_,_,_,_,_,rfl⟩:=ln5 hl;exact W.binds_K hK e hb rfl rfl rfl
theorem gO(X:Tx K mg a d v):L2.aP K (d 33) ["self","other"] []:=X.qz19.binds (by walk_at "b2")
theorem fG(X:Tx K mg a d v):L2.aP K (d 34) ["self"] []:=X.qz21.binds (by walk_at "b1")
local macro_rules | `(tactic| walk_at "b6") => `(tactic| (intro _ _ _ _ _ _ _ us _ hl;obtain⟨_,_,_,_,_,_,z⟩ := ln6 hl;subst z;exact .of_eq rfl))
theorem BF(X:Tx K mg a d v):L2.aP K (d 41) ["self","other"] []:=X.qz35.binds (by walk_at "b2")
theorem tU(X:Tx K mg a d v):L2.aP K (d 44) ["self"] []:=X.qz41.binds (by walk_at "b1")
theorem iC(X:Tx K mg a d v):L2.aP K (d 45) ["self"] []:=X.qz43.binds (by walk_at "b1")
theorem vX(X:Tx K mg a d v):L2.aP K (d 54) ["self"] []:=X.qz61.binds (by walk_at "b1")
local macro_rules | `(tactic| walk_at "b5") => `(tactic| (intro _ _ _ _ _ _ _ us _ hl;obtain⟨_,_,_,_,_,z⟩ := ln5 hl;subst z;exact .of_eq rfl))
local macro_rules | `(tactic| walk_at "bb") => `(tactic| first|walk_at "b2"|walk_at "b1"|walk_at "b4"|walk_at "b3"|walk_at "b6"|walk_at "b5")
theorem eZ(X:Tx K mg a d v):eL K (d 26) ["self","shade","other","limit","eye"] 1 ["limit","eye","other","shade"] [.arg 0,.arg 4,.arg 3,.arg 1,.arg 2]:=by
 obtain⟨b,oc,od,n,sl,e,hb⟩:=X.qz6;exact X.qz5.sh2 λ_ _ _ _ _ _ _ us ws hK hl hl2=>by obtain⟨_,rfl⟩:=ln1 hl;obtain⟨_,_,_,_,rfl⟩:=ln4 hl2;exact W.binds_K hK e hb rfl rfl rfl
theorem OZ(X:Tx K mg a d v):eL K (d 26) ["self","shade","other","limit","eye"] 4 [] [.arg 0,.arg 1,.arg 2,.arg 3,.non]:=by
 obtain⟨b,oc,od,n,sl,e,hb⟩:=X.qz6;exact X.qz5.sh2 λ_ _ _ _ _ _ _ us ws hK hl hl2=>by obtain⟨_,_,_,_,rfl⟩:=ln4 hl;obtain rfl:=ln0 hl2;exact W.binds_K hK e hb rfl rfl rfl
theorem cP(X:Tx K mg a d v):eL K (d 25) ["shade","other","limit","eye"] 0 ["eye","limit","other","shade"] [.arg 3,.arg 2,.arg 1,.arg 0]:=by
 obtain⟨b,oc,od,n,sl,e,hb⟩:=X.qz3;exact X.qz2.sh2 λ_ _ _ _ _ _ _ us ws hK hl hl2=>by obtain rfl:=ln0 hl;obtain⟨_,_,_,_,rfl⟩:=ln4 hl2;exact W.binds_K hK e hb rfl rfl rfl
theorem eY(X:Tx K mg a d v):eL K (d 25) ["shade","other","limit","eye"] 1 ["limit","other"] [.arg 0,.arg 2,.arg 1,.non]:=by
 obtain⟨b,oc,od,n,sl,e,hb⟩:=X.qz3;exact X.qz2.sh2 λ_ _ _ _ _ _ _ us ws hK hl hl2=>by obtain⟨_,rfl⟩:=ln1 hl;obtain⟨_,_,rfl⟩:=ln2 hl2;exact W.binds_K hK e hb rfl rfl rfl
theorem mV(X:Tx K mg a d v):eL K (d 25) ["shade","other","limit","eye"] 3 [] [.arg 0,.arg 1,.arg 2,.non]:=by
 obtain⟨b,oc,od,n,sl,e,hb⟩:=X.qz3;exact X.qz2.sh2 λ_ _ _ _ _ _ _ us ws hK hl hl2=>by obtain⟨_,_,_,rfl⟩:=ln3 hl;obtain rfl:=ln0 hl2;exact W.binds_K hK e hb rfl rfl rfl
theorem dD(X:Tx K mg a d v):eL K (d 35) ["self","place"] 2 [] [.arg 0,.arg 1]:=by
 exact X.qz23.sh2 λ_ _ _ _ _ _ _ us ws hK hl hl2=>by obtain⟨_,_,rfl⟩:=ln2 hl;obtain rfl:=ln0 hl2;exact .of_eq rfl
theorem dJ(X:Tx K mg a d v):eL K (d 46) ["self"] 1 [] [.arg 0]:=by
 exact X.qz45.sh2 λ_ _ _ _ _ _ _ us ws hK hl hl2=>by obtain⟨_,rfl⟩:=ln1 hl;obtain rfl:=ln0 hl2;exact .of_eq rfl
theorem hX(X:Tx K mg a d v):eL K (d 35) ["self","place"] 1 ["place"] [.arg 0,.arg 1]:=by
 exact X.qz23.sh2 λ_ _ _ _ _ _ _ us ws hK hl hl2=>by obtain⟨_,rfl⟩:=ln1 hl;obtain⟨_,rfl⟩:=ln1 hl2;exact .of_eq rfl
abbrev FO(P:J9)(w:World)(K:W.Frag)(mg:Str->Option Value)(base:Heap)(a:Nat->Addr)(d:Nat->Ja)(n i:Nat)(f0 z0:Hp)(y:PX)(ps:List Str)(x:Str):Prop:=FM P w K mg base (Ew K a f0 z0) (T y) n (a i) (d i) ps x
theorem ck(X:Tx K mg a d v):Ck K (Ew K a f0 z0) (T y):=by
 refine⟨rfl,⟨?_,?_,?_,?_⟩,?_⟩
 . exact ac (by rw[show(Ew K a f0 z0).cls "Row"=a 61 from aF];exact X.qz74) (ac (by rw[show(Ew K a f0 z0).cls "Shade"=a 62 from aO];exact X.qz84) (an))
 . exact ac (by rw[show(Ew K a f0 z0).cls "Row"=a 61 from aF];exact X.qz80) (ac (by rw[show(Ew K a f0 z0).cls "Shade"=a 62 from aO];exact X.qz90) (an))
 . exact ac (by rw[show(Ew K a f0 z0).cls "Row"=a 61 from aF];exact X.qz81) (ac (by rw[show(Ew K a f0 z0).cls "Shade"=a 62 from aO];exact X.qz91) (an))
 . exact ac (ac (λh=>absurd rfl h) (ac (λ_=>by rw[show(Ew K a f0 z0).cls "Row"=a 61 from aF,show(Ew K a f0 z0).cls "Shade"=a 62 from aO];exact X.qz82) (an))) (ac (ac (λ_=>by rw[show(Ew K a f0 z0).cls "Shade"=a 62 from aO,show(Ew K a f0 z0).cls "Row"=a 61 from aF];exact X.qz92) (ac (λh=>absurd rfl h) (an))) (an))
 . intro c f h;have key:∀p∈(T y).fl,Cls K ((Ew K a f0 z0).cls p.1)/\eS K ((Ew K a f0 z0).cls p.1) p.2:=ac (by dsimp only;rw[aF];exact⟨X.qz74.cl,X.qz83⟩) (ac (by dsimp only;rw[aO];exact⟨X.qz84.cl,X.qz93⟩) (ac (by dsimp only;rw[aO];exact⟨X.qz84.cl,X.qz94⟩) (ac (by dsimp only;rw[aO];exact⟨X.qz84.cl,X.qz95⟩) (an))));exact key (c,f) h
local macro_rules | `(tactic| walk_at "sl") => `(tactic| (intro xs G Q h;repeat (first|exact(congrArg List.length h.1).trans rfl|(obtain⟨_,h⟩ := h))))
theorem xo(X:Tx K mg a d v):Xo K mg (Ew K a f0 z0) (T y):=by
 exact Xo.no rfl rfl
theorem fkd{k:Nat}{C:Cfg}{x x0 qual:Str}{st:Stmt}{dV:Value}{f:Addr}{fd:Ja}{ps:List Str}{sp:Sp3}{code:CS}(X:Tx K mg a d v)(F:aQ K x0 qual st dV f fd)(bd:L2.aP K fd ps [])(hw:∀xs G Q,sp xs G Q->wpS (T y) code (aH Q) (aB C.N.length xs) G)(gf:Gf P w K mg base (Ew K a f0 z0) (T y) k C)(e:(T y).S x=sp:=by kernel_rfl)(D:XL st ps C:=by exact⟨⟨rfl,rfl,rfl,by decide +kernel,rfl,by decide +kernel,by decide +kernel⟩,rfl,rfl⟩)(hc:cSs 80 C (dG st)=some code:=by kernel_rfl)(hz:C.rz=false:=by rfl)(ht:C.tr=false:=by rfl)(hcm:C.cm=true->40<=k:=by exact λ_=>by decide)(hrp:C.rp=true->79<=k:=by exact λz=>by cases z)(len:∀xs G Q,sp xs G Q->xs.length=ps.length:=by walk_at "sl"):FM P w K mg base (Ew K a f0 z0) (T y) (k+2) f fd ps x :=
 ⟨by rw[e];exact aId F D (ck X) gf hc (xo X) (Tf.no ht) hz hcm hrp len hw,F.kp,bd⟩
theorem fk{k:Nat}{C:Cfg}{x x0 qual:Str}{st:Stmt}{dV:Value}{f:Addr}{fd:Ja}{ps:List Str}{sp:Sp3}{code:CS}(X:Tx K mg a d v)(F:aQ K x0 qual st dV f fd)(hw:∀xs G Q,sp xs G Q->wpS (T y) code (aH Q) (aB C.N.length xs) G)(gf:Gf P w K mg base (Ew K a f0 z0) (T y) k C)(e:(T y).S x=sp:=by kernel_rfl)(D:XL st ps C:=by exact⟨⟨rfl,rfl,rfl,by decide +kernel,rfl,by decide +kernel,by decide +kernel⟩,rfl,rfl⟩)(hc:cSs 80 C (dG st)=some code:=by kernel_rfl)(hz:C.rz=false:=by rfl)(ht:C.tr=false:=by rfl)(hcm:C.cm=true->40<=k:=by exact λ_=>by decide)(hrp:C.rp=true->79<=k:=by exact λz=>by cases z)(len:∀xs G Q,sp xs G Q->xs.length=ps.length:=by walk_at "sl")
   (hb:∀(kV doc pm:Value) (an:Option Addr) (cdv ct:Value) (s:J7) (us:List Value),K.In s.heap->us.length=ps.length->BindsTo s (W.fnOf x0 qual (fE st) (dG st) (bS st) dV kV doc pm an cdv ct) ⟨us,[]⟩ (ps.zip us):=by walk_at "bb"):FM P w K mg base (Ew K a f0 z0) (T y) (k+2) f fd ps x :=
 fkd X F (F.binds hb) hw gf e D hc hz ht hcm hrp len
theorem mG(X:Tx K mg a d v):∀x∈gL,∃u v,mg x=some u/\aN v u/\RP (Ew K a f0 z0) (λ_=>none) ((T y).gv x) v:=ac (by obtain⟨b,t0,t1,t2,n,sl,h,l⟩:=X.qz96;exact hU (aCv rfl h l) (by first|kernel_rfl|exact(show _=FQ _ by kernel_rfl).trans lL.symm)) (ac (by obtain⟨b,t0,t1,n,sl,h,l⟩:=X.qz97;exact hU (MR rfl h l) (by first|kernel_rfl|exact(show _=FQ _ by kernel_rfl).trans lL.symm)) (ac (by obtain⟨b,t0,t1,n,sl,h,l⟩:=X.qz98;exact hU (MR rfl h l) (by first|kernel_rfl|exact(show _=FQ _ by kernel_rfl).trans lL.symm)) (ac (by obtain⟨t,h⟩:=X.qz99;exact hU (IR h) (by kernel_rfl)) (ac (by obtain⟨t,h⟩:=X.qz100;exact hU (IR h) (by kernel_rfl)) (ac (by obtain⟨t,h⟩:=X.qz101;exact hU (IR h) (by kernel_rfl)) (ac (hU (RN (c:="Row") X.qz75 aF) (by kernel_rfl)) (ac (hU (RN (c:="Shade") X.qz85 aO) (by kernel_rfl)) (an))))))))
theorem mT(X:Tx K mg a d v):∀x∈tL,mg x=none/\(∃n,bootBuiltins x=some (.type n)/\(T y).gv x= .ty n)/\x≠"__name__":=λx h=>⟨X.nt x h,(ac (⟨⟨"bool",PyProof.Rows.boot_bool,by kernel_rfl⟩,by decide +kernel⟩) (ac (⟨⟨"int",PyProof.Rows.boot_int,by kernel_rfl⟩,by decide +kernel⟩) (ac (⟨⟨"list",PyProof.Rows.boot_list,by kernel_rfl⟩,by decide +kernel⟩) (ac (⟨⟨"str",PyProof.Rows.boot_str,by kernel_rfl⟩,by decide +kernel⟩) (ac (⟨⟨"tuple",PyProof.Rows.boot_tuple,by kernel_rfl⟩,by decide +kernel⟩) (an))))):∀x∈tL,(∃n,bootBuiltins x=some (.type n)/\(T y).gv x= .ty n)/\x≠"__name__") x h⟩
local macro_rules|`(tactic| walk_at "gg")=>`(tactic| first|exact an|exact λ_ _=>an|exact mG (by assumption)|exact mT (by assumption)|exact Tx.nb (by assumption))
theorem OX(X:Tx K mg a d v):FO P w K mg base a d 42 0 f0 z0 y ["_law_script","_law_k"] "_law_cell":=fk (C:=aAg) X X.qa (VZ ) {  }
theorem fW(X:Tx K mg a d v):FO P w K mg base a d 42 1 f0 z0 y ["_law_purse_here","_law_many"] "_law_pick":=fk (C:=YF) X X.qc (UL ) {  }
theorem UT(X:Tx K mg a d v):FO P w K mg base a d 44 2 f0 z0 y ["_law_purse_here"] "_law_eye":=fk (C:=aA3) X X.qe (aBU hLT) {fns:=ac ((fW X).g X.qd) (an)}
theorem yL(X:Tx K mg a d v):FO P w K mg base a d 42 3 f0 z0 y ["one","other"] "common":=fk (C:=WH) X X.qg (WQ hPT) {  }
theorem rP(X:Tx K mg a d v):FO P w K mg base a d 44 4 f0 z0 y ["top","bottom"] "lowest":=fk (C:=SN) X X.qi (TX hPT) {fns:=ac ((yL X).g X.qh) (an)}
theorem kZ(X:Tx K mg a d v):FO P w K mg base a d 42 5 f0 z0 y ["thing"] "is_whole":=fk (C:=GK) X X.qk (vM hPT) {  }
theorem gU(X:Tx K mg a d v):FO P w K mg base a d 44 6 f0 z0 y ["thing"] "is_fraction":=fk (C:=xT) X X.qm (xG hPT) {fns:=ac ((yL X).g X.qh) (ac ((kZ X).g X.ql) (an))}
theorem CI(X:Tx K mg a d v):FO P w K mg base a d 46 7 f0 z0 y ["thing"] "is_share":=fk (C:=JF) X X.qp (ID hPT) {fns:=ac ((gU X).g X.qo) (an)}
theorem hZ(X:Tx K mg a d v):FO P w K mg base a d 48 8 f0 z0 y ["self","ember","leaf","sky"] "Shade.__init__":=fk (C:=rR) X X.qr (rJ hPT) {fns:=ac ((CI X).g X.qq) (an)}
theorem CP(X:Tx K mg a d v):FO P w K mg base a d 50 9 f0 z0 y ["shares"] "shade_of":=fk (C:=HN) X X.qt (IM hPT) {mks:=ac (⟨"Shade","Shade.__init__",_,_,_,⟨by rw[show(Ew K a f0 z0).cls "Shade"=a 62 from aO];exact X.qz86,(hZ X).ok.mono ddq,by rw[show(Ew K a f0 z0).cls "Shade"=a 62 from aO];exact X.qz85,.inl (FP hPT),by decide +kernel⟩,jM X⟩) (an)}
theorem FE(X:Tx K mg a d v):FO P w K mg base a d 42 10 f0 z0 y ["thing"] "is_shade":=fk (C:=JB) X X.qw (HS hPT) {  }
theorem iH(X:Tx K mg a d v):FO P w K mg base a d 44 11 f0 z0 y ["thing"] "need_shade":=fk (C:=zC) X X.qy (AW hPT) {fns:=ac ((FE X).g X.qx) (an)}
theorem fU(X:Tx K mg a d v):FO P w K mg base a d 46 12 f0 z0 y ["shade"] "shares_of":=fk (C:=EQ) X X.qA (EW hPT) {fns:=ac ((iH X).g X.qz) (an)}
theorem DC(X:Tx K mg a d v):FO P w K mg base a d 52 13 f0 z0 y ["shade","other","part"] "part_way":=fk (C:=GU) X X.qC (FS hPT) {fns:=ac ((rP X).g X.qj) (ac ((CP X).g X.qu) (ac ((fU X).g X.qB) (an)))}
theorem NT(X:Tx K mg a d v):FO P w K mg base a d 44 14 f0 z0 y ["thing"] "is_eye":=fk (C:=WC) X X.qE (ZW hPT hPF) {fns:=ac ((kZ X).g X.ql) (an)}
theorem OT(X:Tx K mg a d v):FO P w K mg base a d 46 15 f0 z0 y ["eye"] "eye_of":=fk (C:=VS) X X.qG (SE hPT hPF) {fns:=ac ((NT X).g X.qF) (an)}
theorem vW(X:Tx K mg a d v):FO P w K mg base a d 48 16 f0 z0 y ["shade","other","eye"] "gap_between":=fk (C:=xA) X X.qI (xE hPT) {fns:=ac ((fU X).g X.qB) (an)}
theorem aGI(X:Tx K mg a d v):FO P w K mg base a d 50 17 f0 z0 y ["shade","other","eye"] "far":=fkd (C:=aKh) X X.qK (aIS X) (aKP hPT hPF) {fns:=ac ((OT X).g X.qH) (ac ((vW X).g X.qJ) (ac ((rP X).g X.qj) (ac ((iH X).g X.qz) (an))))}
theorem aCh(X:Tx K mg a d v):FO P w K mg base a d 42 18 f0 z0 y ["one","other"] "less":=fk (C:=aER) X X.qN (aFX ) {  }
theorem DF(X:Tx K mg a d v):FO P w K mg base a d 46 19 f0 z0 y ["thing"] "is_limit":=fk (C:=HC) X X.qP (GH hPT hPF) {fns:=ac ((gU X).g X.qo) (ac ((aCh X).g X.qO) (an))}
theorem xL(X:Tx K mg a d v):FO P w K mg base a d 48 20 f0 z0 y ["thing"] "need_limit":=fk (C:=zD) X X.qR (zA hPF) {fns:=ac ((DF X).g X.qQ) (an)}
theorem iA(X:Tx K mg a d v):FO P w K mg base a d 46 21 f0 z0 y ["things"] "need_fractions":=fk (C:=rS) X X.qT (rT hPT) {fns:=ac ((gU X).g X.qo) (an)}
theorem aBA(X:Tx K mg a d v):FO P w K mg base a d 48 22 f0 z0 y ["one","other"] "over":=fk (C:=aHK) X X.qV (aEm hPT) {fns:=ac ((rP X).g X.qj) (ac ((iA X).g X.qU) (an))}
theorem xI(X:Tx K mg a d v):FO P w K mg base a d 42 23 f0 z0 y ["number"] "root_under":=fk (C:=zK) X X.qX (AU ) {  }
theorem xO(X:Tx K mg a d v):FO P w K mg base a d 48 24 f0 z0 y ["one"] "root_above":=fk (C:=zN) X X.qZ (BS hPT hPF) {fns:=ac ((iA X).g X.qU) (ac ((xI X).g X.qY) (an))}
theorem bI(X:Tx K mg a d v):FO P w K mg base a d 52 25 f0 z0 y ["shade","other","limit","eye"] "steps_between":=fkd (C:=tX) X X.qz2 (uC X) (uH hPT hPF) {fns:=ac ((aGI X).g X.qM) (ac ((xL X).g X.qS) (ac ((iH X).g X.qz) (ac ((aBA X).g X.qW) (ac ((xO X).g X.qz1) (an)))))}
theorem dZ(X:Tx K mg a d v):FO P w K mg base a d 54 26 f0 z0 y ["self","shade","other","limit","eye"] "Row.__init__":=fkd (C:=wB) X X.qz5 (fY X) (wD hPT hPF) {fns:=ac ((DC X).g X.qD) (ac ((bI X).g X.qz4) (an))}
theorem nQ(X:Tx K mg a d v):FO P w K mg base a d 42 27 f0 z0 y ["_law_a","_law_b"] "_law_below":=fk (C:=QT) X X.qz7 (xY ) {  }
theorem fL(X:Tx K mg a d v):FO P w K mg base a d 42 28 f0 z0 y ["_law_top","_law_bottom"] "_law_low":=fk (C:=aAL) X X.qz9 (aBk ) {  }
theorem nY(X:Tx K mg a d v):FO P w K mg base a d 44 29 f0 z0 y ["_law_a","_law_b"] "_law_minus":=fk (C:=PM) X X.qz11 (NZ hLT) {fns:=ac ((fL X).g X.qz10) (an)}
theorem sG(X:Tx K mg a d v):FO P w K mg base a d 44 30 f0 z0 y ["_law_a","_law_b"] "_law_plus":=fk (C:=WE) X X.qz13 (SY hLT) {fns:=ac ((fL X).g X.qz10) (an)}
theorem gD(X:Tx K mg a d v):FO P w K mg base a d 44 31 f0 z0 y ["_law_a","_law_b"] "_law_times":=fk (C:=QJ) X X.qz15 (QK hLT) {fns:=ac ((fL X).g X.qz10) (an)}
theorem rK(X:Tx K mg a d v):FO P w K mg base a d 42 32 f0 z0 y ["_law_hue"] "_law_told":=fk (C:=XZ) X X.qz17 (UZ hPT) {  }
theorem fO(X:Tx K mg a d v):FO P w K mg base a d 48 33 f0 z0 y ["self","other"] "Shade.__eq__":=fk (C:=wE) X X.qz19 (rH hPT hPF) {fns:=ac ((fU X).g X.qB) (an)}
theorem eO(X:Tx K mg a d v):FO P w K mg base a d 42 34 f0 z0 y ["self"] "Row.__len__":=fk (C:=wZ) X X.qz21 (xK hPF) {  }
theorem eJ(X:Tx K mg a d v):FO P w K mg base a d 44 35 f0 z0 y ["self","place"] "Row.at":=fk (C:=TH) X X.qz23 (VM hPT hPF) {fns:=ac ((kZ X).g X.ql) (an)}
theorem tY(X:Tx K mg a d v):FO P w K mg base a d 50 36 f0 z0 y ["_law_hue","_law_goal","_law_one","_law_mate","_law_many","_law_row"] "_law_long_right":=fk (C:=vI) X X.qz25 (wT hLT hPF rQ) {fns:=ac ((fL X).g X.qz10) (ac ((nY X).g X.qz12) (ac ((sG X).g X.qz14) (ac ((gD X).g X.qz16) (ac ((rK X).g X.qz18) (an))))),eqs:=ac (⟨_,_,by rw[show(Ew K a f0 z0).cls "Shade"=a 62 from aO];exact X.qz20,(fO X).ok.mono ddq,gO X⟩) (an),ows:=ac (λb hb=>by rw[show sH.lookup ("len":Str)=some .len from by decide +kernel] at hb;cases hb;exact ac (⟨_,_,42,"__len__",by decide,rfl,by rw[show(Ew K a f0 z0).cls "Row"=a 61 from aF];exact X.qz77,by rw[show(Ew K a f0 z0).cls "Row"=a 61 from aF];exact X.qz22,(eO X).ok,fG X⟩) (an)) (an),mts:=ac (ac (by refine⟨_,_,_,?_,?_,dD X,.inl ((eJ X).ok.mono ddq)⟩<;>rw[show(Ew K a f0 z0).cls "Row"=a 61 from aF]<;>first|exact X.qz74.cl|exact X.qz24) (an)) (an),bmts:=ac (ac (by refine⟨_,_,_,?_,?_,dD X,(eJ X).ok.mono ddq⟩<;>rw[show(Ew K a f0 z0).cls "Row"=a 61 from aF]<;>first|exact X.qz74.cl|exact X.qz24) (an)) (an)}
theorem yR(X:Tx K mg a d v):FO P w K mg base a d 50 37 f0 z0 y ["_law_row"] "_law_made":=fk (C:=ZK) X X.qz27 (CH hPT) {mks:=ac (⟨"Shade","Shade.__init__",_,_,_,⟨by rw[show(Ew K a f0 z0).cls "Shade"=a 62 from aO];exact X.qz86,(hZ X).ok.mono ddq,by rw[show(Ew K a f0 z0).cls "Shade"=a 62 from aO];exact X.qz85,.inl (FP hPT),by decide +kernel⟩,jM X⟩) (an)}
theorem uY(X:Tx K mg a d v):FO P w K mg base a d 46 38 f0 z0 y ["_law_apart","_law_reach"] "_law_steps":=fk (C:=NU) X X.qz29 (QB hLT) {fns:=ac ((nQ X).g X.qz8) (ac ((gD X).g X.qz16) (an))}
theorem mW(X:Tx K mg a d v):FO P w K mg base a d 56 39 f0 z0 y ["_law_purse_here"] "_law_greatest_right":=fk (C:=nZ) X X.qz31 (nO hLT hPF rQ) {fns:=ac ((nQ X).g X.qz8) (ac ((tY X).g X.qz26) (ac ((fL X).g X.qz10) (ac ((yR X).g X.qz28) (ac ((fW X).g X.qd) (ac ((uY X).g X.qz30) (ac ((rK X).g X.qz18) (ac ((bI X).g X.qz4) (an)))))))),mks:=ac (⟨"Row","Row.__init__",_,_,_,⟨by rw[show(Ew K a f0 z0).cls "Row"=a 61 from aF];exact X.qz76,(dZ X).ok.mono ddq,by rw[show(Ew K a f0 z0).cls "Row"=a 61 from aF];exact X.qz75,.inl (zS hPF),by decide +kernel⟩,fY X⟩) (an)}
theorem GR(X:Tx K mg a d v):FO P w K mg base a d 42 40 f0 z0 y ["_law_cell_here"] "_law_purse":=fk (C:=QL) X X.qz33 (OQ ) {  }
theorem xQ(X:Tx K mg a d v):FO P w K mg base a d 50 41 f0 z0 y ["self","other"] "Row.__eq__":=fk (C:=BP) X X.qz35 (AG hPT hPF rQ) {eqs:=ac (⟨_,_,by rw[show(Ew K a f0 z0).cls "Shade"=a 62 from aO];exact X.qz20,(fO X).ok.mono ddq,gO X⟩) (an)}
theorem IP(X:Tx K mg a d v):FO P w K mg base a d 42 42 f0 z0 y ["number"] "figures":=fk (C:=QG) X X.qz37 (PC rQ) {  }
theorem IE(X:Tx K mg a d v):FO P w K mg base a d 44 43 f0 z0 y ["one"] "written":=fk (C:=QD) X X.qz39 (QA rQ) {fns:=ac ((IP X).g X.qz38) (an)}
theorem rV(X:Tx K mg a d v):FO P w K mg base a d 48 44 f0 z0 y ["self"] "Shade.__str__":=fk (C:=uE) X X.qz41 (uF hPT rQ) {fns:=ac ((fU X).g X.qB) (ac ((IE X).g X.qz40) (an))}
theorem gI(X:Tx K mg a d v):FO P w K mg base a d 52 45 f0 z0 y ["self"] "Row.__str__":=fk (C:=xH) X X.qz43 (xN hPF rQ) {ows:=ac (λb hb=>by rw[show sH.lookup ("str":Str)=some .str from by decide +kernel] at hb;cases hb;exact ac (⟨_,_,48,"__str__",by decide,rfl,by rw[show(Ew K a f0 z0).cls "Shade"=a 62 from aO];exact X.qz87,by rw[show(Ew K a f0 z0).cls "Shade"=a 62 from aO];exact X.qz42,(rV X).ok,tU X⟩) (an)) (an)}
theorem fB(X:Tx K mg a d v):FO P w K mg base a d 42 46 f0 z0 y ["self"] "Row.shades":=fk (C:=BR) X X.qz45 (tV hPF) {  }
theorem rY(X:Tx K mg a d v):FO P w K mg base a d 56 47 f0 z0 y ["_law_row","_law_due_here","_law_others"] "_law_alike_right":=fk (C:=uI) X X.qz47 (uJ hPT hPF rQ) {ows:=ac (λb hb=>by rw[show sH.lookup ("str":Str)=some .str from by decide +kernel] at hb;cases hb;exact ac (⟨_,_,52,"__str__",by decide,rfl,by rw[show(Ew K a f0 z0).cls "Row"=a 61 from aF];exact X.qz77,by rw[show(Ew K a f0 z0).cls "Row"=a 61 from aF];exact X.qz44,(gI X).ok,iC X⟩) (an)) (an),exs:=ac (⟨_,_,by rw[show(Ew K a f0 z0).cls "Row"=a 61 from aF];exact X.qz77,by rw[show(Ew K a f0 z0).cls "Row"=a 61 from aF];exact X.qz36,(xQ X).ok.mono ddq,BF X,by rw[show(Ew K a f0 z0).cls "Row"=a 61 from aF];exact X.qz78,ac (λh=>absurd rfl h) (ac (λ_=>by rw[show(Ew K a f0 z0).cls "Row"=a 61 from aF,show(Ew K a f0 z0).cls "Shade"=a 62 from aO];exact X.qz79) (an))⟩) (ac (⟨_,_,by rw[show(Ew K a f0 z0).cls "Shade"=a 62 from aO];exact X.qz87,by rw[show(Ew K a f0 z0).cls "Shade"=a 62 from aO];exact X.qz20,(fO X).ok.mono ddq,gO X,by rw[show(Ew K a f0 z0).cls "Shade"=a 62 from aO];exact X.qz88,ac (λ_=>by rw[show(Ew K a f0 z0).cls "Shade"=a 62 from aO,show(Ew K a f0 z0).cls "Row"=a 61 from aF];exact X.qz89) (ac (λh=>absurd rfl h) (an))⟩) (an)),mts:=ac (ac (by refine⟨_,_,_,?_,?_,dD X,.inl ((eJ X).ok.mono ddq)⟩<;>rw[show(Ew K a f0 z0).cls "Row"=a 61 from aF]<;>first|exact X.qz74.cl|exact X.qz24) (an)) (ac (ac (by refine⟨_,_,_,?_,?_,dJ X,.inl ((fB X).ok.mono ddq)⟩<;>rw[show(Ew K a f0 z0).cls "Row"=a 61 from aF]<;>first|exact X.qz74.cl|exact X.qz46) (an)) (an)),bmts:=ac (ac (by refine⟨_,_,_,?_,?_,dD X,(eJ X).ok.mono ddq⟩<;>rw[show(Ew K a f0 z0).cls "Row"=a 61 from aF]<;>first|exact X.qz74.cl|exact X.qz24) (an)) (ac (ac (by refine⟨_,_,_,?_,?_,dJ X,(fB X).ok.mono ddq⟩<;>rw[show(Ew K a f0 z0).cls "Row"=a 61 from aF]<;>first|exact X.qz74.cl|exact X.qz46) (an)) (an))}
theorem YQ(X:Tx K mg a d v):FO P w K mg base a d 46 48 f0 z0 y ["_law_one","_law_mate","_law_many"] "_law_due":=fk (C:=aBH) X X.qz49 (aAz hLT) {fns:=ac ((fL X).g X.qz10) (ac ((nY X).g X.qz12) (ac ((sG X).g X.qz14) (ac ((gD X).g X.qz16) (an))))}
theorem UB(X:Tx K mg a d v):FO P w K mg base a d 46 49 f0 z0 y ["_law_one","_law_mate","_law_seer"] "_law_far":=fk (C:=aCN) X X.qz51 (aCy hLT) {fns:=ac ((nY X).g X.qz12) (ac ((sG X).g X.qz14) (ac ((gD X).g X.qz16) (an)))}
theorem PP(X:Tx K mg a d v):FO P w K mg base a d 44 50 f0 z0 y ["_law_a","_law_b"] "_law_over":=fk (C:=XS) X X.qz53 (UD hLT) {fns:=ac ((fL X).g X.qz10) (an)}
theorem HQ(X:Tx K mg a d v):FO P w K mg base a d 46 51 f0 z0 y ["_law_purse_here","_law_apart"] "_law_limit":=fk (C:=OO) X X.qz55 (QF hLT) {fns:=ac ((nQ X).g X.qz8) (ac ((PP X).g X.qz54) (ac ((fW X).g X.qd) (ac ((gD X).g X.qz16) (an))))}
theorem NH(X:Tx K mg a d v):FO P w K mg base a d 42 52 f0 z0 y ["_law_a"] "_law_text":=fk (C:=VL) X X.qz57 (TK ) {  }
theorem JP(X:Tx K mg a d v):FO P w K mg base a d 44 53 f0 z0 y ["_law_rows"] "_law_shown":=fk (C:=OU) X X.qz59 (NS rQ) {fns:=ac ((NH X).g X.qz58) (an)}
theorem uG(X:Tx K mg a d v):FO P w K mg base a d 56 54 f0 z0 y ["self"] "Row.__repr__":=fk (C:=vC) X X.qz61 (wU rQ) {ows:=ac (λb hb=>by rw[show sH.lookup ("str":Str)=some .str from by decide +kernel] at hb;cases hb;exact ac (⟨_,_,52,"__str__",by decide,rfl,by rw[show(Ew K a f0 z0).cls "Row"=a 61 from aF];exact X.qz77,by rw[show(Ew K a f0 z0).cls "Row"=a 61 from aF];exact X.qz44,(gI X).ok,iC X⟩) (an)) (an)}
theorem uR(X:Tx K mg a d v):FO P w K mg base a d 60 55 f0 z0 y ["_law_row","_law_due_here"] "_law_row_right":=fk (C:=xP) X X.qz63 (xJ hPF rQ) {fns:=ac ((JP X).g X.qz60) (ac ((rK X).g X.qz18) (an)),lns:=ac (⟨_,_,by rw[show(Ew K a f0 z0).cls "Row"=a 61 from aF];exact X.qz77,by rw[show(Ew K a f0 z0).cls "Row"=a 61 from aF];exact X.qz22,(eO X).ok.mono ddq,fG X⟩) (an),ows:=ac (λb hb=>by rw[show sH.lookup ("len":Str)=some .len from by decide +kernel] at hb;cases hb;exact ac (⟨_,_,42,"__len__",by decide,rfl,by rw[show(Ew K a f0 z0).cls "Row"=a 61 from aF];exact X.qz77,by rw[show(Ew K a f0 z0).cls "Row"=a 61 from aF];exact X.qz22,(eO X).ok,fG X⟩) (an)) (ac (λb hb=>by rw[show sH.lookup ("str":Str)=some .str from by decide +kernel] at hb;cases hb;exact ac (⟨_,_,52,"__str__",by decide,rfl,by rw[show(Ew K a f0 z0).cls "Row"=a 61 from aF];exact X.qz77,by rw[show(Ew K a f0 z0).cls "Row"=a 61 from aF];exact X.qz44,(gI X).ok,iC X⟩) (an)) (ac (λb hb=>by rw[show sH.lookup ("repr":Str)=some .repr from by decide +kernel] at hb;cases hb;exact ac (⟨_,_,56,"__repr__",by decide,rfl,by rw[show(Ew K a f0 z0).cls "Row"=a 61 from aF];exact X.qz77,by rw[show(Ew K a f0 z0).cls "Row"=a 61 from aF];exact X.qz62,(uG X).ok,vX X⟩) (an)) (ac (λb hb=>by rw[show sH.lookup ("bool":Str)=some .bool from by decide +kernel] at hb;cases hb;exact ac (⟨_,_,42,"__len__",by decide,rfl,by rw[show(Ew K a f0 z0).cls "Row"=a 61 from aF];exact X.qz77,by rw[show(Ew K a f0 z0).cls "Row"=a 61 from aF];exact X.qz22,(eO X).ok,fG X⟩) (an)) (an)))),mts:=ac (ac (by refine⟨_,_,_,?_,?_,hX X,.inl ((eJ X).ok.mono ddq)⟩<;>rw[show(Ew K a f0 z0).cls "Row"=a 61 from aF]<;>first|exact X.qz74.cl|exact X.qz24) (an)) (ac (ac (by refine⟨_,_,_,?_,?_,dD X,.inl ((eJ X).ok.mono ddq)⟩<;>rw[show(Ew K a f0 z0).cls "Row"=a 61 from aF]<;>first|exact X.qz74.cl|exact X.qz24) (an)) (ac (ac (by refine⟨_,_,_,?_,?_,dJ X,.inl ((fB X).ok.mono ddq)⟩<;>rw[show(Ew K a f0 z0).cls "Row"=a 61 from aF]<;>first|exact X.qz74.cl|exact X.qz46) (an)) (an))),bmts:=ac (ac (by refine⟨_,_,_,?_,?_,hX X,(eJ X).ok.mono ddq⟩<;>rw[show(Ew K a f0 z0).cls "Row"=a 61 from aF]<;>first|exact X.qz74.cl|exact X.qz24) (an)) (ac (ac (by refine⟨_,_,_,?_,?_,dD X,(eJ X).ok.mono ddq⟩<;>rw[show(Ew K a f0 z0).cls "Row"=a 61 from aF]<;>first|exact X.qz74.cl|exact X.qz24) (an)) (ac (ac (by refine⟨_,_,_,?_,?_,dJ X,(fB X).ok.mono ddq⟩<;>rw[show(Ew K a f0 z0).cls "Row"=a 61 from aF]<;>first|exact X.qz74.cl|exact X.qz46) (an)) (an)))}
theorem GD(X:Tx K mg a d v):FO P w K mg base a d 42 56 f0 z0 y ["_law_thing"] "_law_whole":=fk (C:=NM) X X.qz65 (OW hPT) {  }
theorem GQ(X:Tx K mg a d v):FO P w K mg base a d 62 57 f0 z0 y ["_law_purse_here","_law_one","_law_mate","_law_third","_law_seer"] "_law_right":=fk (C:=PH) X X.qz67 (zT hLT hPF rQ) {fns:=ac ((rY X).g X.qz48) (ac ((YQ X).g X.qz50) (ac ((UB X).g X.qz52) (ac ((HQ X).g X.qz56) (ac ((yR X).g X.qz28) (ac ((uR X).g X.qz64) (ac ((uY X).g X.qz30) (ac ((GD X).g X.qz66) (ac ((bI X).g X.qz4) (an))))))))),mks:=ac (⟨"Row","Row.__init__",_,_,_,⟨by rw[show(Ew K a f0 z0).cls "Row"=a 61 from aF];exact X.qz76,(dZ X).ok.mono ddq,by rw[show(Ew K a f0 z0).cls "Row"=a 61 from aF];exact X.qz75,.inl (zS hPF),by decide +kernel⟩,fY X⟩) (an),shs:=ac ((bI X).s X.qz4 (cP X)) (ac ((bI X).s X.qz4 (eY X)) (ac ((bI X).s X.qz4 (mV X)) (an))),mkk:=ac (⟨"Row","Row.__init__",_,_,_,⟨by rw[show(Ew K a f0 z0).cls "Row"=a 61 from aF];exact X.qz76,(dZ X).ok.mono ddq,by rw[show(Ew K a f0 z0).cls "Row"=a 61 from aF];exact X.qz75,.inl (zS hPF),by decide +kernel⟩,eZ X⟩) (an),mkp:=ac (⟨"Row","Row.__init__",_,_,_,⟨by rw[show(Ew K a f0 z0).cls "Row"=a 61 from aF];exact X.qz76,(dZ X).ok.mono ddq,by rw[show(Ew K a f0 z0).cls "Row"=a 61 from aF];exact X.qz75,.inl (zS hPF),by decide +kernel⟩,OZ X⟩) (an)}
theorem IW(X:Tx K mg a d v):FO P w K mg base a d 44 58 f0 z0 y ["_law_purse_here"] "_law_share":=fk (C:=OS) X X.qz69 (OA hLT) {fns:=ac ((fL X).g X.qz10) (ac ((fW X).g X.qd) (an))}
theorem CD(X:Tx K mg a d v):FO P w K mg base a d 46 59 f0 z0 y ["_law_purse_here"] "_law_shares":=fk (C:=HG) X X.qz71 (IY hLT) {fns:=ac ((fW X).g X.qd) (ac ((IW X).g X.qz70) (an))}
theorem aES(X:Tx K mg a d v):FO P w K mg base a d 64 60 f0 z0 y ["_law_script"] "law":=fk (C:=aI8) X X.qz73 (aJr hLT rQ) {fns:=ac ((OX X).g X.qb) (ac ((UT X).g X.qf) (ac ((mW X).g X.qz32) (ac ((fW X).g X.qd) (ac ((GR X).g X.qz34) (ac ((GQ X).g X.qz68) (ac ((CD X).g X.qz72) (an)))))))}
local macro_rules | `(tactic| walk_at "fm") => `(tactic| (refine aCj (oc := .type "function") (od := none) (osl := #[]) ?_ ?_ ?_<;>kernel_rfl))
noncomputable def aA(i:Nat):Addr:=([405,419,492,136,150,129,143,206,220,279,258,265,272,330,287,294,301,309,171,316,323,157,164,178,185,338,351,468,433,447,440,454,513,227,379,358,552,506,520,559,412,372,192,199,237,384,365,547,532,499,461,527,475,537,391,542,426,564,482,487,569,394,247]:List Addr).getD i 0
noncomputable def dA(i:Nat):Ja:=([fX "_law_cell" "_law_cell" lD .none zS0 (.ref 404),fX "_law_pick" "_law_pick" kX .none zS0 (.ref 418),fX "_law_eye" "_law_eye" pE .none zS0 (.ref 491),fX "common" "common" lX .none zS2 (.ref 135),fX "lowest" "lowest" lQ .none zS2 (.ref 149),fX "is_whole" "is_whole" gW .none zS2 (.ref 128),fX "is_fraction" "is_fraction" dW .none zS2 (.ref 142),fX "is_share" "is_share" gG .none zS3 (.ref 205),fX "__init__" "Shade.__init__" bZ .none zS3 (.ref 219),fX "shade_of" "shade_of" gQ .none zS3 (.ref 278),fX "is_shade" "is_shade" gX .none zS3 (.ref 257),fX "need_shade" "need_shade" eP .none zS3 (.ref 264),fX "shares_of" "shares_of" fJ .none zS3 (.ref 271),fX "part_way" "part_way" gA .none zS4 (.ref 329),fX "is_eye" "is_eye" lJ .none zS5 (.ref 286),fX "eye_of" "eye_of" lH .none zS5 (.ref 293),fX "gap_between" "gap_between" dS .none zS5 (.ref 300),fX "far" "far" CV (.ref 302) zS5 (.ref 308),fX "less" "less" vQ .none zS2 (.ref 170),fX "is_limit" "is_limit" fZ .none zS5 (.ref 315),fX "need_limit" "need_limit" eN .none zS5 (.ref 322),fX "need_fractions" "need_fractions" bY .none zS2 (.ref 156),fX "over" "over" vO .none zS2 (.ref 163),fX "root_under" "root_under" eT .none zS2 (.ref 177),fX "root_above" "root_above" eQ .none zS2 (.ref 184),fX "steps_between" "steps_between" cK (.ref 331) zS4 (.ref 337),fX "__init__" "Row.__init__" cX (.ref 346) zS4 (.ref 350),fX "_law_below" "_law_below" iW .none zS0 (.ref 467),fX "_law_low" "_law_low" pD .none zS0 (.ref 432),fX "_law_minus" "_law_minus" jD .none zS0 (.ref 446),fX "_law_plus" "_law_plus" lY .none zS0 (.ref 439),fX "_law_times" "_law_times" iR .none zS0 (.ref 453),fX "_law_told" "_law_told" lO .none zS0 (.ref 512),fX "__eq__" "Shade.__eq__" cU .none zS3 (.ref 226),fX "__len__" "Row.__len__" dU .none zS4 (.ref 378),fX "at" "Row.at" lV .none zS4 (.ref 357),fX "_law_long_right" "_law_long_right" cY .none zS0 (.ref 551),fX "_law_made" "_law_made" lZ .none zS0 (.ref 505),fX "_law_steps" "_law_steps" iQ .none zS0 (.ref 519),fX "_law_greatest_right" "_law_greatest_right" bK .none zS0 (.ref 558),fX "_law_purse" "_law_purse" iM .none zS0 (.ref 411),fX "__eq__" "Row.__eq__" eM .none zS4 (.ref 371),fX "figures" "figures" iJ .none zS2 (.ref 191),fX "written" "written" jA .none zS2 (.ref 198),fX "__str__" "Shade.__str__" cJ .none zS3 (.ref 236),fX "__str__" "Row.__str__" dO .none zS4 (.ref 383),fX "shades" "Row.shades" eV .none zS4 (.ref 364),fX "_law_alike_right" "_law_alike_right" cM .none zS0 (.ref 546),fX "_law_due" "_law_due" rF .none zS0 (.ref 531),fX "_law_far" "_law_far" oW .none zS0 (.ref 498),fX "_law_over" "_law_over" kW .none zS0 (.ref 460),fX "_law_limit" "_law_limit" jG .none zS0 (.ref 526),fX "_law_text" "_law_text" mB .none zS0 (.ref 474),fX "_law_shown" "_law_shown" jH .none zS0 (.ref 536),fX "__repr__" "Row.__repr__" cV .none zS4 (.ref 390),fX "_law_row_right" "_law_row_right" dQ .none zS0 (.ref 541),fX "_law_whole" "_law_whole" jJ .none zS0 (.ref 425),fX "_law_right" "_law_right" iO .none zS0 (.ref 563),fX "_law_share" "_law_share" jI .none zS0 (.ref 481),fX "_law_shares" "_law_shares" gY .none zS0 (.ref 486),fX "law" "law" yN .none zS0 (.ref 568)]:List Ja).getD i (fX "law" "law" yN .none zS0 (.ref 568))
noncomputable def vA(i:Nat):Value:=([.none,.none,.none,.none,.none,.none,.none,.none,.none,.none,.none,.none,.none,.none,.none,.none,.none,(.ref 302),.none,.none,.none,.none,.none,.none,.none,(.ref 331),(.ref 346),.none,.none,.none,.none,.none,.none,.none,.none,.none,.none,.none,.none,.none,.none,.none,.none,.none,.none,.none,.none,.none,.none,.none,.none,.none,.none,.none,.none,.none,.none,.none,.none,.none,.none]:List Value).getD i .none
theorem tx(X:(K0 w.params).In h)(G:h.Ns mainGlobals mg):Tx (K0 w.params) mg aA dA vA:=by
 refine⟨by walk_at "fm",
    W.mg_of X G ?_,
    by walk_at "fm",
    W.mg_of X G ?_,
    by walk_at "fm",
    W.mg_of X G ?_,
    by walk_at "fm",
    W.mg_of X G ?_,
    by walk_at "fm",
    W.mg_of X G ?_,
    by walk_at "fm",
    W.mg_of X G ?_,
    by walk_at "fm",
    W.mg_of X G ?_,
    by walk_at "fm",
    W.mg_of X G ?_,
    by walk_at "fm",
    by walk_at "fm",
    W.mg_of X G ?_,
    by walk_at "fm",
    W.mg_of X G ?_,
    by walk_at "fm",
    W.mg_of X G ?_,
    by walk_at "fm",
    W.mg_of X G ?_,
    by walk_at "fm",
    W.mg_of X G ?_,
    by walk_at "fm",
    W.mg_of X G ?_,
    by walk_at "fm",
    W.mg_of X G ?_,
    by walk_at "fm",
    W.mg_of X G ?_,
    by walk_at "fm",
    ⟨302,(.type "tuple"),none,0,#[],rfl,?_⟩,
    W.mg_of X G ?_,
    by walk_at "fm",
    W.mg_of X G ?_,
    by walk_at "fm",
    W.mg_of X G ?_,
    by walk_at "fm",
    W.mg_of X G ?_,
    by walk_at "fm",
    W.mg_of X G ?_,
    by walk_at "fm",
    W.mg_of X G ?_,
    by walk_at "fm",
    W.mg_of X G ?_,
    by walk_at "fm",
    W.mg_of X G ?_,
    by walk_at "fm",
    ⟨331,(.type "tuple"),none,0,#[],rfl,?_⟩,
    W.mg_of X G ?_,
    by walk_at "fm",
    ⟨346,(.type "tuple"),none,0,#[],rfl,?_⟩,
    by walk_at "fm",
    W.mg_of X G ?_,
    by walk_at "fm",
    W.mg_of X G ?_,
    by walk_at "fm",
    W.mg_of X G ?_,
    by walk_at "fm",
    W.mg_of X G ?_,
    by walk_at "fm",
    W.mg_of X G ?_,
    by walk_at "fm",
    W.mg_of X G ?_,
    by walk_at "fm",
    ⟨?_,?_,?_⟩,
    by walk_at "fm",
    ⟨?_,?_,?_⟩,
    by walk_at "fm",
    ⟨?_,?_,?_⟩,
    by walk_at "fm",
    W.mg_of X G ?_,
    by walk_at "fm",
    W.mg_of X G ?_,
    by walk_at "fm",
    W.mg_of X G ?_,
    by walk_at "fm",
    W.mg_of X G ?_,
    by walk_at "fm",
    W.mg_of X G ?_,
    by walk_at "fm",
    ⟨?_,?_,?_⟩,
    by walk_at "fm",
    W.mg_of X G ?_,
    by walk_at "fm",
    W.mg_of X G ?_,
    by walk_at "fm",
    ⟨?_,?_,?_⟩,
    by walk_at "fm",
    ⟨?_,?_,?_⟩,
    by walk_at "fm",
    ⟨?_,?_,?_⟩,
    by walk_at "fm",
    W.mg_of X G ?_,
    by walk_at "fm",
    W.mg_of X G ?_,
    by walk_at "fm",
    W.mg_of X G ?_,
    by walk_at "fm",
    W.mg_of X G ?_,
    by walk_at "fm",
    W.mg_of X G ?_,
    by walk_at "fm",
    W.mg_of X G ?_,
    by walk_at "fm",
    W.mg_of X G ?_,
    by walk_at "fm",
    ⟨?_,?_,?_⟩,
    by walk_at "fm",
    W.mg_of X G ?_,
    by walk_at "fm",
    W.mg_of X G ?_,
    by walk_at "fm",
    W.mg_of X G ?_,
    by walk_at "fm",
    W.mg_of X G ?_,
    by walk_at "fm",
    W.mg_of X G ?_,
    by walk_at "fm",
    W.mg_of X G ?_,
    ⟨⟨?_,?_,?_,?_⟩,?_,?_,?_,?_⟩,
    W.mg_of X G ?_,
    ⟨?_,?_,?_,?_⟩,
    ⟨?_,?_,?_⟩,
    ⟨ac (?_) (ac (?_) (ac (?_) (ac (?_) (ac (?_) (ac (?_) (ac (?_) (an))))))),ac (?_) (ac (?_) (ac (?_) (ac (?_) (ac (?_) (ac (?_) (ac (?_) (an)))))))⟩,
    ⟨by decide +kernel,?_,?_⟩,
    ac (?_) (ac (?_) (ac (?_) (ac (?_) (ac (?_) (ac (?_) (ac (?_) (an))))))),
    ac (?_) (ac (?_) (ac (?_) (ac (?_) (ac (?_) (ac (?_) (an)))))),
    ?_,
    ?_,
    ⟨⟨?_,?_,?_,?_⟩,?_,?_,?_,?_⟩,
    W.mg_of X G ?_,
    ⟨?_,?_,?_,?_⟩,
    ⟨?_,?_,?_⟩,
    ⟨ac (?_) (ac (?_) (ac (?_) (ac (?_) (ac (?_) (ac (?_) (ac (?_) (an))))))),ac (?_) (ac (?_) (ac (?_) (ac (?_) (ac (?_) (ac (?_) (ac (?_) (an)))))))⟩,
    ⟨by decide +kernel,?_,?_⟩,
    ac (?_) (ac (?_) (ac (?_) (ac (?_) (ac (?_) (ac (?_) (ac (?_) (an))))))),
    ac (?_) (ac (?_) (ac (?_) (ac (?_) (ac (?_) (ac (?_) (an)))))),
    ?_,
    ?_,
    ?_,
    ?_,
    ⟨280,538,539,540,0,#[],W.mg_of X G ?_,?_⟩,
    ⟨281,544,545,0,#[],W.mg_of X G ?_,?_⟩,
    ⟨282,547,548,0,#[],W.mg_of X G ?_,?_⟩,
    ⟨542,W.mg_of X G ?_⟩,
    ⟨338,W.mg_of X G ?_⟩,
    ⟨334,W.mg_of X G ?_⟩,
    ac (W.mg_none_of X G ?_) (ac (W.mg_none_of X G ?_) (ac (W.mg_none_of X G ?_) (ac (W.mg_none_of X G ?_) (ac (W.mg_none_of X G ?_) (ac (W.mg_none_of X G ?_) (ac (W.mg_none_of X G ?_) (ac (W.mg_none_of X G ?_) (ac (W.mg_none_of X G ?_) (ac (W.mg_none_of X G ?_) (ac (W.mg_none_of X G ?_) (ac (W.mg_none_of X G ?_) (ac (W.mg_none_of X G ?_) (ac (W.mg_none_of X G ?_) (ac (W.mg_none_of X G ?_) (ac (W.mg_none_of X G ?_) (ac (W.mg_none_of X G ?_) (an))))))))))))))))),
    ac (W.mg_none_of X G ?_) (ac (W.mg_none_of X G ?_) (ac (W.mg_none_of X G ?_) (ac (W.mg_none_of X G ?_) (ac (W.mg_none_of X G ?_) (an)))))⟩
 all_goals first|kernel_rfl|(unfold eS;kernel_rfl)
theorem fin{l:W.OpenLaw}{w:World}{h:Heap}(X:(K0 w.params).In h)(G:h.Ns mainGlobals mg)(hfa:mg "law"=some (.ref fa)):∃fd:Ja,(∀(s:J7) (v:Value),BindsTo s fd ⟨[v],[]⟩ [("_law_script",v)])/\∀base:Heap,(K0 w.params).In base->base.Ns mainGlobals mg->aW l.prog w (K0 w.params) mg base CX0 64 fa fd ["_law_script"] (MC (K0 w.params)):=by
 have T:=tx X G;have e:=hfa.symm.trans T.m_law;obtain rfl:fa=aA 60:=by injection e with e;injection e
 refine⟨dA 60,λs v=>.of_eq rfl,λbase _ _=>?_⟩;have ok:=(aES (P:=l.prog) (w:=w) (base:=base) (f0:=λ_=>none) (z0:=λ_=>none) (y:=λ_ _ _ _=>False) T).ok;rw[show(My.T _).S "law"=AX by kernel_rfl] at ok;exact ok.imp λvs H Q E h=>aHD (λ_ _ z=>nomatch z) (λ_ _ z=>z) h
theorem wsd:W.OpenLaw.wellSaid PySem.Challenge.rw_lightshares_k28_rows_even_and_least=true:=by kernel_rfl
noncomputable abbrev hk0:W.Hook:=W.kHook K0 aK λ_=>rfl
noncomputable def mo0(P:Params):Obj:=⟨(.type "dict"),none,.dict #[kE P "__name__" 165 zS1,kD P 166,kE P "__package__" 167 .none,kE P "__loader__" 168 (.builtin "__main__.__loader__#opaque"),kE P "__spec__" 169 .none,kE P "__annotations__" 170 (.ref 6),kE P "__builtins__" 171 (.ref 4),kE P "__file__" 173 (.str "/claim/cut.py" 172),kE P "__cached__" 174 .none,kE P "ShadeError" 206 (.ref 24),kE P "NoNumber" 231 (.ref 44),kE P "NoShade" 256 (.ref 63)] 12,#[]⟩
def M1:=oT []
def M2:=oL [iV 2,iV 0,.ref 20,iV 4,iV 0,.ref 33,iV 9,iV 0,.ref 52]
def M3:=zOf "<module>" 182 1 0 0 11 12 0 0 0 185
def M4:=oR 13 3 (.str "__main__" 164)
def M5:=oT [.type "ValueError"]
def M6:=oB "type.__prepare__" (.type "type")
def mo7(P:Params):=oDn [kM P 196,kQ P 198 "ShadeError",kL P 200 2,kT P 201 22] 4
def M8:=oL []
def M9:=zOf "ShadeError" 191 2 0 0 18 19 0 0 0 194
def M10:=oR 20 17 zS1
noncomputable def M11:Obj:=⟨(.type "type"),none,.cls ⟨"ShadeError",[(.type "ValueError")],[(.ref 24),(.type "ValueError"),(.type "Exception"),(.type "BaseException"),(.type "object")],23,"ShadeError",true,[],[(.ref 44),(.ref 63)],false,none,false⟩,#[(some (.ref 15)),none,(some (.str "ShadeError" 189)),(some (.str "ShadeError" 197)),(some (.builtin "ValueError.__new__")),(some (.bool true))]⟩
noncomputable def M12:Obj:=⟨(.type "getset_descriptor"),none,.fields #[(.str "__weakref__" 202),(.ref 24),(.builtin "ExceptionGroup.__weakref__"),.none],#[]⟩
def M13:=oS 24
def M14:=oB "object.__init_subclass__" (.ref 24)
def M15:=oT [.ref 24]
def NJ(P:Params):=oDn [kM P 214,kQ P 216 "NoNumber",kL P 218 4,kI P 226 41,kT P 228 42] 5
def M17:=oL [iV 6,iV 4,.ref 40]
def M18:=zOf "NoNumber" 209 4 0 0 31 32 0 0 0 212
def M19:=oR 33 30 zS1
def M20:=oT [.str "self" 222,.str "place" 223]
def M21:=oN "__init__" "NoNumber.__init__" (aT (top 2) 0)
def M22:=zXt "__init__" "NoNumber.__init__" 219 6 2 3 35 36 37 38 39 224
def M23:=oF "__init__" "NoNumber.__init__" (aT (top 2) 0) .none zS1 40
def M24:=oT [.str "place" 227]
def M25:=oS 44
def M26:=oB "object.__init_subclass__" (.ref 44)
def NG(P:Params):=oDn [kM P 239,kQ P 241 "NoShade",kL P 243 9,kI P 251 60,kT P 253 61] 5
def M28:=oL [iV 11,iV 4,.ref 59]
def M29:=zOf "NoShade" 234 9 0 0 50 51 0 0 0 237
def M30:=oR 52 49 zS1
def M31:=oT [.str "self" 247,.str "light" 248]
def M32:=oN "__init__" "NoShade.__init__" (aT (top 3) 0)
def M33:=zXt "__init__" "NoShade.__init__" 244 11 2 3 54 55 56 57 58 249
def M34:=oF "__init__" "NoShade.__init__" (aT (top 3) 0) .none zS1 59
def M35:=oT [.str "light" 252]
def M36:=oS 63
def M37:=oB "object.__init_subclass__" (.ref 63)
noncomputable def aLk(P:Params):Obj:=⟨(.type "dict"),none,.dict #[kE P "__name__" 165 zS1,kD P 166,kE P "__package__" 167 .none,kE P "__loader__" 168 (.builtin "__main__.__loader__#opaque"),kE P "__spec__" 169 .none,kE P "__annotations__" 170 (.ref 6),kE P "__builtins__" 171 (.ref 4),kE P "__file__" 173 (.str "/claim/cut.py" 172),kE P "__cached__" 174 .none,kE P "ShadeError" 206 (.ref 24),kE P "NoNumber" 231 (.ref 44),kE P "NoShade" 256 (.ref 63),kE P "NoEye" 281 (.ref 82),kE P "NoLimit" 306 (.ref 101),kE P "NoPlace" 331 (.ref 120)] 15,#[]⟩
def M39:=oL [iV 2,iV 0,.ref 20,iV 4,iV 0,.ref 33,iV 9,iV 0,.ref 52,iV 14,iV 0,.ref 71,iV 19,iV 0,.ref 90,iV 24,iV 0,.ref 109]
def YB(P:Params):=oDn [kM P 264,kQ P 266 "NoEye",kL P 268 14,kI P 276 79,kT P 278 80] 5
def M41:=oL [iV 16,iV 4,.ref 78]
def M42:=zOf "NoEye" 259 14 0 0 69 70 0 0 0 262
def M43:=oR 71 68 zS1
def M44:=oT [.str "self" 272,.str "eye" 273]
def M45:=oN "__init__" "NoEye.__init__" (aT (top 4) 0)
def M46:=zXt "__init__" "NoEye.__init__" 269 16 2 3 73 74 75 76 77 274
def M47:=oF "__init__" "NoEye.__init__" (aT (top 4) 0) .none zS1 78
def M48:=oT [.str "eye" 277]
def M49:=oS 82
def M50:=oB "object.__init_subclass__" (.ref 82)
def VJ(P:Params):=oDn [kM P 289,kQ P 291 "NoLimit",kL P 293 19,kI P 301 98,kT P 303 99] 5
def M52:=oL [iV 21,iV 4,.ref 97]
def M53:=zOf "NoLimit" 284 19 0 0 88 89 0 0 0 287
def M54:=oR 90 87 zS1
def M55:=oT [.str "self" 297,.str "limit" 298]
def M56:=oN "__init__" "NoLimit.__init__" (aT (top 5) 0)
def M57:=zXt "__init__" "NoLimit.__init__" 294 21 2 3 92 93 94 95 96 299
def M58:=oF "__init__" "NoLimit.__init__" (aT (top 5) 0) .none zS1 97
def M59:=oT [.str "limit" 302]
def M60:=oS 101
def M61:=oB "object.__init_subclass__" (.ref 101)
def ZO(P:Params):=oDn [kM P 314,kQ P 316 "NoPlace",kL P 318 24,kI P 326 117,kT P 328 118] 5
def M63:=oL [iV 26,iV 4,.ref 116]
def M64:=zOf "NoPlace" 309 24 0 0 107 108 0 0 0 312
def M65:=oR 109 106 zS1
def M66:=oT [.str "self" 322,.str "place" 323]
def M67:=oN "__init__" "NoPlace.__init__" (aT (top 6) 0)
def M68:=zXt "__init__" "NoPlace.__init__" 319 26 2 3 111 112 113 114 115 324
def M69:=oF "__init__" "NoPlace.__init__" (aT (top 6) 0) .none zS1 116
def M70:=oT [.str "place" 327]
def M71:=oS 120
def M72:=oB "object.__init_subclass__" (.ref 120)
noncomputable def aLA(P:Params):Obj:=⟨(.type "dict"),none,.dict #[kE P "__name__" 165 zS3,kD P 166,kE P "__package__" 167 .none,kE P "__loader__" 168 (.builtin "__main__.__loader__#opaque"),kE P "__spec__" 169 .none,kE P "__annotations__" 170 (.ref 6),kE P "__builtins__" 171 (.ref 4),kE P "__file__" 173 (.str "/claim/cut.py" 172),kE P "__cached__" 174 .none,kE P "ShadeError" 206 (.ref 24),kE P "NoNumber" 231 (.ref 44),kE P "NoShade" 256 (.ref 63),kE P "NoEye" 281 (.ref 82),kE P "NoLimit" 306 (.ref 101),kE P "NoPlace" 331 (.ref 120),kE P "PIECE_FIGURES" 335 (.int 64 334),kE P "PIECE" 339 (.int 10000000000000000000000000000000000000000000000000000000000000000 338),kE P "is_whole" 346 (.ref 129),kE P "common" 354 (.ref 136),kE P "is_fraction" 363 (.ref 143),kE P "lowest" 372 (.ref 150),kE P "need_fractions" 381 (.ref 157),kE P "over" 389 (.ref 164),kE P "less" 397 (.ref 171),kE P "root_under" 406 (.ref 178),kE P "root_above" 416 (.ref 185),kE P "figures" 425 (.ref 192),kE P "written" 432 (.ref 199),kE P "is_share" 441 (.ref 206),kE P "Shade" 504 (.ref 247)] 30,#[]⟩
def M74:=oL [iV 2,iV 0,.ref 20,iV 4,iV 0,.ref 33,iV 9,iV 0,.ref 52,iV 14,iV 0,.ref 71,iV 19,iV 0,.ref 90,iV 24,iV 0,.ref 109,iV 32,iV 0,.ref 128,iV 34,iV 0,.ref 135,iV 38,iV 0,.ref 142,iV 43,iV 0,.ref 149,iV 48,iV 0,.ref 156,iV 52,iV 0,.ref 163,iV 57,iV 0,.ref 170,iV 59,iV 0,.ref 177,iV 68,iV 0,.ref 184,iV 77,iV 0,.ref 191,iV 84,iV 0,.ref 198,iV 89,iV 0,.ref 205,iV 91,iV 0,.ref 212]
def M75:=oT [.str "thing" 343]
def M76:=oN "is_whole" "is_whole" gW
def M77:=oT [.str "one" 350,.str "other" 351]
def M78:=oN "common" "common" lX
def M79:=oT [.str "thing" 358,.str "top" 359,.str "bottom" 360]
def M80:=oN "is_fraction" "is_fraction" dW
def M81:=oT [.str "top" 367,.str "bottom" 368,.str "shared" 369]
def M82:=oN "lowest" "lowest" lQ
def M83:=oT [.str "things" 376,.str "place" 377,.str "thing" 378]
def M84:=oN "need_fractions" "need_fractions" bY
def M85:=oT [.str "one" 385,.str "other" 386]
def M86:=oN "over" "over" vO
def M87:=oT [.str "one" 393,.str "other" 394]
def M88:=oN "less" "less" vQ
def M89:=oT [.str "number" 401,.str "guess" 402,.str "nearer" 403]
def M90:=oN "root_under" "root_under" eT
def M91:=oT [.str "one" 410,.str "top" 411,.str "bottom" 412,.str "under" 413]
def M92:=oN "root_above" "root_above" eQ
def M93:=oT [.str "number" 420,.str "pieces" 421,.str "piece" 422]
def M94:=oN "figures" "figures" iJ
def M95:=oT [.str "one" 429]
def M96:=oN "written" "written" jA
def M97:=oT [.str "thing" 438]
def M98:=oN "is_share" "is_share" gG
def aCB(P:Params):=oDn [kE P "__module__" 449 zS3,kQ P 451 "Shade",kL P 453 91,kI P 465 220,kE P "__eq__" 473 (.ref 227),kE P "__len__" 479 (.ref 232),kE P "__str__" 485 (.ref 237),kE P "__repr__" 492 (.ref 244),kT P 496 245] 9
def aAT:=oL [iV 93,iV 4,.ref 219,iV 101,iV 4,.ref 226,iV 104,iV 4,.ref 231,iV 107,iV 4,.ref 236,iV 110,iV 4,.ref 243]
def aCK:=zOf "Shade" 444 91 0 0 210 211 0 0 0 447
def aBd:=oR 212 209 zS3
def aBo:=oT [.str "self" 457,.str "ember" 458,.str "leaf" 459,.str "sky" 460,.str "light" 461,.str "share" 462]
def aCb:=oN "__init__" "Shade.__init__" bZ
def aCD:=oT [.str "self" 469,.str "other" 470]
def aCx:=oN "__eq__" "Shade.__eq__" cU
def aB4:=oN "__len__" "Shade.__len__" (aT (top 23) 2)
def aCJ:=zXt "__len__" "Shade.__len__" 474 104 1 3 228 229 0 0 230 477
def aAR:=oF "__len__" "Shade.__len__" (aT (top 23) 2) .none zS3 231
def aBt:=oN "__str__" "Shade.__str__" cJ
def aBu:=oT [.str "self" 489]
def aBX:=oN "__repr__" "Shade.__repr__" (aT (top 23) 4)
def aAK:=zXt "__repr__" "Shade.__repr__" 486 110 1 3 238 239 240 241 242 490
def aBb:=oF "__repr__" "Shade.__repr__" (aT (top 23) 4) .none zS3 243
def aBs:=oT [.str "ember" 493,.str "leaf" 494,.str "sky" 495]
noncomputable def aCt:Obj:=⟨(.type "getset_descriptor"),none,.fields #[(.str "__dict__" 497),(.ref 247),(.builtin "function.__dict__"),(.builtin "function.__dict__#set")],#[]⟩
noncomputable def aAB:Obj:=⟨(.type "getset_descriptor"),none,.fields #[(.str "__weakref__" 499),(.ref 247),(.builtin "ExceptionGroup.__weakref__"),.none],#[]⟩
def aAZ:=oS 247
def aBv:=oB "object.__init_subclass__" (.ref 247)
noncomputable def aKC(P:Params):Obj:=⟨(.type "dict"),none,.dict #[kE P "__name__" 165 zS4,kD P 166,kE P "__package__" 167 .none,kE P "__loader__" 168 (.builtin "__main__.__loader__#opaque"),kE P "__spec__" 169 .none,kE P "__annotations__" 170 (.ref 6),kE P "__builtins__" 171 (.ref 4),kE P "__file__" 173 (.str "/claim/cut.py" 172),kE P "__cached__" 174 .none,kE P "ShadeError" 206 (.ref 24),kE P "NoNumber" 231 (.ref 44),kE P "NoShade" 256 (.ref 63),kE P "NoEye" 281 (.ref 82),kE P "NoLimit" 306 (.ref 101),kE P "NoPlace" 331 (.ref 120),kE P "PIECE_FIGURES" 335 (.int 64 334),kE P "PIECE" 339 (.int 10000000000000000000000000000000000000000000000000000000000000000 338),kE P "is_whole" 346 (.ref 129),kE P "common" 354 (.ref 136),kE P "is_fraction" 363 (.ref 143),kE P "lowest" 372 (.ref 150),kE P "need_fractions" 381 (.ref 157),kE P "over" 389 (.ref 164),kE P "less" 397 (.ref 171),kE P "root_under" 406 (.ref 178),kE P "root_above" 416 (.ref 185),kE P "figures" 425 (.ref 192),kE P "written" 432 (.ref 199),kE P "is_share" 441 (.ref 206),kE P "Shade" 504 (.ref 247),kE P "is_shade" 511 (.ref 258),kE P "need_shade" 518 (.ref 265),kE P "shares_of" 525 (.ref 272),kE P "shade_of" 535 (.ref 279),kE P "EVEN_EYE" 541 (.ref 280),kE P "MOST_OF_EYE" 543 (.int 99 542),kE P "LEAST_LIMIT" 546 (.ref 281),kE P "MOST_LIMIT" 549 (.ref 282),kE P "is_eye" 555 (.ref 287),kE P "eye_of" 562 (.ref 294),kE P "gap_between" 578 (.ref 301),kE P "far" 589 (.ref 309),kE P "is_limit" 596 (.ref 316),kE P "need_limit" 603 (.ref 323),kE P "part_way" 618 (.ref 330)] 45,#[]⟩
def aLr:=oL [iV 2,iV 0,.ref 20,iV 4,iV 0,.ref 33,iV 9,iV 0,.ref 52,iV 14,iV 0,.ref 71,iV 19,iV 0,.ref 90,iV 24,iV 0,.ref 109,iV 32,iV 0,.ref 128,iV 34,iV 0,.ref 135,iV 38,iV 0,.ref 142,iV 43,iV 0,.ref 149,iV 48,iV 0,.ref 156,iV 52,iV 0,.ref 163,iV 57,iV 0,.ref 170,iV 59,iV 0,.ref 177,iV 68,iV 0,.ref 184,iV 77,iV 0,.ref 191,iV 84,iV 0,.ref 198,iV 89,iV 0,.ref 205,iV 91,iV 0,.ref 212,iV 112,iV 0,.ref 257,iV 114,iV 0,.ref 264,iV 117,iV 0,.ref 271,iV 120,iV 0,.ref 278,iV 128,iV 0,.ref 286,iV 132,iV 0,.ref 293,iV 138,iV 0,.ref 300,iV 147,iV 0,.ref 308,iV 152,iV 0,.ref 315,iV 154,iV 0,.ref 322,iV 158,iV 0,.ref 329]
def aG5:=oT [.str "thing" 508]
def aGg:=oN "is_shade" "is_shade" gX
def aEn:=oT [.str "thing" 515]
def aEq:=oN "need_shade" "need_shade" eP
def aEh:=oT [.str "shade" 522]
def aHa:=oN "shares_of" "shares_of" fJ
def aHt:=oT [.str "shares" 529,.str "ember" 530,.str "leaf" 531,.str "sky" 532]
def aEK:=oN "shade_of" "shade_of" gQ
def aF7:=oN "is_eye" "is_eye" lJ
def aE2:=oT [.str "eye" 559]
def aEW:=oN "eye_of" "eye_of" lH
def aHg:=oT [.str "shade" 566,.str "other" 567,.str "eye" 568,.str "top" 569,.str "bottom" 570,.str "one" 571,.str "two" 572,.str "many" 573,.str "lack" 574,.str "under" 575]
def aHp:=oN "gap_between" "gap_between" dS
def aGK:=oT [.str "shade" 582,.str "other" 583,.str "eye" 584,.str "top" 585,.str "bottom" 586]
def aE9:=oN "far" "far" CV
def aFu:=oT [.str "thing" 593]
def aGe:=oN "is_limit" "is_limit" fZ
def aGD:=oT [.str "thing" 600]
def aF0:=oN "need_limit" "need_limit" eN
def aFv:=oT [.str "shade" 609,.str "other" 610,.str "part" 611,.str "shares" 612,.str "one" 613,.str "two" 614,.str "top" 615]
def aEu:=oN "part_way" "part_way" gA
noncomputable def aJs(P:Params):Obj:=⟨(.type "dict"),none,.dict #[kE P "__name__" 165 zS0,kD P 166,kE P "__package__" 167 .none,kE P "__loader__" 168 (.builtin "__main__.__loader__#opaque"),kE P "__spec__" 169 .none,kE P "__annotations__" 170 (.ref 6),kE P "__builtins__" 171 (.ref 4),kE P "__file__" 173 (.str "/claim/cut.py" 172),kE P "__cached__" 174 .none,kE P "ShadeError" 206 (.ref 24),kE P "NoNumber" 231 (.ref 44),kE P "NoShade" 256 (.ref 63),kE P "NoEye" 281 (.ref 82),kE P "NoLimit" 306 (.ref 101),kE P "NoPlace" 331 (.ref 120),kE P "PIECE_FIGURES" 335 (.int 64 334),kE P "PIECE" 339 (.int 10000000000000000000000000000000000000000000000000000000000000000 338),kE P "is_whole" 346 (.ref 129),kE P "common" 354 (.ref 136),kE P "is_fraction" 363 (.ref 143),kE P "lowest" 372 (.ref 150),kE P "need_fractions" 381 (.ref 157),kE P "over" 389 (.ref 164),kE P "less" 397 (.ref 171),kE P "root_under" 406 (.ref 178),kE P "root_above" 416 (.ref 185),kE P "figures" 425 (.ref 192),kE P "written" 432 (.ref 199),kE P "is_share" 441 (.ref 206),kE P "Shade" 504 (.ref 247),kE P "is_shade" 511 (.ref 258),kE P "need_shade" 518 (.ref 265),kE P "shares_of" 525 (.ref 272),kE P "shade_of" 535 (.ref 279),kE P "EVEN_EYE" 541 (.ref 280),kE P "MOST_OF_EYE" 543 (.int 99 542),kE P "LEAST_LIMIT" 546 (.ref 281),kE P "MOST_LIMIT" 549 (.ref 282),kE P "is_eye" 555 (.ref 287),kE P "eye_of" 562 (.ref 294),kE P "gap_between" 578 (.ref 301),kE P "far" 589 (.ref 309),kE P "is_limit" 596 (.ref 316),kE P "need_limit" 603 (.ref 323),kE P "part_way" 618 (.ref 330),kE P "steps_between" 628 (.ref 338),kE P "Row" 699 (.ref 394),kE P "_law_cell" 711 (.ref 405),kE P "_law_purse" 718 (.ref 412),kE P "_law_pick" 728 (.ref 419),kE P "_law_whole" 735 (.ref 426),kE P "_law_low" 745 (.ref 433),kE P "_law_plus" 753 (.ref 440)] 53,#[]⟩
def aMM:=oL [iV 2,iV 0,.ref 20,iV 4,iV 0,.ref 33,iV 9,iV 0,.ref 52,iV 14,iV 0,.ref 71,iV 19,iV 0,.ref 90,iV 24,iV 0,.ref 109,iV 32,iV 0,.ref 128,iV 34,iV 0,.ref 135,iV 38,iV 0,.ref 142,iV 43,iV 0,.ref 149,iV 48,iV 0,.ref 156,iV 52,iV 0,.ref 163,iV 57,iV 0,.ref 170,iV 59,iV 0,.ref 177,iV 68,iV 0,.ref 184,iV 77,iV 0,.ref 191,iV 84,iV 0,.ref 198,iV 89,iV 0,.ref 205,iV 91,iV 0,.ref 212,iV 112,iV 0,.ref 257,iV 114,iV 0,.ref 264,iV 117,iV 0,.ref 271,iV 120,iV 0,.ref 278,iV 128,iV 0,.ref 286,iV 132,iV 0,.ref 293,iV 138,iV 0,.ref 300,iV 147,iV 0,.ref 308,iV 152,iV 0,.ref 315,iV 154,iV 0,.ref 322,iV 158,iV 0,.ref 329,iV 164,iV 0,.ref 337,iV 169,iV 0,.ref 344,iV 196,iV 0,.ref 404,iV 203,iV 0,.ref 411,iV 205,iV 0,.ref 418,iV 214,iV 0,.ref 425,iV 216,iV 0,.ref 432,iV 223,iV 0,.ref 439]
def aJt:=oT [.str "shade" 622,.str "other" 623,.str "limit" 624,.str "eye" 625]
def aJ6:=oN "steps_between" "steps_between" cK
def aDV(P:Params):=oDn [kE P "__module__" 636 zS4,kQ P 638 "Row",kL P 640 169,kI P 646 351,kE P "at" 654 (.ref 358),kE P "shades" 661 (.ref 365),kE P "__eq__" 669 (.ref 372),kE P "__len__" 676 (.ref 379),kE P "__str__" 682 (.ref 384),kE P "__repr__" 689 (.ref 391),kT P 691 392] 11
def aJf:=oL [iV 171,iV 4,.ref 350,iV 176,iV 4,.ref 357,iV 181,iV 4,.ref 364,iV 184,iV 4,.ref 371,iV 187,iV 4,.ref 378,iV 190,iV 4,.ref 383,iV 193,iV 4,.ref 390]
def aJJ:=zOf "Row" 631 169 0 0 342 343 0 0 0 634
def aIU:=oR 344 341 zS4
def aIt:=oN "__init__" "Row.__init__" cX
def aH9:=oT [.str "self" 650,.str "place" 651]
def aIK:=oN "at" "Row.at" lV
def aIV:=oT [.str "self" 658]
def aKO:=oN "shades" "Row.shades" eV
def aIo:=oT [.str "self" 665,.str "other" 666]
def aJw:=oN "__eq__" "Row.__eq__" eM
def aJ5:=oT [.str "self" 673]
def aI4:=oN "__len__" "Row.__len__" dU
def aJL:=oN "__str__" "Row.__str__" dO
def aKe:=oT [.str "self" 686]
def aKR:=oN "__repr__" "Row.__repr__" cV
def aJE:=oT [.str "stations" 690]
noncomputable def aKL:Obj:=⟨(.type "getset_descriptor"),none,.fields #[(.str "__dict__" 692),(.ref 394),(.builtin "function.__dict__"),(.builtin "function.__dict__#set")],#[]⟩
noncomputable def aJj:Obj:=⟨(.type "getset_descriptor"),none,.fields #[(.str "__weakref__" 694),(.ref 394),(.builtin "ExceptionGroup.__weakref__"),.none],#[]⟩
def aKs:=oS 394
def aKg:=oB "object.__init_subclass__" (.ref 394)
def aKI:=oT [.str "_law_script" 705,.str "_law_k" 706,.str "_law_state" 707,.str "_law_cell_here" 708]
def aIN:=oN "_law_cell" "_law_cell" lD
def aHW:=oT [.str "_law_cell_here" 715]
def aKz:=oN "_law_purse" "_law_purse" iM
def aJ3:=oT [.str "_law_purse_here" 722,.str "_law_many" 723,.str "_law_state" 724,.str "_law_taken" 725]
def aIr:=oN "_law_pick" "_law_pick" kX
def aI1:=oT [.str "_law_thing" 732]
def aH3:=oN "_law_whole" "_law_whole" jJ
def aJM:=oT [.str "_law_top" 739,.str "_law_bottom" 740,.str "_law_one" 741,.str "_law_mate" 742]
def aI5:=oN "_law_low" "_law_low" pD
def aJg:=oT [.str "_law_a" 749,.str "_law_b" 750]
def aJd:=oN "_law_plus" "_law_plus" lY
def aMo:=oL [iV 2,iV 0,.ref 20,iV 4,iV 0,.ref 33,iV 9,iV 0,.ref 52,iV 14,iV 0,.ref 71,iV 19,iV 0,.ref 90,iV 24,iV 0,.ref 109,iV 32,iV 0,.ref 128,iV 34,iV 0,.ref 135,iV 38,iV 0,.ref 142,iV 43,iV 0,.ref 149,iV 48,iV 0,.ref 156,iV 52,iV 0,.ref 163,iV 57,iV 0,.ref 170,iV 59,iV 0,.ref 177,iV 68,iV 0,.ref 184,iV 77,iV 0,.ref 191,iV 84,iV 0,.ref 198,iV 89,iV 0,.ref 205,iV 91,iV 0,.ref 212,iV 112,iV 0,.ref 257,iV 114,iV 0,.ref 264,iV 117,iV 0,.ref 271,iV 120,iV 0,.ref 278,iV 128,iV 0,.ref 286,iV 132,iV 0,.ref 293,iV 138,iV 0,.ref 300,iV 147,iV 0,.ref 308,iV 152,iV 0,.ref 315,iV 154,iV 0,.ref 322,iV 158,iV 0,.ref 329,iV 164,iV 0,.ref 337,iV 169,iV 0,.ref 344,iV 196,iV 0,.ref 404,iV 203,iV 0,.ref 411,iV 205,iV 0,.ref 418,iV 214,iV 0,.ref 425,iV 216,iV 0,.ref 432,iV 223,iV 0,.ref 439,iV 225,iV 0,.ref 446,iV 227,iV 0,.ref 453,iV 229,iV 0,.ref 460,iV 231,iV 0,.ref 467,iV 233,iV 0,.ref 474,iV 235,iV 0,.ref 481,iV 239,iV 0,.ref 486,iV 247,iV 0,.ref 491,iV 250,iV 0,.ref 498,iV 256,iV 0,.ref 505,iV 258,iV 0,.ref 512,iV 260,iV 0,.ref 519,iV 268,iV 0,.ref 526,iV 280,iV 0,.ref 531,iV 286,iV 0,.ref 536,iV 288,iV 0,.ref 541,iV 302,iV 0,.ref 546,iV 310,iV 0,.ref 551,iV 318,iV 0,.ref 558,iV 333,iV 0,.ref 563,iV 355,iV 0,.ref 568]
def aMa:=oT [.str "_law_a" 757,.str "_law_b" 758]
def aLc:=oN "_law_minus" "_law_minus" jD
def aLH:=oT [.str "_law_a" 765,.str "_law_b" 766]
def aMv:=oN "_law_times" "_law_times" iR
def aMd:=oT [.str "_law_a" 773,.str "_law_b" 774]
def aMs:=oN "_law_over" "_law_over" kW
def aLx:=oT [.str "_law_a" 781,.str "_law_b" 782]
def aMF:=oN "_law_below" "_law_below" iW
def aLC:=oT [.str "_law_a" 789]
def aMb:=oN "_law_text" "_law_text" mB
def aLo:=oT [.str "_law_purse_here" 796,.str "_law_mode" 797,.str "_law_bottom" 798]
def aLF:=oN "_law_share" "_law_share" jI
def aK8:=oN "_law_shares" "_law_shares" gY
def aMe:=oN "_law_eye" "_law_eye" pE
def aLZ:=oT [.str "_law_one" 817,.str "_law_mate" 818,.str "_law_seer" 819,.str "_law_found" 820,.str "_law_light" 821,.str "_law_apart" 822]
def aL0:=oN "_law_far" "_law_far" oW
def aMC:=oT [.str "_law_row" 829]
def aLW:=oN "_law_made" "_law_made" lZ
def aLg:=oT [.str "_law_hue" 836]
def aLl:=oN "_law_told" "_law_told" lO
def aME:=oT [.str "_law_apart" 843,.str "_law_reach" 844,.str "_law_found" 845,.str "_law_power" 846,.str "_law_number" 847]
def aMI:=oN "_law_steps" "_law_steps" iQ
def aK5:=oT [.str "_law_purse_here" 854,.str "_law_apart" 855,.str "_law_many" 856,.str "_law_mode" 857,.str "_law_reach" 858,.str "_law_parts" 859]
def aMr:=oN "_law_limit" "_law_limit" jG
def aLi:=oN "_law_due" "_law_due" rF
def aMG:=oN "_law_shown" "_law_shown" jH
def aML:=oN "_law_row_right" "_law_row_right" dQ
def aLf:=oN "_law_alike_right" "_law_alike_right" cM
def aL4:=oN "_law_long_right" "_law_long_right" cY
def aLO:=oT [.str "_law_purse_here" 896,.str "_law_ends" 897,.str "_law_number" 898,.str "_law_square" 899,.str "_law_some" 900,.str "_law_one" 901,.str "_law_mate" 902,.str "_law_row" 903,.str "_law_reach" 904,.str "_law_many" 905]
def aKZ:=oN "_law_greatest_right" "_law_greatest_right" bK
def aLt:=oN "_law_right" "_law_right" iO
def aLM:=oN "law" "law" yN
noncomputable abbrev pW:J9:=PySem.Challenge.pw_lightshares_k28_rows_even_and_least
noncomputable abbrev bdy:List Stmt:=W.behindTheImports pW
noncomputable abbrev env0:Env:={scope:=pW.main.scope,locals:=mainNs,globals:=mainNs,cells:=[],code:=(.ref 13),frame:=some 14}
noncomputable abbrev cE0:Code:=.body bdy env0
noncomputable abbrev B0:List Frame:=[W.topFrame ⟨0,0,0,0⟩]
noncomputable abbrev S0(w:World)(os:OsState):J7:=⟨W.boot_heap w.params,Array.mk [],W.boot_drawn,W.boot_toks,os⟩
theorem aLR:∀w:World,(W.fencedOpening treeTable pW w 7784).map (λs=>(s.heap,s.gens,s.drawn,s.toks))=some (W.boot_heap w.params,Array.mk [],W.boot_drawn,W.boot_toks):=W.boot_open (by rfl) ddq (λ_=>by rfl)
theorem aMk:∀w:World,((W.boot_heap w.params).isNs mainGlobals&&(Array.mk []:Array GenState).size==0,(W.boot_heap w.params).objs.size,(W.boot_heap w.params).nsMap mainGlobals "__annotations__")=(true,11,(some (.ref 6))):=by
 intro w;kernel_rfl
noncomputable def Sa(w:World)(os:OsState):J7:=aKa (W.topGo treeTable pW w 11 (some (.ref 6)) 12 (S0 w os) (W.topStub pW)) (S0 w os)
theorem aJO:∀(w:World) (os:OsState),W.topGo treeTable pW w 11 (some (.ref 6)) 12 (S0 w os) (W.topStub pW)=some (Sa w os,⟨denote treeTable cE0,cE0,⟨0,0,0,0⟩,B0⟩):=by
 intro w os;kernel_rfl
noncomputable def Sb(w:World)(os:OsState):J7:=aJq (W.segRun treeTable pW w 11 (some (.ref 6)) 1 1 (Sa w os) (W.blockOf bdy env0 cE0 ⟨0,0,0,0⟩ B0)) (S0 w os)
theorem aHX:∀(w:World) (os:OsState),W.segRun treeTable pW w 11 (some (.ref 6)) 1 1 (Sa w os) (W.blockOf bdy env0 cE0 ⟨0,0,0,0⟩ B0)=some (.next,Sb w os,cE0,⟨0,0,0,0⟩):=by
 intro w os;kernel_rfl
def hm0(P:Params):Heap:=⟨#[W.boot_o_0 P,W.boot_o_1 P,W.boot_o_2 P,mo0 P,W.boot_o_4 P,W.boot_o_5 P,W.boot_o_6 P,W.boot_o_7 P,W.boot_o_8 P,W.boot_o_9 P,W.boot_o_10 P,M1,M2,M3,M4,M5,M6,mo7 P,M1,M8,M9,M10,M1,JQ P,M11,M12,M13,M14,M15,M6,NJ P,M1,M17,M18,M19,M1,M8,M20,M1,M21,M22,M23,M24,IA P,GL,M25,M26,M15,M6,NG P,M1,M28,M29,M30,M1,M8,M31,M1,M32,M33,M34,M35,IV P,JU,M36,M37],(W.boot_heap P).life⟩
noncomputable abbrev Sm0(w:World)(os:OsState):J7:=⟨hm0 w.params,Array.mk [],W.boot_drawn,257,os⟩
noncomputable abbrev l0:List Stmt:=bdy.take 4
noncomputable abbrev r0:List Stmt:=bdy.drop 4
theorem aLI:∀(w:World),∀os:OsState,W.segRun treeTable pW w 11 (some (.ref 6)) 1 686 (Sb w os) (W.piecesOf l0 env0 cE0 ⟨0,0,0,0⟩ B0)=some (.next,Sm0 w os,cE0,⟨9,0,13,26⟩):=by
 intro w os;kernel_rfl
def hm1(P:Params):Heap:=⟨#[W.boot_o_0 P,W.boot_o_1 P,W.boot_o_2 P,aLk P,W.boot_o_4 P,W.boot_o_5 P,W.boot_o_6 P,W.boot_o_7 P,W.boot_o_8 P,W.boot_o_9 P,W.boot_o_10 P,M1,M39,M3,M4,M5,M6,mo7 P,M1,M8,M9,M10,M1,JQ P,NX,M12,M13,M14,M15,M6,NJ P,M1,M17,M18,M19,M1,M8,M20,M1,M21,M22,M23,M24,IA P,GL,M25,M26,M15,M6,NG P,M1,M28,M29,M30,M1,M8,M31,M1,M32,M33,M34,M35,IV P,JU,M36,M37,M15,M6,YB P,M1,M41,M42,M43,M1,M8,M44,M1,M45,M46,M47,M48,OM P,QH,M49,M50,M15,M6,VJ P,M1,M52,M53,M54,M1,M8,M55,M1,M56,M57,M58,M59,yC P,yE,M60,M61,M15,M6,ZO P,M1,M63,M64,M65,M1,M8,M66,M1,M67,M68,M69,M70,yQ P,xX,M71,M72],(W.boot_heap P).life⟩
noncomputable abbrev Sm1(w:World)(os:OsState):J7:=⟨hm1 w.params,Array.mk [],W.boot_drawn,332,os⟩
noncomputable abbrev l1:List Stmt:=r0.take 3
noncomputable abbrev r1:List Stmt:=r0.drop 3
theorem aMz:∀(w:World),∀os:OsState,W.segRun treeTable pW w 11 (some (.ref 6)) 1 736 (Sm0 w os) (W.piecesOf l1 env0 cE0 ⟨9,0,13,26⟩ B0)=some (.next,Sm1 w os,cE0,⟨24,0,28,26⟩):=by
 intro w os;kernel_rfl
def hm2(P:Params):Heap:=⟨#[W.boot_o_0 P,W.boot_o_1 P,W.boot_o_2 P,aLA P,W.boot_o_4 P,W.boot_o_5 P,W.boot_o_6 P,W.boot_o_7 P,W.boot_o_8 P,W.boot_o_9 P,W.boot_o_10 P,M1,M74,M3,M4,M5,M6,mo7 P,M1,M8,M9,M10,M1,JQ P,NX,M12,M13,M14,M15,M6,NJ P,M1,M17,M18,M19,M1,M8,M20,M1,M21,M22,M23,M24,IA P,GL,M25,M26,M15,M6,NG P,M1,M28,M29,M30,M1,M8,M31,M1,M32,M33,M34,M35,IV P,JU,M36,M37,M15,M6,YB P,M1,M41,M42,M43,M1,M8,M44,M1,M45,M46,M47,M48,OM P,QH,M49,M50,M15,M6,VJ P,M1,M52,M53,M54,M1,M8,M55,M1,M56,M57,M58,M59,yC P,yE,M60,M61,M15,M6,ZO P,M1,M63,M64,M65,M1,M8,M66,M1,M67,M68,M69,M70,yQ P,xX,M71,M72,M1,M8,M75,M1,M76,DN,CG,M1,M8,M77,M1,M78,DS,DU,M1,M8,M79,M1,M80,FG,DK,M1,M8,M81,M1,M82,FI,CC,M1,M8,M83,M1,M84,CB,FC,M1,M8,M85,M1,M86,DH,EM,M1,M8,M87,M1,M88,FF,EJ,M1,M8,M89,M1,M90,ED,FH,M1,M8,M91,M1,M92,DO,DZ,M1,M8,M93,M1,M94,DW,EL,M1,M8,M95,M1,M96,FK,CJ,M1,M8,M97,M1,M98,ER,ET,M1,M6,aCB P,M1,aAT,aCK,aBd,M1,M8,aBo,M1,aCb,ES,BZ,M1,M8,aCD,M1,aCx,DP,EA,M1,M8,aB4,aCJ,aAR,M1,M8,aBt,FR,DX,M1,M8,aBu,M1,aBX,aAK,aBb,aBs,EC P,DA,aCt,aAB,aAZ,aBv],(W.boot_heap P).life⟩
noncomputable abbrev Sm2(w:World)(os:OsState):J7:=⟨hm2 w.params,Array.mk [],W.boot_drawn,505,os⟩
noncomputable abbrev l2:List Stmt:=r1.take 17
noncomputable abbrev r2:List Stmt:=r1.drop 17
theorem aLD:∀(w:World),∀os:OsState,W.segRun treeTable pW w 11 (some (.ref 6)) 1 760 (Sm1 w os) (W.piecesOf l2 env0 cE0 ⟨24,0,28,26⟩ B0)=some (.next,Sm2 w os,cE0,⟨91,0,111,36⟩):=by
 intro w os;kernel_rfl
def hm3(P:Params):Heap:=⟨#[W.boot_o_0 P,W.boot_o_1 P,W.boot_o_2 P,aKC P,W.boot_o_4 P,W.boot_o_5 P,W.boot_o_6 P,W.boot_o_7 P,W.boot_o_8 P,W.boot_o_9 P,W.boot_o_10 P,M1,aLr,M3,M4,M5,M6,mo7 P,M1,M8,M9,M10,M1,JQ P,NX,M12,M13,M14,M15,M6,NJ P,M1,M17,M18,M19,M1,M8,M20,M1,M21,M22,M23,M24,IA P,GL,M25,M26,M15,M6,NG P,M1,M28,M29,M30,M1,M8,M31,M1,M32,M33,M34,M35,IV P,JU,M36,M37,M15,M6,YB P,M1,M41,M42,M43,M1,M8,M44,M1,M45,M46,M47,M48,OM P,QH,M49,M50,M15,M6,VJ P,M1,M52,M53,M54,M1,M8,M55,M1,M56,M57,M58,M59,yC P,yE,M60,M61,M15,M6,ZO P,M1,M63,M64,M65,M1,M8,M66,M1,M67,M68,M69,M70,yQ P,xX,M71,M72,M1,M8,M75,M1,M76,DN,CG,M1,M8,M77,M1,M78,DS,DU,M1,M8,M79,M1,M80,FG,DK,M1,M8,M81,M1,M82,FI,CC,M1,M8,M83,M1,M84,CB,FC,M1,M8,M85,M1,M86,DH,EM,M1,M8,M87,M1,M88,FF,EJ,M1,M8,M89,M1,M90,ED,FH,M1,M8,M91,M1,M92,DO,DZ,M1,M8,M93,M1,M94,DW,EL,M1,M8,M95,M1,M96,FK,CJ,M1,M8,M97,M1,M98,ER,ET,M1,M6,aCB P,M1,aAT,aCK,aBd,M1,M8,aBo,M1,aCb,ES,BZ,M1,M8,aCD,M1,aCx,DP,EA,M1,M8,aB4,aCJ,aAR,M1,M8,aBt,FR,DX,M1,M8,aBu,M1,aBX,aAK,aBb,aBs,EC P,DA,aCt,aAB,aAZ,aBv,M1,M8,aG5,M1,aGg,JV,KQ,M1,M8,aEn,M1,aEq,KI,JZ,M1,M8,aEh,M1,aHa,LV,KR,M1,M8,aHt,M1,aEK,KF,LJ,MA,JY,MN,M1,M8,aF7,MS,MT,M1,M8,aE2,M1,aEW,MI,ME,M1,M8,aHg,M1,aHp,KK,LM,sP,M1,M8,aGK,M1,aE9,LC,KP,M1,M8,aFu,M1,aGe,MG,MM,M1,M8,aGD,M1,aF0,KC,KJ,M1,M8,aFv,M1,aEu,KS,MX],(W.boot_heap P).life⟩
noncomputable abbrev Sm3(w:World)(os:OsState):J7:=⟨hm3 w.params,Array.mk [],W.boot_drawn,619,os⟩
noncomputable abbrev l3:List Stmt:=r2.take 17
noncomputable abbrev r3:List Stmt:=r2.drop 17
theorem aLP:∀(w:World),∀os:OsState,W.segRun treeTable pW w 11 (some (.ref 6)) 1 404 (Sm2 w os) (W.piecesOf l3 env0 cE0 ⟨91,0,111,36⟩ B0)=some (.next,Sm3 w os,cE0,⟨158,0,163,27⟩):=by
 intro w os;kernel_rfl
def hm4(P:Params):Heap:=⟨#[W.boot_o_0 P,W.boot_o_1 P,W.boot_o_2 P,aJs P,W.boot_o_4 P,W.boot_o_5 P,W.boot_o_6 P,W.boot_o_7 P,W.boot_o_8 P,W.boot_o_9 P,W.boot_o_10 P,M1,aMM,M3,M4,M5,M6,mo7 P,M1,M8,M9,M10,M1,JQ P,NX,M12,M13,M14,M15,M6,NJ P,M1,M17,M18,M19,M1,M8,M20,M1,M21,M22,M23,M24,IA P,GL,M25,M26,M15,M6,NG P,M1,M28,M29,M30,M1,M8,M31,M1,M32,M33,M34,M35,IV P,JU,M36,M37,M15,M6,YB P,M1,M41,M42,M43,M1,M8,M44,M1,M45,M46,M47,M48,OM P,QH,M49,M50,M15,M6,VJ P,M1,M52,M53,M54,M1,M8,M55,M1,M56,M57,M58,M59,yC P,yE,M60,M61,M15,M6,ZO P,M1,M63,M64,M65,M1,M8,M66,M1,M67,M68,M69,M70,yQ P,xX,M71,M72,M1,M8,M75,M1,M76,DN,CG,M1,M8,M77,M1,M78,DS,DU,M1,M8,M79,M1,M80,FG,DK,M1,M8,M81,M1,M82,FI,CC,M1,M8,M83,M1,M84,CB,FC,M1,M8,M85,M1,M86,DH,EM,M1,M8,M87,M1,M88,FF,EJ,M1,M8,M89,M1,M90,ED,FH,M1,M8,M91,M1,M92,DO,DZ,M1,M8,M93,M1,M94,DW,EL,M1,M8,M95,M1,M96,FK,CJ,M1,M8,M97,M1,M98,ER,ET,M1,M6,aCB P,M1,aAT,aCK,aBd,M1,M8,aBo,M1,aCb,ES,BZ,M1,M8,aCD,M1,aCx,DP,EA,M1,M8,aB4,aCJ,aAR,M1,M8,aBt,FR,DX,M1,M8,aBu,M1,aBX,aAK,aBb,aBs,EC P,DA,aCt,aAB,aAZ,aBv,M1,M8,aG5,M1,aGg,JV,KQ,M1,M8,aEn,M1,aEq,KI,JZ,M1,M8,aEh,M1,aHa,LV,KR,M1,M8,aHt,M1,aEK,KF,LJ,MA,JY,MN,M1,M8,aF7,MS,MT,M1,M8,aE2,M1,aEW,MI,ME,M1,M8,aHg,M1,aHp,KK,LM,sP,M1,M8,aGK,M1,aE9,LC,KP,M1,M8,aFu,M1,aGe,MG,MM,M1,M8,aGD,M1,aF0,KC,KJ,M1,M8,aFv,M1,aEu,KS,MX,sP,M1,M8,aJt,M1,aJ6,YN,WS,M1,M6,aDV P,M1,aJf,aJJ,aIU,sP,M1,M8,aIt,ZT,aAa,M1,M8,aH9,M1,aIK,XA,VG,M1,M8,aIV,M1,aKO,YJ,WU,M1,M8,aIo,M1,aJw,aAl,YS,M1,M8,aJ5,M1,aI4,XF,VF,M1,M8,aJL,aAb,XX,M1,M8,aKe,M1,aKR,aAd,SV,aJE,aAi P,RF,aKL,aJj,aKs,aKg,M1,M8,aKI,M1,aIN,YA,ZX,M1,M8,aHW,M1,aKz,UA,aAe,M1,M8,aJ3,M1,aIr,TW,XG,M1,M8,aI1,M1,aH3,ZN,YG,M1,M8,aJM,M1,aI5,VW,YO,M1,M8,aJg,M1,aJd,SG,SU],(W.boot_heap P).life⟩
noncomputable abbrev Sm4(w:World)(os:OsState):J7:=⟨hm4 w.params,Array.mk [],W.boot_drawn,754,os⟩
noncomputable abbrev l4:List Stmt:=r3.take 9
noncomputable abbrev r4:List Stmt:=r3.drop 9
theorem aKY:∀(w:World),∀os:OsState,W.segRun treeTable pW w 11 (some (.ref 6)) 1 637 (Sm3 w os) (W.piecesOf l4 env0 cE0 ⟨158,0,163,27⟩ B0)=some (.next,Sm4 w os,cE0,⟨223,0,224,89⟩):=by
 intro w os;kernel_rfl
def hm5(P:Params):Heap:=⟨#[W.boot_o_0 P,W.boot_o_1 P,W.boot_o_2 P,ko3 P,W.boot_o_4 P,W.boot_o_5 P,W.boot_o_6 P,W.boot_o_7 P,W.boot_o_8 P,W.boot_o_9 P,W.boot_o_10 P,M1,aMo,M3,M4,M5,M6,mo7 P,M1,M8,M9,M10,M1,JQ P,NX,M12,M13,M14,M15,M6,NJ P,M1,M17,M18,M19,M1,M8,M20,M1,M21,M22,M23,M24,IA P,GL,M25,M26,M15,M6,NG P,M1,M28,M29,M30,M1,M8,M31,M1,M32,M33,M34,M35,IV P,JU,M36,M37,M15,M6,YB P,M1,M41,M42,M43,M1,M8,M44,M1,M45,M46,M47,M48,OM P,QH,M49,M50,M15,M6,VJ P,M1,M52,M53,M54,M1,M8,M55,M1,M56,M57,M58,M59,yC P,yE,M60,M61,M15,M6,ZO P,M1,M63,M64,M65,M1,M8,M66,M1,M67,M68,M69,M70,yQ P,xX,M71,M72,M1,M8,M75,M1,M76,DN,CG,M1,M8,M77,M1,M78,DS,DU,M1,M8,M79,M1,M80,FG,DK,M1,M8,M81,M1,M82,FI,CC,M1,M8,M83,M1,M84,CB,FC,M1,M8,M85,M1,M86,DH,EM,M1,M8,M87,M1,M88,FF,EJ,M1,M8,M89,M1,M90,ED,FH,M1,M8,M91,M1,M92,DO,DZ,M1,M8,M93,M1,M94,DW,EL,M1,M8,M95,M1,M96,FK,CJ,M1,M8,M97,M1,M98,ER,ET,M1,M6,aCB P,M1,aAT,aCK,aBd,M1,M8,aBo,M1,aCb,ES,BZ,M1,M8,aCD,M1,aCx,DP,EA,M1,M8,aB4,aCJ,aAR,M1,M8,aBt,FR,DX,M1,M8,aBu,M1,aBX,aAK,aBb,aBs,EC P,DA,aCt,aAB,aAZ,aBv,M1,M8,aG5,M1,aGg,JV,KQ,M1,M8,aEn,M1,aEq,KI,JZ,M1,M8,aEh,M1,aHa,LV,KR,M1,M8,aHt,M1,aEK,KF,LJ,MA,JY,MN,M1,M8,aF7,MS,MT,M1,M8,aE2,M1,aEW,MI,ME,M1,M8,aHg,M1,aHp,KK,LM,sP,M1,M8,aGK,M1,aE9,LC,KP,M1,M8,aFu,M1,aGe,MG,MM,M1,M8,aGD,M1,aF0,KC,KJ,M1,M8,aFv,M1,aEu,KS,MX,sP,M1,M8,aJt,M1,aJ6,YN,WS,M1,M6,aDV P,M1,aJf,aJJ,aIU,sP,M1,M8,aIt,ZT,aAa,M1,M8,aH9,M1,aIK,XA,VG,M1,M8,aIV,M1,aKO,YJ,WU,M1,M8,aIo,M1,aJw,aAl,YS,M1,M8,aJ5,M1,aI4,XF,VF,M1,M8,aJL,aAb,XX,M1,M8,aKe,M1,aKR,aAd,SV,aJE,aAi P,RF,aKL,aJj,aKs,aKg,M1,M8,aKI,M1,aIN,YA,ZX,M1,M8,aHW,M1,aKz,UA,aAe,M1,M8,aJ3,M1,aIr,TW,XG,M1,M8,aI1,M1,aH3,ZN,YG,M1,M8,aJM,M1,aI5,VW,YO,M1,M8,aJg,M1,aJd,SG,SU,M1,M8,aMa,M1,aLc,aDe,aEf,M1,M8,aLH,M1,aMv,aDu,aDx,M1,M8,aMd,M1,aMs,aDI,aDE,M1,M8,aLx,M1,aMF,aD9,aDY,M1,M8,aLC,M1,aMb,aC4,aDZ,M1,M8,aLo,M1,aLF,aCT,aD7,M1,M8,aK8,aDD,aD8,M1,M8,aMe,aDH,aEd,M1,M8,aLZ,M1,aL0,aCU,aDA,M1,M8,aMC,M1,aLW,aEc,aCQ,M1,M8,aLg,M1,aLl,aDz,aDn,M1,M8,aME,M1,aMI,aDG,aDt,M1,M8,aK5,M1,aMr,aDC,aDw,M1,M8,aLi,aC9,aCO,M1,M8,aMG,aD1,aDS,M1,M8,aML,aDP,aDh,M1,M8,aLf,aDU,aC2,M1,M8,aL4,aDT,aEa,M1,M8,aLO,M1,aKZ,aD4,aDF,M1,M8,aLt,aC7,aDd,M1,M8,aLM,aDa,aEe],(W.boot_heap P).life⟩
noncomputable abbrev Sm5(w:World)(os:OsState):J7:=⟨hm5 w.params,Array.mk [],W.boot_drawn,921,os⟩
noncomputable abbrev l5:List Stmt:=r4.take 21
noncomputable abbrev r5:List Stmt:=r4.drop 21
theorem aK3:∀(w:World),∀os:OsState,W.segRun treeTable pW w 11 (some (.ref 6)) 1 612 (Sm4 w os) (W.piecesOf l5 env0 cE0 ⟨223,0,224,89⟩ B0)=some (.next,Sm5 w os,cE0,⟨355,0,365,15⟩):=by
 intro w os;kernel_rfl
theorem aJ0:∀(w:World) (os:OsState),(W.topRun treeTable pW w 11 (some (.ref 6)) 21 (Sm5 w os) (W.restOf r5 env0 cE0 ⟨355,0,365,15⟩ B0)).map (λs₁=>(W.staticsOk (importedModules pW.main.body) (W.boot_heap w.params) s₁.heap&&W.namesBound pW s₁.heap&&W.gensDone s₁&&W.laidKept (W.boot_heap w.params) s₁.heap,W.openSeen qv lo (importedModules pW.main.body) (λs=>W.recOk [] s) true s₁,hk0.obs s₁))=some (true,W.openGood qv lo,hk0.val w):=by
 intro w os;kernel_rfl
theorem hlt:W.LeftO PySem.Challenge.pw_lightshares_k28_rows_even_and_least qv lo (λs=>W.recOk [] s) hk0.obs hk0.val 7784:=by
 refine L3.aKj (M:=12+(1+(686+(736+(760+(404+(637+(612+21)))))))) aLR aMk ddq λw os=>?_;obtain⟨s₁,e,h⟩:=Option.map_eq_some_iff.mp (aJ0 w os);refine⟨s₁,W.go_top (aJO w os) (W.piece_block (aHX w os) ?_),h⟩;rw[show bdy=l0++r0 from(List.take_append_drop _ _).symm];refine W.piece_app (aLI w os) ?_;rw[show r0=l1++r1 from(List.take_append_drop _ _).symm];refine W.piece_app (aMz w os) ?_;rw[show r1=l2++r2 from(List.take_append_drop _ _).symm];refine W.piece_app (aLD w os) ?_;rw[show r2=l3++r3 from(List.take_append_drop _ _).symm];refine W.piece_app (aLP w os) ?_;rw[show r3=l4++r4 from(List.take_append_drop _ _).symm];refine W.piece_app (aKY w os) ?_;rw[show r4=l5++r5 from(List.take_append_drop _ _).symm];refine W.piece_app (aK3 w os) ?_;exact e
end My
open PySem PySem.W PyProof.Rows
set_option maxRecDepth 100000 in
set_option maxHeartbeats 0 in
theorem PySem.Challenge.cw_lightshares_k28_rows_even_and_least_holds : PySem.Challenge.rw_lightshares_k28_rows_even_and_least.Holds := by
 w_on
 refine W.holds_law My.wsd λsaid=>?_
 refine W.holds_open (q:=My.qv) (loose:=My.lo) (N:=7784) (XP:=λ_ _=>True)
   (Xt:=λs=>W.recOk [] s)
   (Yf:=My.hk0.obs) (Ya:=My.hk0.val) (YP:=My.hk0.says)
   My.hlt My.hk0.of My.hk0.keeps
   (λ_ _=>trivial) (λ_ _ _ _ _=>trivial) (by rfl) (by rfl) (by rfl)
   (λs e=>W.recFacts_of e) (by rfl) (by assumption) (by decide +kernel)
   ⟨rfl,rfl,rfl,rfl,rfl,by decide +kernel⟩ ?hw ?hc
 case hw=>w_witness2
 refine L2.WO (K:=My.K0) (l:=PySem.Challenge.rw_lightshares_k28_rows_even_and_least) (n:=63) (k:=64) (x:="_law_script") (CX:=L2.CX0) (sp:=L3.MC)
   rfl ddq rfl ⟨λ_=>rfl,by decide,by decide,λ_=>rfl⟩ (λw h Y=>W.kIn_of Y) ?F (λK H a ns hl hO hS=>L3.NP hl hO hS) (λ_ _ _ _ z=>z)
 case F =>
   intro w mg fa h KX G hmg
   exact My.fin KX G hmg
