import PyProof.Rows.All
import Wide.All
import OpenK.AllK
import Wide.FinOn
import Lean
import PyProof.EqAt
import PyProof.EqKinds
import PyProof.TupleCall
import PySem.Challenge.RW_lightshares_k48_whole_few_lights_are_eno
set_option Elab.async false
set_option linter.all false
set_option maxRecDepth 100000
set_option maxHeartbeats 4000000
noncomputable section
def wAq:=@PySem.wpAny_bind
def wBq:=@PySem.wpAny_pure
def wCq:=@List.mem_cons_of_mem
def wDq:=@List.mem_cons_self
def wEq:=@PySem.Heap.get?_push_of_some
def wFq:=@Nat.lt_of_lt_of_le
def wGq:=@PySem.Heap.get?_push_size
def wHq:=@List.getElem?_eq_getElem
def wIq:=@List.size_toArray
def ddq{p:Prop}(h:p:=by decide):p:=h
def ooq{p:Prop}(h:p:=by omega):p:=h
abbrev J5:=PySem.Shared
abbrev J6:=String
abbrev J7:=PySem.Program
abbrev J8:=PySem.FuncData
def j9{c:Prop}{h:Decidable c}(n:¬c){α:Sort _}{a b:α}:(if c then a else b)=b:=_root_.if_neg n
def ja{c:Prop}{h:Decidable c}(n:c){α:Sort _}{a b:α}:(if c then a else b)=a:=_root_.if_pos n
namespace My
open PySem PyProof.Rows
noncomputable def ZK(o:Option (J5×Thread))(s:J5):J5:=match o with|some x=>x.1|none=>s
noncomputable def aAg(o:Option (Flow×J5×Code×Pos))(s:J5):J5:=match o with|some x=>x.2.1|none=>s
noncomputable def hI(s:Stmt)(j:Nat):Stmt:=match s with
 | .ClassDef _ _ _ body _ _ _ _ _ _ _=>body.getD j (.Pass ⟨0,0,0,0⟩)
 | _=>.Pass ⟨0,0,0,0⟩
noncomputable def hA(s:Stmt):Arguments:=match s with
 | .FunctionDef _ a _ _ _ _ _ _ _ _=>a
 | _=>{posonlyargs:=[],args:=[],vararg:=none,kwonlyargs:=[],kw_defaults:=[],kwarg:=none,defaults:=[]}
noncomputable def hB(s:Stmt):List Stmt:=match s with
 | .FunctionDef _ _ b _ _ _ _ _ _ _=>b
 | _=>[]
noncomputable def hS(s:Stmt):Scope:=match s with
 | .FunctionDef _ _ _ _ _ _ sc _ _ _=>sc
 | _=>{kind:=.function,names:=[],isGenerator:=false,isCoroutine:=false}
noncomputable def top(i:Nat):Stmt:=PySem.Challenge.pw_lightshares_k48_whole_few_lights_are_eno.main.body.getD i (.Pass ⟨0,0,0,0⟩)
noncomputable abbrev zS0:Value:=.str "law_lightshares_k48_whole_few_lights_are_eno" 575
noncomputable abbrev zS1:Value:=.str "lightshares.lights" 463
noncomputable abbrev zS2:Value:=.str "lightshares.shades" 339
noncomputable abbrev zS3:Value:=.str "lightshares.fractions" 282
noncomputable abbrev zS4:Value:=.str "lightshares.errors" 187
noncomputable abbrev zS5:Value:=.str "lightshares.nearness" 442
noncomputable abbrev oC(l:List Value):Obj:=⟨.type "code",none,.fields l.toArray,#[]⟩
noncomputable abbrev oT(l:List Value):Obj:=⟨.type "tuple",none,.seq l.toArray 0,#[]⟩
noncomputable abbrev oL(l:List Value):Obj:=⟨.none,none,.fields l.toArray,#[]⟩
abbrev oN(a b:Str)(s:Stmt):Obj:=⟨.none,none,.func {W.fnOf a b (hA s) (hB s) (hS s) .none .none .none .none none .none .none with globals:=0,builtins:=0},#[]⟩
abbrev oF(a b:Str)(s:Stmt)(d m:Value)(c:Addr):Obj:=⟨.type "function",none,.func (W.fnOf a b (hA s) (hB s) (hS s) d .none .none m none (.ref c) .none),#[]⟩
noncomputable abbrev oR(c l:Addr)(m:Value):Obj:=⟨.type "frame",none,.plain,#[some (.ref c),some (.ref 3),some (.ref l),none,some m,none,some (.ref 0)]⟩
noncomputable abbrev oS(c:Addr):Obj:=⟨.type "super",none,.fields #[.ref c,.ref c,.ref c],#[]⟩
noncomputable abbrev oB(n:J6)(c:Value):Obj:=⟨.type "builtin_function_or_method",none,.fields #[.builtin n,c],#[]⟩
noncomputable abbrev fC(n:Tok):Value:=.str "/claim/cut.py" n
noncomputable abbrev iV(n:Int):Value:=.int n 0
noncomputable def kE(P:Params)(x:Str)(t:Tok)(v:Value):DictEntry:=⟨PyData.keyHash P x,.str x t,v⟩
noncomputable abbrev zV(n:Nat):Value:=if n=0 then .none else .ref n
abbrev zXt(a b:Str)(i l n c x y u v w q:Nat):Obj:=oC [.str a i,.str b (i+1),fC (i+2),iV l,iV n,iV 0,iV 0,iV c,.ref x,.bool true,iV 181,.ref y,.none,zV u,zV v,zV w,iV q,iV l,fC (q+1)]
abbrev zOt(a:Str):=zXt a a
abbrev zXf(a b:Str)(i l n c x y u v w q:Nat):Obj:=oC [.str a i,.str b (i+1),fC (i+2),iV l,iV n,iV 0,iV 0,iV c,.ref x,.bool false,iV 181,.ref y,.none,zV u,zV v,zV w,iV q,iV l,fC (q+1)]
abbrev zOf(a:Str):=zXf a a
noncomputable abbrev zY(n:Str)(e w:J6)(b c d x i j:Nat):Obj:=⟨.type "type",none,.cls ⟨n,[.ref b],[.ref c,.ref b,.type e,.type "Exception",.type "BaseException",.type "object"],d,n,true,[],[],false,none,false⟩,#[some (.ref x),none,some (.str n i),some (.str n j),some (.builtin w),some (.bool true)]⟩
abbrev kL(P:Params)(n l:Nat):DictEntry:=kE P "__firstlineno__" n (.int l (n-1))
abbrev kT(P:Params)(n l:Nat):DictEntry:=kE P "__static_attributes__" n (.ref l)
abbrev kI(P:Params)(n l:Nat):DictEntry:=kE P "__init__" n (.ref l)
abbrev kD(P:Params)(n:Nat):DictEntry:=kE P "__doc__" n .none
abbrev kQ(P:Params)(n:Nat)(x:Str):DictEntry:=kE P "__qualname__" n (.str x (n-1))
abbrev kM(P:Params)(n:Nat):DictEntry:=kE P "__module__" n zS4
noncomputable abbrev oDn(l:List DictEntry)(n:Nat):Obj:=⟨.type "dict",none,.dict l.toArray n,#[]⟩
noncomputable def zt:Nat->List Str->List Value
 | _,[]=>[]
 | t,x::r=>.str x t::zt (t+1) r
def zT(t:Nat)(l:List Str):Obj:=oT (zt t l)
def zc(a t:Nat)(n q:Str)(l k u:Nat):Obj:=oC [.str n t,.str q (t+1),fC (t+2),iV l,iV k,iV 0,iV 0,iV 3,.ref a,.bool true,iV 181,.ref (a+1),.none,.ref (a+2),.ref (a+3),.ref (a+4),iV u,iV l,fC (u+1)]
def zf(a t:Nat)(n q:Str)(s:Stmt)(x:List Str)(l k:Nat)(d m:Value)(r:List Obj):List Obj:=oT []::oL []::zT (t+3) x::oT []::oN n q s::zc a t n q l k (t+3+x.length)::oF n q s d m (a+5)::r
def zb(P:Params)(a t:Nat)(n:Str)(l:Nat)(m:Value):Obj:=oDn [kE P "__module__" (t+7) m,kE P "__qualname__" (t+9) (.str n (t+8)),kE P "__firstlineno__" (t+11) (.int l (t+10)),kE P "__init__" (t+19) (.ref (a+13)),kE P "__static_attributes__" (t+21) (.ref (a+14))] 5
def za(P:Params)(a t:Nat)(l:Nat)(m:Value):Obj:=oDn [kE P "__module__" (t+7) m,kE P "__firstlineno__" (t+11) (.int l (t+10)),kE P "__init__" (t+19) (.ref (a+13)),kE P "__static_attributes__" (t+21) (.ref (a+14)),kE P "__doc__" (t+22) .none] 2
def zo(a t:Nat)(n:Str)(l:Nat):Obj:=oC [.str n (t+2),.str n (t+3),fC (t+4),iV l,iV 0,iV 0,iV 0,iV 0,.ref (a+3),.bool false,iV 181,.ref (a+4),.none,.none,.none,.none,iV (t+5:Nat),iV l,fC (t+6)]
noncomputable def zk(a t:Nat)(n:Str)(b:Nat)(e w:J6):Obj:=⟨.type "type",none,.cls ⟨n,[.ref b],[.ref (a+16),.ref b,.type e,.type "Exception",.type "BaseException",.type "object"],a+15,n,true,[],[],false,none,false⟩,#[some (.ref a),none,some (.str n t),some (.str n (t+8)),some (.builtin w),some (.bool true)]⟩
def zz(b:Nat)(e w:J6)(m:Value)(P:Params)(a t:Nat)(n q f:Str)(l:Nat)(s:Stmt)(r:List Obj):List Obj:=oT [.ref b]::oB "type.__prepare__" (.type "type")::zb P a t n l m::oT []::oL [iV (l+2:Nat),iV 4,.ref (a+12)]::zo a t n l::oR (a+5) (a+2) m::zf (a+7) (t+12) "__init__" q s ["self",f] (l+2) 2 .none m (oT [.str f (t+20)]::za P a t l m::zk a t n b e w::oS (a+16)::oB "object.__init_subclass__" (.ref (a+16))::r)
def zx0:=zz 24 "ValueError" "ValueError.__new__" zS4
def gz0(P:Params)(v3 v12 v24:Obj)(r:List Obj):List Obj:=.cons (W.boot_o_0 P) <| .cons (W.boot_o_1 P) <| .cons (W.boot_o_2 P) <| .cons v3 <| .cons (W.boot_o_4 P) <| .cons (W.boot_o_5 P) <| .cons (W.boot_o_6 P) <| .cons (W.boot_o_7 P) <| .cons (W.boot_o_8 P) <| .cons (W.boot_o_9 P) <| .cons (W.boot_o_10 P) <| .cons (oT []) <| .cons v12 <| .cons (zOf "<module>" 182 1 0 0 11 12 0 0 0 185) <| .cons (oR 13 3 (.str "__main__" 164)) <| .cons (oT [.type "ValueError"]) <| .cons (oB "type.__prepare__" (.type "type")) <| .cons (oDn [kM P 196,kQ P 198 "ShadeError",kL P 200 2,kT P 201 22] 4) <| .cons (oT []) <| .cons (oL []) <| .cons (zOf "ShadeError" 191 2 0 0 18 19 0 0 0 194) <| .cons (oR 20 17 zS4) <| .cons (oT []) <| .cons (oDn [kM P 196,kL P 200 2,kT P 201 22,kE P "__weakref__" 203 (.ref 25),kD P 204] 3) <| .cons v24 <| .cons (⟨(.type "getset_descriptor"),none,.fields #[(.str "__weakref__" 202),(.ref 24),(.builtin "ExceptionGroup.__weakref__"),.none],#[]⟩) <| .cons (oS 24) <| .cons (oB "object.__init_subclass__" (.ref 24))<|zx0 P 28 207 "NoShade" "NoShade.__init__" "light" 4 (hI (top 2) 0)<|zx0 P 47 232 "NoEye" "NoEye.__init__" "eye" 9 (hI (top 3) 0)<|r
def zr(P:Params)(n:Str)(t a:Nat)(r:List DictEntry):List DictEntry:=kE P n t (.ref a)::r
def CH(P:Params)(r:List DictEntry):List DictEntry:=.cons (kD P 166) <| .cons (kE P "__package__" 167 .none) <| .cons (kE P "__loader__" 168 (.builtin "__main__.__loader__#opaque")) <| .cons (kE P "__spec__" 169 .none)<|zr P "__annotations__" 170 6<|zr P "__builtins__" 171 4 <| .cons (kE P "__file__" 173 (.str "/claim/cut.py" 172)) <| .cons (kE P "__cached__" 174 .none)<|zr P "ShadeError" 206 24<|zr P "NoShade" 231 44<|zr P "NoEye" 256 63<|r
def aDI(P:Params):Obj:=⟨(.type "dict"),none,.dict (kE P "__name__" 165 zS4::(CH P [])).toArray 12,#[]⟩
def zl(l c a:Nat)(r:List Value):List Value:=iV l::iV c::.ref a::r
def vJ(r:List Value):List Value:=zl 2 0 20<|zl 4 0 33<|zl 9 0 52<|r
noncomputable def aCU(P:Params):Obj:=⟨(.type "type"),none,.cls ⟨"ShadeError",[(.type "ValueError")],[(.ref 24),(.type "ValueError"),(.type "Exception"),(.type "BaseException"),(.type "object")],23,"ShadeError",true,[],[(.ref 44),(.ref 63)],false,none,false⟩,#[(some (.ref 15)),none,(some (.str "ShadeError" 189)),(some (.str "ShadeError" 197)),(some (.builtin "ValueError.__new__")),(some (.bool true))]⟩
def gh0(P:Params):List Obj:=gz0 P (aDI P) (oL (vJ [])) (aCU P) []
noncomputable abbrev pW:J7:=PySem.Challenge.pw_lightshares_k48_whole_few_lights_are_eno
abbrev bdy:List Stmt:=W.behindTheImports pW
abbrev env0:Env:={scope:=pW.main.scope,locals:=mainNs,globals:=mainNs,cells:=[],code:=(.ref 13),frame:=some 14}
abbrev cE0:Code:=.body bdy env0
noncomputable abbrev B0:List Frame:=[W.topFrame ⟨0,0,0,0⟩]
noncomputable abbrev S0(w:World)(os:OsState):J5:=⟨W.boot_heap w.params,Array.mk [],W.boot_drawn,W.boot_toks,os⟩
def Sa(w:World)(os:OsState):J5:=ZK (W.topGo treeTable pW w 11 (some (.ref 6)) 12 (S0 w os) (W.topStub pW)) (S0 w os)
def Sb(w:World)(os:OsState):J5:=aAg (W.segRun treeTable pW w 11 (some (.ref 6)) 1 1 (Sa w os) (W.blockOf bdy env0 cE0 ⟨0,0,0,0⟩ B0)) (S0 w os)
abbrev Sm0(w:World)(os:OsState):J5:=⟨⟨(gh0 w.params).toArray,(W.boot_heap w.params).life⟩,Array.mk [],W.boot_drawn,257,os⟩
abbrev l0:List Stmt:=bdy.take 4
def aFt:∀(w:World),∀os:OsState,W.segRun treeTable pW w 11 (some (.ref 6)) 1 686 (Sb w os) (W.piecesOf l0 env0 cE0 ⟨0,0,0,0⟩ B0)=some (.next,Sm0 w os,cE0,⟨9,0,13,22⟩):=by
 intro w os;kernel_rfl
abbrev nV:Stmt:=top 45
abbrev mE:Stmt:=top 47
abbrev rW:Stmt:=top 54
abbrev rX:Stmt:=top 48
abbrev cV:Stmt:=top 53
abbrev mQ:Stmt:=top 49
abbrev kJ:Stmt:=top 51
abbrev iM:Stmt:=top 56
abbrev jY:Stmt:=top 46
abbrev kB:Stmt:=top 52
abbrev kZ:Stmt:=top 50
abbrev rY:Stmt:=top 55
abbrev nR:Stmt:=top 9
abbrev iI:Stmt:=top 8
abbrev dS:Stmt:=top 10
abbrev iB:Stmt:=top 15
abbrev cN:Stmt:=hI (top 16) 0
abbrev kR:Stmt:=top 60
abbrev dW:Stmt:=top 61
abbrev nW:Stmt:=top 24
abbrev nJ:Stmt:=top 25
abbrev zH:Stmt:=top 32
abbrev mF:Stmt:=top 11
abbrev kC:Stmt:=top 33
abbrev jW:Stmt:=top 41
abbrev kA:Stmt:=top 38
abbrev fJ:Stmt:=top 39
abbrev kU:Stmt:=top 36
abbrev nE:Stmt:=top 37
abbrev eJ:Stmt:=top 34
abbrev dU:Stmt:=top 35
abbrev dD:Stmt:=top 40
abbrev iG:Stmt:=top 17
abbrev dX:Stmt:=top 29
abbrev fH:Stmt:=top 18
abbrev iE:Stmt:=top 20
abbrev cW:Stmt:=top 30
abbrev gH:Stmt:=top 19
abbrev gI:Stmt:=top 31
abbrev yB:Stmt:=top 42
abbrev iO:Stmt:=top 43
abbrev kK:Stmt:=top 62
abbrev nH:Stmt:=top 58
abbrev jX:Stmt:=top 57
abbrev nK:Stmt:=top 59
abbrev CC:Stmt:=top 63
def zd(a t:Nat)(n q:Str)(l k:Nat):Obj:=oC [.str n t,.str q (t+1),fC (t+2),iV l,iV k,iV 0,iV 0,iV 3,.ref a,.bool true,iV 181,.ref (a+1),.none,.none,.none,.ref (a+2),iV (t+3:Nat),iV l,fC (t+4)]
def zh(a t:Nat)(n:Str)(s:Stmt)(x:List Str)(l k:Nat)(m:Value)(r:List Obj):List Obj:=zf a t n n s x l k .none m r
def zg(a t:Nat)(n q:Str)(s:Stmt)(l k:Nat)(d m:Value)(r:List Obj):List Obj:=oT []::oL []::oN n q s::zd a t n q l k::oF n q s d m (a+3)::r
def gz1(P:Params)(r:List Obj):List Obj:=zx0 P 66 257 "NoLights" "NoLights.__init__" "place" 14 (hI (top 4) 0)<|zh 85 290 "is_whole" iI ["thing"] 22 1 zS3<|zh 92 297 "common" nR ["one","other"] 24 2 zS3<|zh 99 305 "is_fraction" dS ["thing","top","bottom"] 28 1 zS3<|zh 106 314 "lowest" mF ["top","bottom","shared"] 33 2 zS3<|zh 113 323 "figures" (top 12) ["number","pieces","piece"] 38 1 zS3<|zh 120 332 "written" (top 13) ["one"] 45 1 zS3<|zh 127 341 "is_share" iB ["thing"] 50 1 zS2<|r
def gz2(P:Params)(r:List Obj):List Obj:=.cons (oT []) <| .cons (oB "type.__prepare__" (.type "type")) <| .cons (oDn [kE P "__module__" 355 zS2,kQ P 357 "Shade",kL P 359 52,kI P 371 147,kE P "__eq__" 379 (.ref 154),kE P "__len__" 385 (.ref 159),kE P "__str__" 391 (.ref 164),kE P "__repr__" 398 (.ref 171),kT P 402 172] 9) <| .cons (oT []) <| .cons (oL [iV 54,iV 4,.ref 146,iV 62,iV 4,.ref 153,iV 65,iV 4,.ref 158,iV 68,iV 4,.ref 163,iV 71,iV 4,.ref 170]) <| .cons (zOf "Shade" 350 52 0 0 137 138 0 0 0 353) <| .cons (oR 139 136 zS2)<|zf 141 360 "__init__" "Shade.__init__" cN ["self","ember","leaf","sky","light","share"] 54 4 .none zS2<|zf 148 372 "__eq__" "Shade.__eq__" (hI (top 16) 1) ["self","other"] 62 2 .none zS2<|zg 155 380 "__len__" "Shade.__len__" (hI (top 16) 2) 65 1 .none zS2<|zg 160 386 "__str__" "Shade.__str__" (hI (top 16) 3) 68 1 .none zS2<|zf 165 392 "__repr__" "Shade.__repr__" (hI (top 16) 4) ["self"] 71 1 .none zS2 <| .cons (oT [.str "ember" 399,.str "leaf" 400,.str "sky" 401]) <| .cons (oDn [kE P "__module__" 355 zS2,kL P 359 52,kI P 371 147,kE P "__eq__" 379 (.ref 154),kE P "__len__" 385 (.ref 159),kE P "__str__" 391 (.ref 164),kE P "__repr__" 398 (.ref 171),kT P 402 172,kE P "__dict__" 404 (.ref 175),kE P "__weakref__" 406 (.ref 176),kD P 407,kE P "__hash__" 408 .none] 5) <| .cons (⟨(.type "type"),none,.cls ⟨"Shade",[(.type "object")],[(.ref 174),(.type "object")],173,"Shade",true,[],[],false,none,false⟩,#[none,none,(some (.str "Shade" 348)),(some (.str "Shade" 356)),(some (.builtin "object.__new__")),(some (.bool true))]⟩) <| .cons (⟨(.type "getset_descriptor"),none,.fields #[(.str "__dict__" 403),(.ref 174),(.builtin "function.__dict__"),(.builtin "function.__dict__#set")],#[]⟩) <| .cons (⟨(.type "getset_descriptor"),none,.fields #[(.str "__weakref__" 405),(.ref 174),(.builtin "ExceptionGroup.__weakref__"),.none],#[]⟩) <| .cons (oS 174) <| .cons (oB "object.__init_subclass__" (.ref 174))<|zh 179 411 "is_shade" iG ["thing"] 73 1 zS2<|zh 186 418 "need_shade" fH ["thing"] 75 1 zS2<|zh 193 425 "shares_of" gH ["shade"] 78 1 zS2<|zh 200 432 "shade_of" iE ["shares","ember","leaf","sky"] 81 1 zS2 <| .cons (oT [.int 1 444,.int 1 445,.int 1 446])<|zg 208 450 "is_eye" "is_eye" nW 87 1 .none zS5<|zh 213 456 "eye_of" nJ ["eye"] 91 1 zS5<|zh 220 469 "need_lights" dX ["thing","place","one"] 100 1 zS1<|zh 227 478 "shared_bottom" cW ["rows","bottom","row","share"] 106 1 zS1<|zg 234 488 "spot_over" "spot_over" gI 112 2 .none zS1<|r
def gz3(P:Params)(r:List Obj):List Obj:=.cons (oT [.int 1 494])<|zg 240 495 "gone" "gone" zH 114 3 (.ref 239) zS1<|zg 245 501 "product" "product" kC 116 3 .none zS1<|zg 250 507 "determinant" "determinant" eJ 118 1 .none zS1<|zg 255 513 "tops_toward" "tops_toward" dU 127 3 .none zS1<|zg 260 519 "sets_of" "sets_of" kU 137 1 .none zS1<|zh 265 525 "spread" nE ["places","tops","many","row","place","top"] 144 3 zS1<|zg 272 537 "made_by" "made_by" kA 149 2 .none zS1<|zg 277 543 "is_nearest" "is_nearest" fJ 151 4 .none zS1<|zg 282 549 "nearest_tops" "nearest_tops" dD 156 3 .none zS1<|zg 287 555 "line_by" "line_by" jW 164 3 .none zS1 <| .cons (oT [.none])<|zg 293 561 "make" "make" yB 169 3 (.ref 292) zS1<|zh 298 567 "can_make" iO ["lights","shade"] 184 2 zS1<|zh 305 577 "_law_cell" nV ["_law_script","_law_k","_law_state","_law_cell_here"] 187 2 zS0<|zh 312 587 "_law_purse" jY ["_law_cell_here"] 194 1 zS0<|zh 319 594 "_law_pick" mE ["_law_purse_here","_law_many","_law_state","_law_taken"] 196 2 zS0<|zh 326 604 "_law_low" rX ["_law_top","_law_bottom","_law_one","_law_other"] 205 2 zS0<|zh 333 614 "_law_plus" mQ ["_law_a","_law_b"] 212 2 zS0<|zh 340 622 "_law_minus" kZ ["_law_a","_law_b"] 214 2 zS0<|zh 347 630 "_law_times" kJ ["_law_a","_law_b"] 216 2 zS0<|zh 354 638 "_law_below" kB ["_law_a","_law_b"] 218 2 zS0<|zh 361 646 "_law_plain_share" cV ["_law_purse_here"] 220 1 zS0<|zg 368 653 "_law_eye" "_law_eye" rW 222 1 .none zS0<|zh 373 659 "_law_far" rY ["_law_one","_law_other","_law_gaze","_law_found","_law_light","_law_apart"] 225 3 zS0<|r
def gz4(P:Params)(r:List Obj):List Obj:=zg 380 671 "_law_lights" "_law_lights" iM 231 2 .none zS0<|zg 385 677 "_law_parts" "_law_parts" jX 241 2 .none zS0<|zh 390 683 "_law_made" nH ["_law_rows","_law_parts_here","_law_found","_law_light","_law_share","_law_k"] 246 2 zS0<|zg 397 695 "_law_wish" "_law_wish" nK 254 2 .none zS0<|zh 402 701 "_law_shade" kR ["_law_row"] 260 1 zS0<|zh 409 708 "_law_shares_of" dW ["_law_told"] 262 1 zS0<|zg 416 715 "_law_right" "_law_right" kK 264 4 .none zS0<|zh 421 721 "law" CC ["_law_script","_law_k","_law_purse_here","_law_many","_law_gaze","_law_rows"] 283 1 zS0<|r
def GU(P:Params)(r:List DictEntry):List DictEntry:=zr P "NoLights" 281 82 <| .cons (kE P "PIECE_FIGURES" 285 (.int 64 284)) <| .cons (kE P "PIECE" 289 (.int 10000000000000000000000000000000000000000000000000000000000000000 288))<|zr P "is_whole" 296 91<|zr P "common" 304 98<|zr P "is_fraction" 313 105<|zr P "lowest" 322 112<|zr P "figures" 331 119<|zr P "written" 338 126<|zr P "is_share" 347 133<|r
def aDK(P:Params):Obj:=⟨(.type "dict"),none,.dict (kE P "__name__" 165 zS2::(CH P (GU P []))).toArray 22,#[]⟩
def OE(P:Params)(r:List DictEntry):List DictEntry:=zr P "Shade" 410 174<|zr P "is_shade" 417 185<|zr P "need_shade" 424 192<|zr P "shares_of" 431 199<|zr P "shade_of" 441 206<|zr P "EVEN_EYE" 447 207 <| .cons (kE P "MOST_OF_EYE" 449 (.int 99 448))<|zr P "is_eye" 455 212<|zr P "eye_of" 462 219 <| .cons (kE P "MOST_LIGHTS" 466 (.int 5 465)) <| .cons (kE P "MOST_AT_ONCE" 468 (.int 4 467))<|zr P "need_lights" 477 226<|zr P "shared_bottom" 487 233<|zr P "spot_over" 493 238<|r
def aEI(P:Params):Obj:=⟨(.type "dict"),none,.dict (kE P "__name__" 165 zS1::(CH P (GU P (OE P [])))).toArray 36,#[]⟩
def ZZ(P:Params)(r:List DictEntry):List DictEntry:=zr P "gone" 500 244<|zr P "product" 506 249<|zr P "determinant" 512 254<|zr P "tops_toward" 518 259<|zr P "sets_of" 524 264<|zr P "spread" 536 271<|zr P "made_by" 542 276<|zr P "is_nearest" 548 281<|zr P "nearest_tops" 554 286<|zr P "line_by" 560 291<|zr P "make" 566 297<|zr P "can_make" 574 304<|zr P "_law_cell" 586 311<|zr P "_law_purse" 593 318<|zr P "_law_pick" 603 325<|zr P "_law_low" 613 332<|zr P "_law_plus" 621 339<|zr P "_law_minus" 629 346<|zr P "_law_times" 637 353<|zr P "_law_below" 645 360<|zr P "_law_plain_share" 652 367<|zr P "_law_eye" 658 372<|zr P "_law_far" 670 379<|r
def aE3(P:Params):Obj:=⟨(.type "dict"),none,.dict (kE P "__name__" 165 zS0::(CH P (GU P (OE P (ZZ P []))))).toArray 59,#[]⟩
def aFa(P:Params)(r:List DictEntry):List DictEntry:=zr P "_law_lights" 676 384<|zr P "_law_parts" 682 389<|zr P "_law_made" 694 396<|zr P "_law_wish" 700 401<|zr P "_law_shade" 707 408<|zr P "_law_shares_of" 714 415<|zr P "_law_right" 720 420<|zr P "law" 732 427<|r
def aDw(P:Params):Obj:=⟨(.type "dict"),none,.dict (kE P "__name__" 165 zS0::(CH P (GU P (OE P (ZZ P (aFa P [])))))).toArray 67,#[]⟩
def zQ(r:List Value):List Value:=zl 14 0 71<|zl 22 0 90<|zl 24 0 97<|zl 28 0 104<|zl 33 0 111<|zl 38 0 118<|zl 45 0 125<|zl 50 0 132<|r
def DG(r:List Value):List Value:=zl 52 0 139<|zl 73 0 184<|zl 75 0 191<|zl 78 0 198<|zl 81 0 205<|zl 87 0 211<|zl 91 0 218<|zl 100 0 225<|zl 106 0 232<|zl 112 0 237<|r
def RY(r:List Value):List Value:=zl 114 0 243<|zl 116 0 248<|zl 118 0 253<|zl 127 0 258<|zl 137 0 263<|zl 144 0 270<|zl 149 0 275<|zl 151 0 280<|zl 156 0 285<|zl 164 0 290<|zl 169 0 296<|zl 184 0 303<|zl 187 0 310<|zl 194 0 317<|zl 196 0 324<|zl 205 0 331<|zl 212 0 338<|zl 214 0 345<|zl 216 0 352<|zl 218 0 359<|zl 220 0 366<|zl 222 0 371<|zl 225 0 378<|r
def aAS(r:List Value):List Value:=zl 231 0 383<|zl 241 0 388<|zl 246 0 395<|zl 254 0 400<|zl 260 0 407<|zl 262 0 414<|zl 264 0 419<|zl 283 0 426<|r
noncomputable def yF(P:Params):Obj:=⟨(.type "type"),none,.cls ⟨"ShadeError",[(.type "ValueError")],[(.ref 24),(.type "ValueError"),(.type "Exception"),(.type "BaseException"),(.type "object")],23,"ShadeError",true,[],[(.ref 44),(.ref 63),(.ref 82)],false,none,false⟩,#[(some (.ref 15)),none,(some (.str "ShadeError" 189)),(some (.str "ShadeError" 197)),(some (.builtin "ValueError.__new__")),(some (.bool true))]⟩
def gh1(P:Params):List Obj:=gz0 P (aDK P) (oL (vJ (zQ []))) (yF P) (gz1 P [])
def gh2(P:Params):List Obj:=gz0 P (aEI P) (oL (vJ (zQ (DG [])))) (yF P) (gz1 P (gz2 P []))
def gh3(P:Params):List Obj:=gz0 P (aE3 P) (oL (vJ (zQ (DG (RY []))))) (yF P) (gz1 P (gz2 P (gz3 P [])))
def gh4(P:Params):List Obj:=gz0 P (aDw P) (oL (vJ (zQ (DG (RY (aAS [])))))) (yF P) (gz1 P (gz2 P (gz3 P (gz4 P []))))
def wsd:W.OpenLaw.wellSaid PySem.Challenge.rw_lightshares_k48_whole_few_lights_are_eno=true:=by kernel_rfl
def aF1:∀w:World,(W.fencedOpening treeTable pW w 5638).map (λs=>(s.heap,s.gens,s.drawn,s.toks))=some (W.boot_heap w.params,Array.mk [],W.boot_drawn,W.boot_toks):=W.boot_open (by rfl) ddq (λ_=>by rfl)
def aFZ:∀w:World,((W.boot_heap w.params).isNs mainGlobals&&(Array.mk []:Array GenState).size==0,(W.boot_heap w.params).objs.size,(W.boot_heap w.params).nsMap mainGlobals "__annotations__")=(true,11,(some (.ref 6))):=by
 intro w;kernel_rfl
def aDM:∀(w:World) (os:OsState),W.topGo treeTable pW w 11 (some (.ref 6)) 12 (S0 w os) (W.topStub pW)=some (Sa w os,⟨denote treeTable cE0,cE0,⟨0,0,0,0⟩,B0⟩):=by
 intro w os;kernel_rfl
def aDA:∀(w:World) (os:OsState),W.segRun treeTable pW w 11 (some (.ref 6)) 1 1 (Sa w os) (W.blockOf bdy env0 cE0 ⟨0,0,0,0⟩ B0)=some (.next,Sb w os,cE0,⟨0,0,0,0⟩):=by
 intro w os;kernel_rfl
abbrev r0:List Stmt:=bdy.drop 4
abbrev Sm1(w:World)(os:OsState):J5:=⟨⟨(gh1 w.params).toArray,(W.boot_heap w.params).life⟩,Array.mk [],W.boot_drawn,348,os⟩
abbrev l1:List Stmt:=r0.take 12
abbrev r1:List Stmt:=r0.drop 12
def aFY:∀(w:World),∀os:OsState,W.segRun treeTable pW w 11 (some (.ref 6)) 1 498 (Sm0 w os) (W.piecesOf l1 env0 cE0 ⟨9,0,13,22⟩ B0)=some (.next,Sm1 w os,cE0,⟨50,0,51,59⟩):=by
 intro w os;kernel_rfl
abbrev Sm2(w:World)(os:OsState):J5:=⟨⟨(gh2 w.params).toArray,(W.boot_heap w.params).life⟩,Array.mk [],W.boot_drawn,494,os⟩
abbrev l2:List Stmt:=r1.take 16
abbrev r2:List Stmt:=r1.drop 16
def aFw:∀(w:World),∀os:OsState,W.segRun treeTable pW w 11 (some (.ref 6)) 1 675 (Sm1 w os) (W.piecesOf l2 env0 cE0 ⟨50,0,51,59⟩ B0)=some (.next,Sm2 w os,cE0,⟨112,0,113,64⟩):=by
 intro w os;kernel_rfl
abbrev Sm3(w:World)(os:OsState):J5:=⟨⟨(gh3 w.params).toArray,(W.boot_heap w.params).life⟩,Array.mk [],W.boot_drawn,671,os⟩
abbrev l3:List Stmt:=r2.take 24
abbrev r3:List Stmt:=r2.drop 24
def aFQ:∀(w:World),∀os:OsState,W.segRun treeTable pW w 11 (some (.ref 6)) 1 671 (Sm2 w os) (W.piecesOf l3 env0 cE0 ⟨112,0,113,64⟩ B0)=some (.next,Sm3 w os,cE0,⟨225,0,230,21⟩):=by
 intro w os;kernel_rfl
abbrev Sm4(w:World)(os:OsState):J5:=⟨⟨(gh4 w.params).toArray,(W.boot_heap w.params).life⟩,Array.mk [],W.boot_drawn,733,os⟩
abbrev l4:List Stmt:=r3.take 8
def aFW:∀(w:World),∀os:OsState,W.segRun treeTable pW w 11 (some (.ref 6)) 1 231 (Sm3 w os) (W.piecesOf l4 env0 cE0 ⟨225,0,230,21⟩ B0)=some (.next,Sm4 w os,cE0,⟨283,0,291,15⟩):=by
 intro w os;kernel_rfl
end My
namespace L2
open PySem PySem.Spec PyProof.Rows
noncomputable abbrev Key:=Sum Int Str
noncomputable def vL:Key->Value->Bool
 | .inl k,v=>Value.isInt k v
 | .inr x,v=>Value.isStrOf x v
noncomputable def aF3(w:World):Key->Int
 | .inl k=>hashInt k
 | .inr x=>hashStr w x
theorem bN:∀{k:Key} {v:Value},vL k v=true->(∃i t,k=Sum.inl i/\v=Value.int i t)∨(∃x t,k=Sum.inr x/\v=Value.str x t)
 | .inl i,v,h=>by
   obtain⟨t,e⟩:=Value.isInt_shape (k:=i) (v:=v) h;exact .inl ⟨i,t,rfl,e⟩
 | .inr x,v,h=>by
   obtain⟨t,e⟩:=Value.isStrOf_shape (x:=x) (v:=v) h;exact .inr ⟨x,t,rfl,e⟩
def LV(i:Int)(t:Tok):vL (.inl i) (.int i t)=true:=by simp[vL,Value.isInt]
def LC(x:Str)(t:Tok):vL (.inr x) (.str x t)=true:=by simp[vL,Value.isStrOf]
def aBe(a b:Int):decide ((Sum.inl a:Key)=Sum.inl b)=(a==b):=by
 by_cases e:a=b
 . subst e;simp
 . have h:¬(Sum.inl a:Key)=Sum.inl b:=λq=>e (Sum.inl.inj q);rw[decide_eq_false h];exact(beq_eq_false_iff_ne.mpr e).symm
def aBv(a b:Str):decide ((Sum.inr a:Key)=Sum.inr b)=decide (a=b):=by
 by_cases e:a=b
 . subst e;simp
 . have h:¬(Sum.inr a:Key)=Sum.inr b:=λq=>e (Sum.inr.inj q);rw[decide_eq_false h,decide_eq_false e]
def aCH(a:Int)(b:Str):decide ((Sum.inl a:Key)=Sum.inr b)=false:=decide_eq_false (λq=>nomatch q)
def aBF(a:Str)(b:Int):decide ((Sum.inr a:Key)=Sum.inl b)=false:=decide_eq_false (λq=>nomatch q)
def cP(prog:J7)(w:World):PySem.KeyKind prog w Key where
 is:=vL
 hash:=aF3 w
 inj :=λv a b ha hb=>by
   rcases bN ha with ⟨i,t,rfl,rfl⟩|⟨x,t,rfl,rfl⟩
   . rcases bN hb with ⟨j,u,rfl,e⟩|⟨y,u,rfl,e⟩
     . injection e with e1 _;rw[e1]
     . exact nomatch e
   . rcases bN hb with ⟨j,u,rfl,e⟩|⟨y,u,rfl,e⟩
     . exact nomatch e
     . injection e with e1 _;rw[e1]
 byValue:=λk v h=>by
   rcases bN h with ⟨i,t,rfl,rfl⟩|⟨x,t,rfl,rfl⟩<;>rfl
 pyHash:=λhv h=>by
   rcases bN hv with ⟨i,t,rfl,rfl⟩|⟨x,t,rfl,rfl⟩
   . exact wpAny_pyHash_int h
   . exact wpAny_pyHash_str h
 eqBool:=λhu hv h=>by
   rcases bN hu with ⟨i,t,rfl,rfl⟩|⟨x,t,rfl,rfl⟩
   . rcases bN hv with ⟨j,u,rfl,rfl⟩|⟨y,u,rfl,rfl⟩
     . rw[aBe] at h;exact wpAny_eqBool_int h
     . rw[aCH] at h;exact SeqAt.EqAt.int_str i t y u _ _ _ _ h
   . rcases bN hv with ⟨j,u,rfl,rfl⟩|⟨y,u,rfl,rfl⟩
     . rw[aBF] at h;exact SeqAt.EqAt.str_int x t j u _ _ _ _ h
     . rw[aBv] at h;exact wpAny_eqBool_str h
 «strs» :=λk x t v h=>by
   rcases bN h with ⟨i,u,rfl,e⟩|⟨y,u,rfl,e⟩
   . exact nomatch e
   . injection e with e1 _;subst e1;cases v<;>rfl
theorem aAV(prog:J7)(w:World)(k:Key)(v:Value):(cP prog w).is k v=vL k v:=rfl
def CI(prog:J7)(w:World)(i:Int)(t:Tok):(cP prog w).is (.inl i) (.int i t)=true:=LV i t
def AF(prog:J7)(w:World)(x:Str)(t:Tok):(cP prog w).is (.inr x) (.str x t)=true:=LC x t
inductive V where
 | non|bl (b:Bool)|int (i:Int)|str (x:Str)|byt (b:Array UInt8)|flt (b:UInt64)|ref (a:Addr)|ty (n:J6)
 deriving DecidableEq
noncomputable def aM:V->Value->Prop
 | .non,u=>u=Value.none
 | .bl b,u=>u=Value.bool b
 | .int i,u=>∃t,u=Value.int i t
 | .str x,u=>∃t,u=Value.str x t
 | .byt b,u=>∃t,u=Value.bytes b t
 | .flt b,u=>∃t,u=Value.float b t
 | .ref a,u=>u=Value.ref a
 | .ty n,u=>u=Value.type n
abbrev aI:List V->List Value->Prop:=Paired aM
def aI.length(r:aI xs us):xs.length=us.length:=Paired.length r
theorem aI.get:∀{xs:List V} {us:List Value} {i:Nat} {x:V},aI xs us->xs[i]? =some x->∃u,us[i]? =some u/\aM x u
 | _,_,_,_,.nil,e=>by simp at e
 | _,_,0,_,.cons r _,e=>by simp at e;subst e;exact⟨_,rfl,r⟩
 | _,_,i+1,x,.cons _ t,e=>by
   obtain⟨u,h1,h2⟩:=aI.get (i:=i) (x:=x) t (by simpa using e);exact⟨u,by simpa using h1,h2⟩
theorem aI.set{u:Value}(r:aM x u):∀{xs:List V} {us:List Value} (i:Nat),aI xs us->aI (xs.set i x) (us.set i u)
 | _,_,_,.nil=>.nil
 | _,_,0,.cons _ t=>.cons r t
 | _,_,i+1,.cons q t=>.cons q (aI.set r i t)
theorem aI.append:∀{xs ys:List V} {us ws:List Value},aI xs us->aI ys ws->aI (xs++ys) (us++ws)
 | _,_,_,_,.nil,s=>s
 | _,_,_,_,.cons r t,s=>.cons r (aI.append t s)
theorem aI.take:∀{xs:List V} {us:List Value} (n:Nat),aI xs us->aI (xs.take n) (us.take n)
 | _,_,0,_=>.nil
 | _,_,_+1,.nil=>.nil
 | _,_,n+1,.cons r t=>.cons r (aI.take n t)
theorem aI.drop:∀{xs:List V} {us:List Value} (n:Nat),aI xs us->aI (xs.drop n) (us.drop n)
 | _,_,0,r=>r
 | _,_,_+1,.nil=>.nil
 | _,_,n+1,.cons _ t=>aI.drop n t
def uT:Option V->Option Value->Prop
 | some v,some u=>aM v u
 | none,none=>True
 | _,_=>False
def KV{κ:Type}:List (κ×V)->List (κ×Value)->Prop:=Paired λ(p:κ×V) (q:κ×Value)=>p.1=q.1/\aM p.2 q.2
noncomputable def kV:Key->V
 | .inl i=>.int i
 | .inr x=>.str x
inductive HO where
 | lst (xs:List V)
 | tup (xs:List V)
 | dK (kvs:List (Key×V))|dT (kvs:List (List Key×V))
 | set (S:Int->Bool) (n:Nat)
 | ins (C dx:Addr) (fs:List (Str×V))
 | own (x:Addr)
 | xd (fs:List (Str×V))
 | met (f x:Addr)
 | rng (lo hi:Int)
 | frz (o:Obj) (u:HO)
 | tbl (q:Str) (ps:Array Value)
 | ext (φ:Heap->Prop)
noncomputable abbrev Hp:=Addr->Option HO
noncomputable def upd(H:Hp)(a:Addr)(o:HO):Hp:=λb=>if b=a then some o else H b
def HdP(A:Around)(H:Hp):Prop:=A.handled=none∨∃a o u vs,A.handled=some (.ref a)/\H a=some (.frz o u)/\o.data= .fields vs/\vs[2]? =some Value.none
def HdP.mono{A:Around}{H H':Hp}(h:HdP A H)(k:∀b o u,H b=some (.frz o u)->H' b=some (.frz o u)):HdP A H':=h.imp id<|by rintro⟨a,o,u,vs,e1,e2,e3⟩;exact⟨a,o,u,vs,e1,k _ _ _ e2,e3⟩
def aS:upd H a o a=some o:=by unfold upd;rw[ja rfl]
def aF(h:b≠a):upd H a o b=H b:=by unfold upd;rw[j9 h]
def oA{H:Hp}(h:H a=some o)(h':H b=some u)(d:o≠u):a≠b:=by
 intro e;subst e;rw[h] at h';exact d (Option.some.inj h')
def aL{H:Hp}{a b:Addr}(h:H a=some o)(h':H b=none):a≠b:=by
 intro e;subst e;rw[h] at h';cases h'
def dB(h:Heap)(a:Addr)(items:Array Value):Prop:=IsTup h a items/\∀o,h.get? a=some o->o.dict=none
def dB.new(h:Heap)(items:Array Value):dB (h.push {cls:=.type "tuple",data:=.seq items}) h.objs.size items:=⟨IsTup.new h items,λo e=>by rw[wGq _ rfl] at e;cases e;rfl⟩
section
variable(P:J7)(w:World)
def cA(H:Hp)(h:Heap)(a:Addr):HO->Prop
 | .lst xs=>xs.length<=sizeLine/\∃(its:List Value) (n:Nat),aI xs its/\h.get? a=some {cls:=.type "list",data:=.seq its.toArray n}
 | .tup xs=>xs.length<=sizeLine/\∃its:List Value,aI xs its/\dB h a its.toArray
 | .dK kvs=>kvs.length<=sizeLine/\(a==sysModules)=false/\∃vs,KV kvs vs/\h.DictOf (cP P w) a vs
 | .dT kvs=>kvs.length<=sizeLine/\(a==sysModules)=false/\∃xs:List (List Key×Addr×Value),
     Paired (λ(p:List Key×V) (q:List Key×Addr×Value)=>p.1=q.1/\H q.2.1=some (.tup (p.1.map kV))/\aM p.2 q.2.2) kvs xs/\
     ∃o es ep,h.get? a=some o/\o.ExactDict/\o.data= .dict es ep/\es.toList=xs.map (entryOfKey (tupleKind (cP P w)))/\(xs.map (·.1)).Nodup
 | .set S n=>h.SetOf (intKind P w) a S n
 | .ins C dx fs=>H dx=some (.own a)/\fs.length<=1000/\dx≠a/\h.get? a=some (W.instObj C dx)/\
     ∃mA,h.Ns1 dx mA/\(∀f,uT (fs.lookup f) (mA f))/\PySem.Within mA (fs.map (·.1))
 | .own _=>∃o,h.get? a=some o
 | .xd fs=>∃mA,h.Ns1 a mA/\∀f,uT (fs.lookup f) (mA f)
 | .rng lo hi=>∃t u v,h.get? a=some {cls:=.type "range",data:=.fields #[.int lo t,.int hi u,.int 1 v]}
 | .frz o u=>h.get? a=some o/\cA H h a u
 | .tbl _ ps=>h.get? a=some {cls:=.none,data:=.fields ps}
 | .met f x=>h.get? a=some (W.methodObj (.ref f) (.ref x))
 | .ext φ=>φ h/\(∃o,h.get? a=some o)/\∀h1 h2:Heap,φ h1->(∀o,h1.get? a=some o->h2.get? a=some o)->φ h2
def HOk(H:Hp)(h:Heap):Prop:= ∀a o,H a=some o->cA P w H h a o
end
section
variable{P:J7}{w:World}{H H':Hp}{h h':Heap}{a:Addr}{o:HO}
def cA.lt(x:cA P w H h a o):a<h.objs.size:=by
 cases o with
 | lst xs=>obtain⟨_,_,_,_,e⟩:=x;exact Heap.lt_size e
 | tup xs=>obtain⟨_,_,_,p⟩:=x;exact p.1.lt
 | dK kvs=>obtain⟨_,_,_,_,o,_,_,e,_⟩:=x;exact Heap.lt_size e
 | dT kvs=>obtain⟨_,_,_,_,o,_,_,e,_⟩:=x;exact Heap.lt_size e
 | set S n=>obtain⟨o,_,_,_,e,_⟩:=x;exact Heap.lt_size e
 | ins C dx fs=>obtain⟨_,_,_,e,_⟩:=x;exact Heap.lt_size e
 | own y=>obtain⟨_,e⟩:=x;exact Heap.lt_size e
 | xd fs=>obtain⟨_,⟨_,_,_,e,_⟩,_⟩:=x;exact Heap.lt_size e
 | rng lo hi=>obtain⟨_,_,_,e⟩:=x;exact Heap.lt_size e
 | frz ob u=>obtain⟨e,_⟩:=x;exact Heap.lt_size e
 | tbl q ps=>exact Heap.lt_size (show h.get? a=some _ from x)
 | met f y=>exact Heap.lt_size (show h.get? a=some _ from x)
 | ext φ=>obtain⟨_,⟨_,e⟩,_⟩:=x;exact Heap.lt_size e
theorem Paired.mapP{α β:Type}{F G:α->β->Prop}:∀{l₁:List α} {l₂:List β},Paired F l₁ l₂->(∀a b,F a b->G a b)->Paired G l₁ l₂
 | _,_,.nil,_=>.nil
 | _,_,.cons r t,f=>.cons (f _ _ r) (Paired.mapP t f)
def cA.stay(x:cA P w H h a o)(k:∀b u,(b=a∨H b=some (.own a))->h.get? b=some u->h'.get? b=some u)
   (ho:∀b,H b=some (.own a)->H' b=some (.own a)) (ht:∀b xs,H b=some (.tup xs)->H' b=some (.tup xs)):cA P w H' h' a o:=by
 induction o with
 | lst xs=>obtain⟨z,its,n,r,e⟩:=x;exact⟨z,its,n,r,k _ _ (.inl rfl) e⟩
 | tup xs=>obtain⟨z,its,r,⟨ob,e,c⟩,dn⟩:=x;exact⟨z,its,r,⟨ob,k _ _ (.inl rfl) e,c⟩,λo q=>by rw[k _ _ (.inl rfl) e] at q;cases q;exact dn _ e⟩
 | dK kvs=>obtain⟨z,y,vs,r,ob,es,ep,e,c⟩:=x;exact⟨z,y,vs,r,ob,es,ep,k _ _ (.inl rfl) e,c⟩
 | dT kvs =>
   obtain⟨z,y,xs,r,ob,es,ep,e,c⟩:=x;exact⟨z,y,xs,Paired.mapP r λp q z=>⟨z.1,ht _ _ z.2.1,z.2.2⟩,ob,es,ep,k _ _ (.inl rfl) e,c⟩
 | set S n=>obtain⟨ob,es,ep,t,e,c⟩:=x;exact⟨ob,es,ep,t,k _ _ (.inl rfl) e,c⟩
 | ins C dx fs =>
   obtain⟨d,z,ne,e,mA,⟨od,es,ep,e2,c⟩,r⟩:=x;exact⟨ho _ d,z,ne,k _ _ (.inl rfl) e,mA,⟨od,es,ep,k _ _ (.inr d) e2,c⟩,r⟩
 | own y=>obtain⟨ob,e⟩:=x;exact⟨ob,k _ _ (.inl rfl) e⟩
 | xd fs=>obtain⟨mA,⟨od,es,ep,e,c⟩,r⟩:=x;exact⟨mA,⟨od,es,ep,k _ _ (.inl rfl) e,c⟩,r⟩
 | rng lo hi=>obtain⟨t,u,v,e⟩:=x;exact⟨t,u,v,k _ _ (.inl rfl) e⟩
 | frz ob u ih=>obtain⟨e,q⟩:=x;exact⟨k _ _ (.inl rfl) e,ih q⟩
 | tbl q ps =>
   have e:h.get? a=some {cls:=.none,data:=.fields ps}:=x;show h'.get? a=some {cls:=.none,data:=.fields ps};exact k a _ (.inl rfl) e
 | met f y =>
   have e:h.get? a=some (W.methodObj (.ref f) (.ref y)):=x;show h'.get? a=some (W.methodObj (.ref f) (.ref y));exact k a _ (.inl rfl) e
 | ext φ=>obtain⟨p,⟨o,e⟩,st⟩:=x;exact⟨st _ _ p λo q=>k _ _ (.inl rfl) q,⟨o,k _ _ (.inl rfl) e⟩,st⟩
def HOk.lt(x:HOk P w H h)(e:H a=some o):a<h.objs.size:=(x a o e).lt
def HOk.fresh(x:HOk P w H h)(e:h.objs.size<=a):H a=none:=by
 cases q:H a with
 | none=>rfl
 | some u=>exact absurd (wFq (x.lt q) e) (Nat.lt_irrefl _)
def HOk.kept(x:HOk P w H h)(k:∀b u,h.get? b=some u->h'.get? b=some u):HOk P w H h':=λa o e =>
 (x a o e).stay (λb u _ q=>k b u q) (λ_ q=>q) λ_ _ q=>q
def HOk.laid(x:HOk P w H h)(k:∀b u,h.get? b=some u->h'.get? b=some u)(hp:h.objs.size<=a)(new:cA P w (upd H a o) h' a o):HOk P w (upd H a o) h':=λb u e=>by
 have hn:=x.fresh hp;by_cases hb:b=a
 . subst hb;rw[aS] at e;cases e;exact new
 . rw[aF hb] at e;exact(x b u e).stay (λc v _ q=>k c v q) (λc q=>by rw[aF (aL q hn)];exact q) λc xs q=>by rw[aF (aL q hn)];exact q
end
def Rd(H:Hp)(a:Addr)(u:HO):Prop:=H a=some u∨∃o,H a=some (.frz o u)
def Rd.ok(r:Rd H a u)(x:HOk P w H h):cA P w H h a u:=by
 rcases r with r|⟨o,r⟩
 . exact x a u r
 . obtain⟨_,q⟩:=x a _ r;exact q
noncomputable def Mut:Option HO->Prop
 | some (.lst _)=>True
 | some (.dK _)=>True
 | some (.dT _)=>True
 | some (.set _ _)=>True
 | some (.ins _ _ _)=>True
 | some (.ext _)=>True
 | _=>False
section
variable{P:J7}{w:World}{H:Hp}{h h':Heap}{x e:Addr}{o':HO}
def HOk.write(ok:HOk P w H h)(mu:Mut (H x))(he:e=x∨H e=some (.own x))(k:∀b u,b≠e->h.get? b=some u->h'.get? b=some u)(heo:∃u,h'.get? e=some u)
   (new:cA P w (upd H x o') h' x o'):HOk P w (upd H x o') h':=λb u q=>by
 have nown:∀c y,H c=some (.own y)->c≠x:=λc y r z=>by subst z;rw[r] at mu;exact mu
 have ntup:∀c xs,H c=some (.tup xs)->c≠x:=λc xs r z=>by subst z;rw[r] at mu;exact mu
 by_cases hb:b=x
 . subst hb;rw[aS] at q;cases q;exact new
 . rw[aF hb] at q;by_cases hbe:b=e
   . have q':H b=some (.own x):=by
       rcases he with z|z
       . exact absurd (hbe.trans z) hb
       . rw[hbe];exact z
     rw[q] at q';cases q';obtain⟨v,hv⟩:=heo;exact⟨v,by rw[hbe];exact hv⟩
   . refine(ok b u q).stay (λc v hc r=>k c v ?_ r) (λc r=>by rw[aF (nown c b r)];exact r) λc xs r=>by rw[aF (ntup c xs r)];exact r
     rcases hc with rfl|hc
     . exact hbe
     . rintro rfl;rcases he with z|z
       . exact nown c b hc z
       . rw[hc] at z;cases z;exact hb rfl
end
noncomputable abbrev KO(o:Obj):HO:=.frz o (.ext λ_=>True)
def iY(Z:Hp)(q:Str)(ps:List Value):Prop:=TriplesOk ps/\∀(p:Pos) cv,codeAmong p ps=some cv->∃c oc vs t,cv= .ref c/\Z c=some (KO oc)/\oc.data= .fields vs/\vs[1]? =some (.str q t)
def iY.mono{Z Z':Hp}{q:Str}{ps:List Value}(h:iY Z q ps)(e:∀a o u,Z a=some (.frz o u)->Z' a=some (.frz o u)):iY Z' q ps:=⟨h.1,λp cv k=>let ⟨c,oc,vs,t,e1,e2,r⟩:=h.2 p cv k;⟨c,oc,vs,t,e1,e _ _ _ e2,r⟩⟩
def iY.nil:iY Z q []:=⟨trivial,λ_ _ h=>by simp[codeAmong] at h⟩
def wD(hb:TriplesOk b):∀(a:List Value),TriplesOk a->TriplesOk (a++b):=λa t=>by
 fun_induction TriplesOk a with
 | case1=>exact hb
 | case2 a' t' b' u x j4 ih=>exact ih t
 | case3 l h1 h2=>exact t.elim
def AD:∀(a:List Value),TriplesOk a->codeAmong p (a++b)=some cv->codeAmong p a=some cv∨codeAmong p b=some cv:=λa t e=>by
 fun_induction TriplesOk a with
 | case1=>exact .inr e
 | case2 a' t' b' u x j4 ih =>
   simp only[List.cons_append,codeAmong] at e ⊢;split at e
   . rename_i hc;rw[ja hc];exact .inl e
   . rename_i hc;rw[j9 hc];exact ih t e
 | case3 l h1 h2=>exact t.elim
def iY.app(hb:iY Z q b)(ha:iY Z q a):iY Z q (a++b):=⟨wD hb.1 a ha.1,λp cv e=>(AD a ha.1 e).elim (ha.2 p cv) (hb.2 p cv)⟩
structure Un(fs ex:List Addr)(H H':Hp)(h h':Heap):Prop where
 keep:∀b o,h.get? b=some o->H b=none->b∉fs->b∉ex->h'.get? b=some o
 slot:∀b o,h.get? b=some o->H b=none->b∈fs->b∉ex->∃sl,h'.get? b=some {o with slots:=sl}
 free:∀b o,h.get? b=some o->H b=none->b∉ex->H' b=none
 there:∀b o,h.get? b=some o->b∉ex->∃o',h'.get? b=some o'
 tups:∀b xs,H b=some (.tup xs)->H' b=some (.tup xs)
 frzs:∀b o u,H b=some (.frz o u)->H' b=some (.frz o u)
 tbls:∀b q ps,H b=some (.tbl q ps)->∃more,H' b=some (.tbl q (ps++more))/\iY H' q more.toList
section
variable{fs fs' ex ex':List Addr}{H H1 H2:Hp}{h h1 h2 h':Heap}{a x e:Addr}{o:HO}
def Un.any(u:Un fs ex H H1 h h1)(q:h.get? b=some ob)(n:H b=none)(hx:b∉ex):∃sl,h1.get? b=some {ob with slots:=sl}:=by
 by_cases hb:b∈fs
 . exact u.slot b ob q n hb hx
 . exact⟨ob.slots,u.keep b ob q n hb hx⟩
def Un.kept(k:∀b u,h.get? b=some u->h'.get? b=some u):Un fs ex H H h h' :=
 ⟨λb ob q _ _ _=>k b ob q,λb ob q _ _ _=>⟨ob.slots,k b ob q⟩,λ_ _ _ n _=>n,λb ob q _=>⟨ob,k b ob q⟩,λ_ _ q=>q,λ_ _ _ q=>q,λ_ _ ps q=>⟨#[],by rw[q];simp,.nil⟩⟩
def Un.refl:Un fs ex H H h h:=Un.kept λ_ _ q=>q
def Un.laid(k:∀b u,h.get? b=some u->h'.get? b=some u)(hp:h.objs.size<=a)(hn:H a=none):Un fs ex H (upd H a o) h h' where
 keep:=λb u q _ _ _=>k b u q
 slot:=λb u q _ _ _=>⟨u.slots,k b u q⟩
 free:=λb u q n _=>by rw[aF (Nat.ne_of_lt (wFq (Heap.lt_size q) hp))];exact n
 there:=λb u q _=>⟨u,k b u q⟩
 tups:=λb xs q=>by rw[aF (aL q hn)];exact q
 frzs:=λb u xs q=>by rw[aF (aL q hn)];exact q
 tbls:=λb _ ps q=>⟨#[],by rw[aF (aL q hn),q];simp,.nil⟩
def Un.write(mu:Mut (H x))(he:e=x∨H e=some (.own x))(k:∀b u,b≠e->h.get? b=some u->h'.get? b=some u)(heo:∃u,h'.get? e=some u):Un fs ex H (upd H x o) h h':=by
 have hx:∀b,H b=none->b≠x:=λb n z=>by subst z;rw[n] at mu;exact mu
 have hb:∀b,H b=none->b≠e:=λb n z=>by
   subst z;rcases he with r|r
   . exact hx b n r
   . rw[n] at r;cases r
 have hm:∀b u,H b=some u->¬Mut (some u)->b≠x:=λb u q nm z=>by subst z;rw[q] at mu;exact nm mu
 refine⟨λb u q n _ _=>k b u (hb b n) q,λb u q n _ _=>⟨u.slots,k b u (hb b n) q⟩,λb u q n _=>by rw[aF (hx b n)];exact n,λb u q _=>?_,
   λb xs q=>by rw[aF (hm b _ q λz=>z)];exact q,λb u xs q=>by rw[aF (hm b _ q λz=>z)];exact q,λb _ ps q=>⟨#[],by rw[aF (hm b _ q λz=>z),q];simp,.nil⟩⟩
 by_cases hbe:b=e
 . subst hbe;exact heo
 . exact⟨u,k b u hbe q⟩
end
noncomputable def trk(h:Heap)(H:Hp):List Addr:=(List.range h.objs.size).filter λa=>(H a).isSome
def yU(h:Heap)(H:Hp):Heap:=W.hideAll h (trk h H)
def LO(h:Heap)(H:Hp):(yU h H).objs.size=h.objs.size:=W.hideAll_size _ _
def SR(e:h.get? b=some o)(n:H b=none):(yU h H).get? b=some o :=
 W.hideAll_get _ e λhm=>by
   have q:(H b).isSome=true:=(List.mem_filter.mp hm).2;rw[n] at q;simp at q
def XF(e:(yU h H).get? b=some o):h.get? b=some o/\H b=none:=by
 have e':h.get? b=some o:=W.of_hideAll (trk h H) e;refine⟨e',?_⟩;cases q:H b with
 | none=>rfl
 | some x =>
   have hm:b∈trk h H:=List.mem_filter.mpr ⟨List.mem_range.mpr (Heap.lt_size e'),by simp[q]⟩;have z:(yU h H).get? b=none:=W.hideAll_none (trk h H) hm;rw[z] at e;cases e
noncomputable def YX(g h:Heap)(L:Addr):List (Addr×Obj):=(List.range h.objs.size).filterMap λa=>if a=L∨(g.get? a).isSome=true then none else(h.get? a).map λo=>(a,o)
def j4(g h:Heap)(L d:Addr):List (Addr×Obj):=(YX g h L).filter λp=>decide (p.1≠d)
structure Mod(K:W.Frag)(mg:Str->Option Value)(base:Heap):Prop where
 kin:K.In base
 glob:base.Ns mainGlobals mg
 blt:∃mb,base.Ns builtinsNs mb/\∀x:Str,x≠"__name__"->mb x=bootBuiltins x
 nolimit:base.NoLimit
structure Cx where
 prog:J7
 w:World
 K:W.Frag
 mg:Str->Option Value
 base:Heap
 A:Around
 N:List Str
 s₀:J5
 H₀:Hp
 env:Env
 outer:List Env
 stack:List Env
 ex:List Addr
 fn:Str->Bool
 calm:Bool
 pn:List (Addr×Obj)
 xe:Value->J5->Prop
noncomputable def frs(l:List Env):List Addr:=l.filterMap (·.frame)
abbrev Cx.fs(X:Cx):List Addr:=frs X.outer
def Vis(sc:Scope)(x:Str):Prop:=sc.names.lookup x=some .local∨sc.names.lookup x=some .cell∨sc.names.lookup x=some .free
def Loc(sc:Scope)(x:Str):Prop:=sc.names.lookup x=some .local∨sc.names.lookup x=some .cell
noncomputable def aFM(env:Env)(h:Heap)(m:Str->Option Value)(x:Str)(u:Value):Prop :=
 (env.kindOf x=some .local/\m x=some u)∨((env.kindOf x=some .cell∨env.kindOf x=some .free)/\∃c,env.cells.lookup x=some c/\h.IsCell c (some u))
structure Cx.Ok(X:Cx):Prop where
 mod:Mod X.K X.mg X.base
 kind:X.env.scope.kind= .function
 glob:X.env.globals=mainGlobals
 blt:X.env.builtins=builtinsNs
 above:X.s₀.heap.objs.size<=X.env.locals
 inj:∀x y c,X.env.cells.lookup x=some c->X.env.cells.lookup y=some c->x=y
 has:∀x,(X.env.kindOf x=some .cell∨X.env.kindOf x=some .free)->∃c,X.env.cells.lookup x=some c
 cab:∀x c,X.fn x=true->X.env.cells.lookup x=some c->X.s₀.heap.objs.size<=c
 hd:X.calm=true->X.A.handled=none
 frames:X.A.frames=some X.stack
 stk:X.stack=X.outer∨(X.stack=X.env::X.outer/\X.env.frame=some X.env.locals)
 exf:∀b∈X.ex,b≠X.env.locals/\∀x c,X.env.cells.lookup x=some c->c≠b
 bs:∀b o,X.base.get? b=some o->X.s₀.heap.get? b=some o/\X.H₀ b=none
 bsz:X.base.objs.size<=X.s₀.heap.objs.size
 noex:∀b o,X.base.get? b=some o->b∉X.ex
 exfs:∀b∈X.ex,b∉X.fs
 funs:X.s₀.heap.FunFrames X.base X.outer
 frf:∀b∈X.fs,X.H₀ b=none
structure Inv(X:Cx)(j0:List (Addr×Obj))(Y:List (Option V))(H:Hp)(s:J5):Prop where
 ok:X.Ok
 os:s.os=X.s₀.os
 bare:AllBare s.gens
 base:Un X.fs X.ex X.H₀ H X.s₀.heap s.heap
 loc:∃m,s.heap.Ns X.env.locals m/\∀(i:Nat) (x:Str) (v:V),X.N[i]? =some x->Y[i]? =some (some v)->Vis X.env.scope x->∃u,aM v u/\aFM X.env s.heap m x u
 cell:∀x c,X.env.cells.lookup x=some c->∃v,s.heap.IsCell c v
 free:H X.env.locals=none
 freeC:∀x c,X.env.cells.lookup x=some c->H c=none
 pin:∀p∈X.pn++j0,s.heap.get? p.1=some p.2/\H p.1=none/\p.1≠X.env.locals/\p.1∉X.fs/\∀v,p.2.data≠.cell v
 hok:HOk X.prog X.w H s.heap
 len:Y.length=X.N.length
 hnd:HdP X.A H
section
variable{X:Cx}{j0:List (Addr×Obj)}{Y:List (Option V)}{H H':Hp}{s:J5}{h':Heap}
def Cx.Ok.nofr(ok:X.Ok)(e:X.base.get? b=some o):b∉X.fs:=λhb=>by
 have:=(ok.funs.mem hb).1;rw[e] at this;cases this
def Inv.bs(I:Inv X j0 Y H s):∀b o,X.base.get? b=some o->s.heap.get? b=some o/\H b=none:=λb o e =>
 ⟨I.base.keep b o (I.ok.bs b o e).1 (I.ok.bs b o e).2 (I.ok.nofr e) (I.ok.noex b o e),I.base.free b o (I.ok.bs b o e).1 (I.ok.bs b o e).2 (I.ok.noex b o e)⟩
def Inv.bk(I:Inv X j0 Y H s):∀b o,X.base.get? b=some o->s.heap.get? b=some o:=λb o e=>(I.bs b o e).1
def Inv.mod(I:Inv X j0 Y H s):Mod X.K X.mg X.base:=I.ok.mod
def Inv.kIn(I:Inv X j0 Y H s):X.K.In s.heap:=I.ok.mod.kin.keeps I.bk
def Inv.lt(I:Inv X j0 Y H s):X.env.locals<s.heap.objs.size:=let ⟨_,hn,_⟩:=I.loc;hn.lt
def Inv.sz(I:Inv X j0 Y H s):X.s₀.heap.objs.size<=s.heap.objs.size:=Nat.le_trans I.ok.above (Nat.le_of_lt I.lt)
def Inv.nofs(I:Inv X j0 Y H s){a:Addr}(h:s.heap.objs.size<=a):a∉X.fs:=λhb=>by
 obtain⟨_,o,ho,_⟩:=I.ok.funs.mem hb;exact absurd (wFq (Heap.lt_size ho) (Nat.le_trans I.sz h)) (Nat.lt_irrefl _)
def Inv.cne(I:Inv X j0 Y H s):∀x c,X.env.cells.lookup x=some c->c≠X.env.locals:=λx c e z=>by
 obtain⟨v,o,ho,hd⟩:=I.cell x c e;obtain⟨m,⟨o',es,ep,ho',hd',_⟩,_⟩:=I.loc;rw[z,ho'] at ho;cases ho;rw[hd'] at hd;cases hd
def Inv.funs(I:Inv X j0 Y H s):s.heap.FunFrames X.base X.outer:=by
 have all:∀(l:List Env),(∀b∈frs l,b∈X.fs)->X.s₀.heap.FunFrames X.base l->s.heap.FunFrames X.base l:=by
   intro l;induction l with
   | nil=>intro _ _;trivial
   | cons env r ih =>
     intro hs hl;obtain⟨hk,⟨L,o,hf,hn,ho,hd⟩,hr⟩:=hl;have hL:L∈X.fs:=hs L (by unfold frs;rw[List.filterMap_cons,hf];exact wDq);obtain⟨sl,e⟩:=I.base.slot L o ho (I.ok.frf L hL) hL λz=>I.ok.exfs L z hL;exact⟨hk,⟨L,_,hf,hn,e,hd⟩,ih (λb hb=>hs b (by unfold frs;rw[List.filterMap_cons,hf];exact wCq _ hb)) hr⟩
 exact all X.outer (λ_ hb=>hb) I.ok.funs
def Inv.stack(I:Inv X j0 Y H s):s.heap.FunFrames X.base X.stack:=by
 rcases I.ok.stk with e|⟨e,hf⟩
 . rw[e];exact I.funs
 . rw[e];obtain⟨m,hn,_⟩:=I.loc;refine .cons (by rw[I.ok.kind];decide) hf hn ?_ I.funs;exact Heap.get?_none_of_le (Nat.le_trans I.ok.bsz I.ok.above)
def Inv.stkSub(I:Inv X j0 Y H s):∀b∈frs X.stack,b∈X.env.locals::X.fs:=λb hb=>by
 rcases I.ok.stk with e|⟨e,hf⟩
 . rw[e] at hb;exact wCq _ hb
 . rw[e] at hb;unfold frs at hb;rw[List.filterMap_cons,hf] at hb;exact hb
def Inv.stkFree(I:Inv X j0 Y H s):∀b∈frs X.stack,H b=none:=λb hb=>by
 rcases List.mem_cons.mp (I.stkSub b hb) with e|hb
 . rw[e];exact I.free
 . obtain⟨_,o,ho,_⟩:=I.ok.funs.mem hb;exact I.base.free b o ho (I.ok.frf b hb) λz=>I.ok.exfs b z hb
def Inv.step{g':Array GenState}{ch:List Addr}(I:Inv X j0 Y H s)
   (hch:∀b∈ch,(b∈X.ex∨X.s₀.heap.objs.size<=b)/\b≠X.env.locals/\(∀x c,X.env.cells.lookup x=some c->c≠b)/\∀p∈X.pn++j0,p.1≠b)
   (keep:∀b o,b≠X.env.locals->b∉X.fs->b∉ch->s.heap.get? b=some o->H b=none->h'.get? b=some o)
   (slot:∀b o,b≠X.env.locals->b∈X.fs->b∉ch->s.heap.get? b=some o->H b=none->∃sl,h'.get? b=some {o with slots:=sl}) (free:∀b o,b∉ch->s.heap.get? b=some o->H b=none->H' b=none)
   (there:∀b o,b∉ch->s.heap.get? b=some o->∃o',h'.get? b=some o')
   (tups:∀b xs,H b=some (.tup xs)->H' b=some (.tup xs)) (frzs:∀b o u,H b=some (.frz o u)->H' b=some (.frz o u)) (tbls:∀b q ps,H b=some (.tbl q ps)->∃more,H' b=some (.tbl q (ps++more))/\iY H' q more.toList)
   (ns:∀m,s.heap.Ns X.env.locals m->h'.Ns X.env.locals m) (hok:HOk X.prog X.w H' h') (hg:AllBare g') :
   Inv X j0 Y H' {s with heap:=h',gens:=g',drawn:=d',toks:=t'}:=by
 have neL:∀b o,X.s₀.heap.get? b=some o->b≠X.env.locals:=λb o e=>Nat.ne_of_lt (wFq (Heap.lt_size e) I.ok.above);have neC:∀b o,X.s₀.heap.get? b=some o->b∉X.ex->b∉ch:=λb o e hx hb=>by
   rcases(hch b hb).1 with z|z
   . exact hx z
   . exact absurd (wFq (Heap.lt_size e) z) (Nat.lt_irrefl _)
 have cellK:∀x c,X.env.cells.lookup x=some c->∀v,s.heap.IsCell c v->h'.IsCell c v:=by
   rintro x c e v ⟨o,ho,hd⟩;have nch:c∉ch:=λz=>(hch c z).2.2.1 x c e rfl;by_cases hc:c∈X.fs
   . obtain⟨sl,q⟩:=slot c o (I.cne x c e) hc nch ho (I.freeC x c e);exact⟨_,q,hd⟩
   . exact⟨o,keep c o (I.cne x c e) hc nch ho (I.freeC x c e),hd⟩
 refine⟨I.ok,I.os,hg,⟨λb o e n hb hx=>?_,λb o e n hb hx=>?_,λb o e n hx=>?_,λb o e hx=>?_,λb xs e=>tups b xs (I.base.tups b xs e),λb o xs e=>frzs b o xs (I.base.frzs b o xs e),λb n ps e=>?_⟩,?_,λx c e=>?_,?_,λx c e=>?_,λp hp=>?_,hok,I.len,I.hnd.mono frzs⟩
 . exact keep b o (neL b o e) hb (neC b o e hx) (I.base.keep b o e n hb hx) (I.base.free b o e n hx)
 . obtain⟨sl,e1⟩:=I.base.slot b o e n hb hx;obtain⟨sl',e2⟩:=slot b _ (neL b o e) hb (neC b o e hx) e1 (I.base.free b o e n hx);exact⟨sl',e2⟩
 . obtain⟨o',e1⟩:=I.base.there b o e hx;exact free b o' (neC b o e hx) e1 (I.base.free b o e n hx)
 . obtain⟨o',e1⟩:=I.base.there b o e hx;exact there b o' (neC b o e hx) e1
 . obtain⟨m1,e1,t1⟩:=I.base.tbls b n ps e;obtain⟨m2,e2,t2⟩:=tbls b _ _ e1;exact⟨m1++m2,by rw[e2,Array.append_assoc],by rw[Array.toList_append];exact t2.app (t1.mono frzs)⟩
 . obtain⟨m,hn,hl⟩:=I.loc;refine⟨m,ns m hn,λi x v e1 e2 e3=>?_⟩;obtain⟨u,r,l⟩:=hl i x v e1 e2 e3;refine⟨u,r,?_⟩;rcases l with l|⟨k,c,e,z⟩
   . exact .inl l
   . exact .inr ⟨k,c,e,cellK x c e _ z⟩
 . obtain⟨v,z⟩:=I.cell x c e;exact⟨v,cellK x c e v z⟩
 . obtain⟨m,⟨o,_,_,ho,_⟩,_⟩:=I.loc;exact free _ o (λz=>(hch _ z).2.1 rfl) ho I.free
 . obtain⟨v,o,ho,hd⟩:=I.cell x c e;exact free c o (λz=>(hch c z).2.2.1 x c e rfl) ho (I.freeC x c e)
 . obtain⟨e,n,ne,nf,d⟩:=I.pin p hp;have nch:p.1∉ch:=λz=>(hch p.1 z).2.2.2 p hp rfl;exact⟨keep p.1 p.2 ne nf nch e n,free p.1 p.2 nch e n,ne,nf,d⟩
def Inv.un(I:Inv X j0 Y H s)(u:Un X.fs [] H H' s.heap h')(hok:HOk X.prog X.w H' h'):Inv X j0 Y H' {s with heap:=h',toks:=t'}:=by
 obtain⟨m,⟨o,es,ep,ho,r⟩,_⟩:=id I.loc;obtain⟨sl,hL⟩:=u.any ho I.free (by simp);exact I.step (g':=s.gens) (d':=s.drawn) (ch:=[]) (λ_ z=>nomatch z) (λb o _ hb _ e n=>u.keep b o e n hb (by simp)) (λb o _ hb _ e n=>u.slot b o e n hb (by simp)) (λb o _ e n=>u.free b o e n (by simp)) (λb o _ e=>u.there b o e (by simp)) u.tups u.frzs u.tbls (λm' hm=>by
   obtain⟨o',es',ep',ho',r'⟩:=hm;rw[ho] at ho';cases ho';exact⟨_,es',ep',hL,r'⟩) hok I.bare
def Inv.call(I:Inv X j0 Y H s)(u:Un (frs X.stack) ch H H' s.heap h')(hok:HOk X.prog X.w H' h')(hg:AllBare g')
   (hch:∀b∈ch,(b∈X.ex∨X.s₀.heap.objs.size<=b)/\b≠X.env.locals/\(∀x c,X.env.cells.lookup x=some c->c≠b)/\∀p∈X.pn++j0,p.1≠b) :
   Inv X j0 Y H' {s with heap:=h',gens:=g',drawn:=d',toks:=t'}:=by
 obtain⟨m,⟨o,es,ep,ho,r⟩,_⟩:=id I.loc;obtain⟨sl,hL⟩:=u.any ho I.free λz=>(hch _ z).2.1 rfl;exact I.step (ch:=ch) hch (λb o hL hb hc e n=>u.keep b o e n (λz=>(List.mem_cons.mp (I.stkSub b z)).elim hL hb) hc) (λb o _ _ hc e n=>u.any e n hc) (λb o hc e n=>u.free b o e n hc) (λb o hc e=>u.there b o e hc) u.tups u.frzs u.tbls (λm' hm=>by
   obtain⟨o',es',ep',ho',r'⟩:=hm;rw[ho] at ho';cases ho';exact⟨_,es',ep',hL,r'⟩) hok hg
def Inv.turned(I:Inv X j0 Y H s)(k:∀b o,b≠it->s.heap.get? b=some o->h'.get? b=some o)(hn:H it=none)(hL:it≠X.env.locals)
   (h1:it∈X.ex∨X.s₀.heap.objs.size<=it) (h2:∀x c,X.env.cells.lookup x=some c->c≠it) (h3:∀p∈X.pn++j0,p.1≠it):Inv X j0 Y H {s with heap:=h',toks:=t'}:=by
 have nit:∀b u,H b=some u->b≠it:=λb u e z=>by rw[z,hn] at e;cases e
 refine I.step (g':=s.gens) (d':=s.drawn) (ch:=[it]) (λb hb=>?_) (λb o _ _ hc e _=>k b o (λz=>hc (by simp[z])) e) (λb o _ _ hc e _=>⟨o.slots,k b o (λz=>hc (by simp[z])) e⟩) (λ_ _ _ _ n=>n)
   (λb o hc e=>⟨o,k b o (λz=>hc (by simp[z])) e⟩) (λ_ _ e=>e) (λ_ _ _ e=>e) (λb _ ps e=>⟨#[],by rw[e];simp,.nil⟩) (λm hm=>?_) (λb u e=>?_) I.bare
 . have e:b=it:=by simpa using hb
   subst e;exact⟨h1,hL,h2,h3⟩
 . obtain⟨o,es,ep,ho,r⟩:=hm;exact⟨o,es,ep,k _ o (Ne.symm hL) ho,r⟩
 . refine(I.hok b u e).stay (λc v hc q=>k c v ?_ q) (λ_ q=>q) λ_ _ q=>q;rcases hc with z|z
   . rw[z];exact nit b u e
   . exact nit c _ z
def Inv.tok(I:Inv X j0 Y H s)(t:Nat):Inv X j0 Y H {s with toks:=t}:=I.un (h':=s.heap) (t':=t) Un.refl I.hok
def Inv.kept(I:Inv X j0 Y H s)(k:∀b u,s.heap.get? b=some u->h'.get? b=some u):Inv X j0 Y H {s with heap:=h',toks:=t'}:=I.un (Un.kept k) (I.hok.kept k)
def Inv.laid{a:Addr}{o:HO}{t':Nat}(I:Inv X j0 Y H s)(k:∀b u,s.heap.get? b=some u->h'.get? b=some u)(hp:s.heap.objs.size<=a)(new:cA X.prog X.w (upd H a o) h' a o) :
   Inv X j0 Y (upd H a o) {s with heap:=h',toks:=t'}:=I.un (Un.laid k hp (I.hok.fresh hp)) (I.hok.laid k hp new)
def Inv.write(I:Inv X j0 Y H s)(mu:Mut (H x))(he:e=x∨H e=some (.own x))(k:∀b u,b≠e->s.heap.get? b=some u->h'.get? b=some u)(heo:∃u,h'.get? e=some u)
   (new:cA X.prog X.w (upd H x o) h' x o):Inv X j0 Y (upd H x o) {s with heap:=h',toks:=t'}:=I.un (Un.write mu he k heo) (I.hok.write mu he k heo new)
def Inv.pins_of(I:Inv X j0 Y H s)(h:∀p∈pins',s.heap.get? p.1=some p.2/\H p.1=none/\p.1≠X.env.locals/\p.1∉X.fs/\∀v,p.2.data≠.cell v):Inv X pins' Y H s :=
 ⟨I.ok,I.os,I.bare,I.base,I.loc,I.cell,I.free,I.freeC,λp hp=>(List.mem_append.mp hp).elim (λz=>I.pin p (List.mem_append_left _ z)) (h p),I.hok,I.len,I.hnd⟩
def AB{N:List Str}(hN:N.Nodup){i j:Nat}{x:Str}(a:N[i]? =some x)(b:N[j]? =some x):i=j:=by
 obtain⟨h1,e1⟩:=List.getElem?_eq_some_iff.mp a;obtain⟨h2,e2⟩:=List.getElem?_eq_some_iff.mp b;exact(List.getElem_inj hN).mp (e1.trans e2.symm)
def IL(I:Inv X j0 Y H s)(hN:X.N.Nodup)(hi:X.N[i]? =some x)(hx:Loc X.env.scope x)(r:aM v u)
   (h:∀s',Inv X j0 (Y.set i (some v)) H s'->(∃a,Heap.SameBut a s.heap s'.heap/\(a=X.env.locals∨X.env.cells.lookup x=some a))->Q () s') (hf:X.fn x=true∨X.env.scope.names.lookup x=some .local:=by first|exact .inl rfl|exact .inr rfl|assumption):wpAny M A (storeName X.env x u) Q E s:=by
 obtain⟨m,hn,hl⟩:=id I.loc;have hcls:(X.env.scope.kind==.class||(X.env.scope.kind==.module&&X.env.locals !=X.env.globals))=false:=by rw[I.ok.kind];rfl
 have hiY:i<Y.length:=by rw[I.len];exact(List.getElem?_eq_some_iff.mp hi).1
 have cne:=I.cne;have tracked:∀{a:Addr} {h':Heap},(∃o,s.heap.get? a=some o/\H a=none)->Heap.SameBut a s.heap h'->HOk X.prog X.w H h':=λ{a h'} ha hs b ob e=>by
   obtain⟨_,_,hfree⟩:=ha;refine(I.hok b ob e).stay (λc w' hc q=>(hs.2 c ?_).trans q) (λ_ q=>q) λ_ _ q=>q;rintro rfl;rcases hc with rfl|hc
   . rw[hfree] at e;cases e
   . rw[hfree] at hc;cases hc
 rcases hx with hk|hk
 . refine wpAny_storeName_local hk hn (λh' hn' hs=>?_) hcls;obtain⟨oL,_,_,hoL,_⟩:=id hn;refine h _ ⟨I.ok,I.os,I.bare,⟨λb o e n hb hx=>?_,λb o e n hb hx=>?_,I.base.free,λb o e hx=>?_,I.base.tups,I.base.frzs,I.base.tbls⟩,⟨_,hn',λj y v' e1 e2 e3=>?_⟩,λy c e=>?_,I.free,I.freeC,λp hp=>?_,tracked ⟨oL,hoL,I.free⟩ hs,by simpa using I.len,I.hnd⟩ ⟨_,hs,.inl rfl⟩
   . exact(hs.2 b (Nat.ne_of_lt (wFq (Heap.lt_size e) I.ok.above))).trans (I.base.keep b o e n hb hx)
   . obtain⟨sl,e1⟩:=I.base.slot b o e n hb hx;exact⟨sl,(hs.2 b (Nat.ne_of_lt (wFq (Heap.lt_size e) I.ok.above))).trans e1⟩
   . obtain⟨o',e1⟩:=I.base.there b o e hx;exact⟨o',(hs.2 b (Nat.ne_of_lt (wFq (Heap.lt_size e) I.ok.above))).trans e1⟩
   . by_cases hj:j=i
     . subst hj;rw[hi] at e1;cases e1;rw[List.getElem?_set_self hiY] at e2;cases e2;exact⟨u,r,.inl ⟨hk,by simp⟩⟩
     . rw[List.getElem?_set_ne (Ne.symm hj)] at e2;obtain⟨u',r',q⟩:=hl j y v' e1 e2 e3;refine⟨u',r',?_⟩;rcases q with ⟨k,e⟩|⟨k,c,e,z⟩
       . refine .inl ⟨k,?_⟩;have:y≠x:=λe=>hj (AB hN e1 (e▸hi));simp[this,e]
       . exact .inr ⟨k,c,e,z.sameBut hs (cne y c e)⟩
   . obtain⟨w',z⟩:=I.cell y c e;exact⟨w',z.sameBut hs (cne y c e)⟩
   . obtain⟨e,n,ne,nf,d⟩:=I.pin p hp;exact⟨(hs.2 p.1 ne).trans e,n,ne,nf,d⟩
 . have hfn:X.fn x=true:=by
     rcases hf with z|z
     . exact z
     . rw[z] at hk;cases hk
   obtain⟨c,hc⟩:=I.ok.has x (.inl hk);obtain⟨w',z⟩:=I.cell x c hc;refine wpAny_storeName_cell I.ok.kind hk hc z (λh' hc' hs=>?_);obtain⟨oc,hoc,hocd⟩:=id z;refine h {s with heap:=h'} ⟨I.ok,I.os,I.bare,⟨λb o e n hb hx=>?_,λb o e n hb hx=>?_,I.base.free,λb o e hx=>?_,I.base.tups,I.base.frzs,I.base.tbls⟩,⟨m,hn.sameBut hs (Ne.symm (cne x c hc)),λj y v' e1 e2 e3=>?_⟩,λy c' e=>?_,I.free,I.freeC,λp hp=>?_,tracked ⟨oc,hoc,I.freeC x c hc⟩ hs,by simpa using I.len,I.hnd⟩ ⟨c,hs,.inr hc⟩
   . exact(hs.2 b (Nat.ne_of_lt (wFq (Heap.lt_size e) (I.ok.cab x c hfn hc)))).trans (I.base.keep b o e n hb hx)
   . obtain⟨sl,e1⟩:=I.base.slot b o e n hb hx;exact⟨sl,(hs.2 b (Nat.ne_of_lt (wFq (Heap.lt_size e) (I.ok.cab x c hfn hc)))).trans e1⟩
   . obtain⟨o',e1⟩:=I.base.there b o e hx;exact⟨o',(hs.2 b (Nat.ne_of_lt (wFq (Heap.lt_size e) (I.ok.cab x c hfn hc)))).trans e1⟩
   . by_cases hj:j=i
     . subst hj;rw[hi] at e1;cases e1;rw[List.getElem?_set_self hiY] at e2;cases e2;exact⟨u,r,.inr ⟨.inl hk,c,hc,hc'⟩⟩
     . rw[List.getElem?_set_ne (Ne.symm hj)] at e2;obtain⟨u',r',q⟩:=hl j y v' e1 e2 e3;refine⟨u',r',?_⟩;rcases q with q|⟨k,c',e,z'⟩
       . exact .inl q
       . refine .inr ⟨k,c',e,z'.sameBut hs ?_⟩;rintro rfl;exact hj (AB hN e1 (I.ok.inj _ _ _ e hc▸hi))
   . by_cases hcc:c'=c
     . subst hcc;exact⟨_,hc'⟩
     . obtain⟨w2,z2⟩:=I.cell y c' e;exact⟨w2,z2.sameBut hs hcc⟩
   . obtain⟨e,n,ne,nf,d⟩:=I.pin p hp;refine⟨(hs.2 p.1 ?_).trans e,n,ne,nf,d⟩;intro q;rw[q,hoc] at e;have q':oc=p.2:=Option.some.inj e;exact d w' (by rw[<-q'];exact hocd)
def mP(I:Inv X j0 Y H s)(hN:X.N.Nodup)(hi:X.N[i]? =some x)(hx:Loc X.env.scope x)(r:aM v u)
   (h:∀s',Inv X j0 (Y.set i (some v)) H s'->Q () s') (hf:X.fn x=true∨X.env.scope.names.lookup x=some .local:=by first|exact .inl rfl|exact .inr rfl|assumption):wpAny M A (storeName X.env x u) Q E s :=
 IL I hN hi hx r (λs' I' _=>h s' I') hf
def Inv.call'(I:Inv X j0 Y H s)(ho:s'.os=s.os)(u:Un (frs X.stack) ch H H' s.heap s'.heap)(hok:HOk X.prog X.w H' s'.heap)(hg:AllBare s'.gens)
   (hch:∀b∈ch,(b∈X.ex∨X.s₀.heap.objs.size<=b)/\b≠X.env.locals/\(∀x c,X.env.cells.lookup x=some c->c≠b)/\∀p∈X.pn++j0,p.1≠b):Inv X j0 Y H' s':=by
 obtain⟨h',g',d',t',o'⟩:=s';have e:o'=s.os:=ho;subst e;exact I.call (g':=g') (t':=t') (d':=d') u hok hg hch
end
abbrev XK:=Value->Option Addr->Hp->Prop
noncomputable abbrev St:=List (Option V)
abbrev VK:=V->Hp->Prop
abbrev TE:=St->Hp->VK->Prop
abbrev TT:=St->Hp->(Bool->Hp->Prop)->Prop
abbrev TA:=St->Hp->(List V->Hp->Prop)->Prop
structure AY where
 nx:St->Hp->Prop
 rt:VK
 bk:St->Hp->Prop:=λ_ _=>False
 ct:St->Hp->Prop:=λ_ _=>False
abbrev TS:=AY->St->Hp->Prop
def EP(X:Cx)(j0:List (Addr×Obj))(Y:St)(Q:VK)(u:Value)(s':J5):Prop:= ∃v H',Inv X j0 Y H' s'/\aM v u/\Q v H'
def TP(X:Cx)(j0:List (Addr×Obj))(Y:St)(Q:Bool->Hp->Prop)(b:Bool)(s':J5):Prop:= ∃H',Inv X j0 Y H' s'/\Q b H'
def AP(X:Cx)(j0:List (Addr×Obj))(Y:St)(Q:List V->Hp->Prop)(us:List Value)(s':J5):Prop:= ∃vs H',Inv X j0 Y H' s'/\aI vs us/\Q vs H'
def SP(X:Cx)(j0:List (Addr×Obj))(D:AY)(f:Flow)(s':J5):Prop :=
 match f with
 | .next=>∃Y' H',Inv X j0 Y' H' s'/\D.nx Y' H'
 | .brk=>∃Y' H',Inv X j0 Y' H' s'/\D.bk Y' H'
 | .cont=>∃Y' H',Inv X j0 Y' H' s'/\D.ct Y' H'
 | .ret u=>∃v Y' H',Inv X j0 Y' H' s'/\aM v u/\D.rt v H'
def PE(X:Cx)(e:Expr)(t:TE):Prop :=
 ∀(j0:List (Addr×Obj)) (s:J5) (Y:St) (H:Hp) (Q:VK),Inv X j0 Y H s->t Y H Q->wpAny (model X.prog X.w) X.A (eval e X.env) (EP X j0 Y Q) X.xe s
def PT(X:Cx)(e:Expr)(t:TT):Prop :=
 ∀(j0:List (Addr×Obj)) (s:J5) (Y:St) (H:Hp) (Q:Bool->Hp->Prop),Inv X j0 Y H s->t Y H Q->wpAny (model X.prog X.w) X.A (isTrue e X.env (eval e X.env)) (TP X j0 Y Q) X.xe s
def PW(X:Cx)(e:Expr)(t:TT):Prop :=
 ∀(whole:Sem Value) (j0:List (Addr×Obj)) (s:J5) (Y:St) (H:Hp) (Q:Bool->Hp->Prop),Inv X j0 Y H s->t Y H Q->wpAny (model X.prog X.w) X.A (isTrue e X.env whole) (TP X j0 Y Q) X.xe s
def PW.pt(h:PW X e t):PT X e t:=h _
def PA(X:Cx)(es:List Expr)(t:TA):Prop :=
 ∀(pos:Pos) (j0:List (Addr×Obj)) (s:J5) (Y:St) (H:Hp) (Q:List V->Hp->Prop),Inv X j0 Y H s->t Y H Q->wpAny (model X.prog X.w) X.A (spliced (backTo pos (starEach es X.env))) (AP X j0 Y Q) X.xe s
def PS(X:Cx)(st:Stmt)(t:TS):Prop :=
 ∀(j0:List (Addr×Obj)) (s:J5) (Y:St) (H:Hp) (D:AY),Inv X j0 Y H s->t D Y H->wpAny (model X.prog X.w) X.A (exec st X.env) (SP X j0 D) X.xe s
def PSs(X:Cx)(st:List Stmt)(t:TS):Prop :=
 ∀(j0:List (Addr×Obj)) (s:J5) (Y:St) (H:Hp) (D:AY),Inv X j0 Y H s->t D Y H->wpAny (model X.prog X.w) X.A (execs st X.env) (SP X j0 D) X.xe s
def thn{α:Type}{t:Sem α}{Q Q':α->J5->Prop}{M:Model}{A:Around}{E:Value->J5->Prop}{s:J5}(h:wpAny M A t Q E s)(hQ:∀a s,Q a s->Q' a s):wpAny M A t Q' E s:=wpAny_mono h hQ λ_ _ x=>x
section
variable{X:Cx}
def bin{a b:Expr}(ha:PE X a ta)(hb:PE X b tb){Y:St}{H:Hp}{R:V->V->Hp->Prop}(I:Inv X j0 Y H s)(h:ta Y H λx H1=>tb Y H1 λy H2=>R x y H2)
   {α:Type} {Q:α->J5->Prop} {f:Value->Value->Sem α}
   (hf:∀v u s2 x y H2,Inv X j0 Y H2 s2->aM x v->aM y u->R x y H2->wpAny (model X.prog X.w) X.A (f v u) Q X.xe s2) :
   wpAny (model X.prog X.w) X.A (eval a X.env) (λv s₁=>wpAny (model X.prog X.w) X.A (eval b X.env) (λu s₂=>wpAny (model X.prog X.w) X.A (f v u) Q X.xe s₂) X.xe s₁) X.xe s:=by
 refine thn (ha j0 s Y H _ I h) λv s1 zz=>?_;obtain⟨x,H1,I1,r1,q1⟩:=zz;refine thn (hb j0 s1 Y H1 _ I1 q1) λu s2 zz=>?_;obtain⟨y,H2,I2,r2,q2⟩:=zz;exact hf v u s2 x y H2 I2 r1 r2 q2
def aDE(i:Nat):TE:=λY H Q=>∃v,Y[i]? =some (some v)/\Q v H
def tC(v:V):TE:=λ_ H Q=>Q v H
def MW(hN:X.N[i]? =some x)(hv:Vis X.env.scope x)(hd:(x==("__debug__":Str))=false:=by decide)(hcd:(x==("__classdict__":Str))=false:=by decide):PE X (.Name x pos) (aDE i):=by
 intro j0 s Y H Q I h;obtain⟨v,e,h⟩:=h;obtain⟨m,hn,hl⟩:=I.loc;obtain⟨u,r,l⟩:=hl i x v hN e hv;have fin:EP X j0 Y Q u s:=⟨v,H,I,r,h⟩;rcases l with ⟨hk,hm⟩|⟨hk,c,hc,hcell⟩
 . exact wpAny_Name (wpAny_loadName_local I.ok.kind hk hn hm fin) hd
 . rcases hk with hk|hk
   . exact wpAny_Name (wpAny_loadName_cell I.ok.kind hk hc hcell fin) hd
   . exact wpAny_Name (wpAny_loadName_free I.ok.kind hk hc hcell fin hcd) hd
def SO:PE X (.Constant (.int i) j pos) (tC (.int i)):=λ_ _ _ H _ I h=>wpAny_Constant_int ⟨.int i,H,I.tok _,⟨_,rfl⟩,h⟩
def aE6:PE X (.Constant (.bool b) j pos) (tC (.bl b)):=λ_ _ _ H _ I h=>Constant_bool ⟨.bl b,H,I,rfl,h⟩
def aAL:PE X (.Constant .none j pos) (tC .non):=λ_ _ _ H _ I h=>Constant_none ⟨.non,H,I,rfl,h⟩
def aCG:PE X (.Constant (.str x) j pos) (tC (.str x)):=λ_ _ _ H _ I h=>Calls.Constant_str ⟨.str x,H,I.tok _,⟨_,rfl⟩,h⟩
def Gl(X:Cx)(x:Str):Prop:=X.env.kindOf x=some .globalImplicit
def iH{E:Value->J5->Prop}{s:J5}{Y:St}{x:Str}{Q:Value->J5->Prop}(I:Inv X j0 Y H s)(hg:Gl X x)(hm:X.mg x=some u)(h:Q u s)
   (hd:(x==("__debug__":Str))=false:=by decide):wpAny (model X.prog X.w) X.A (eval (.Name x pos) X.env) Q E s :=
 Calls.Name_function_global I.ok.kind hg (Calls.loadGlobal_global (by rw[I.ok.glob];exact I.mod.glob.keeps I.bk) hm h) hd
def jA{E:Value->J5->Prop}{j0:List (Addr×Obj)}{s:J5}{Y:St}{H:Hp}{x:Str}{u:Value}{pos:Pos}{Q:Value->J5->Prop}(I:Inv X j0 Y H s)(hg:Gl X x)(hm:X.mg x=none)(hv:bootBuiltins x=some u)(h:Q u s)
   (hn:x≠"__name__":=by decide) (hd:(x==("__debug__":Str))=false:=by decide):wpAny (model X.prog X.w) X.A (eval (.Name x pos) X.env) Q E s:=by
 obtain⟨mb,h1,h2⟩:=I.mod.blt;exact Calls.Name_function_global I.ok.kind hg (Calls.loadGlobal_builtin (by rw[I.ok.glob];exact I.mod.glob.keeps I.bk) hm (by rw[I.ok.blt];exact h1.keeps I.bk) ((h2 x hn).trans hv) h) hd
def UO(hg:Gl X x)(hm:X.mg x=some u)(r:aM v u)(hd:(x==("__debug__":Str))=false:=by decide):PE X (.Name x pos) (tC v) :=
 λ_ _ _ H _ I h=>iH I hg hm ⟨v,H,I,r,h⟩ hd
def XS(hg:Gl X x)(hm:X.mg x=none)(hv:bootBuiltins x=some u)(r:aM v u)(hn:x≠"__name__":=by decide)(hd:(x==("__debug__":Str))=false:=by decide):PE X (.Name x pos) (tC v) :=
 λ_ _ _ H _ I h=>jA I hg hm hv ⟨v,H,I,r,h⟩ hn hd
noncomputable def t2I(ta tb:TE)(k:Int->Int->Hp->Prop):St->Hp->Prop:=λY H=>ta Y H λx H1=>tb Y H1 λy H2=>∃i j,x= .int i/\y= .int j/\k i j H2
def aEP(ta tb:TE):TE:=λY H Q=>t2I ta tb (λi j H2=>Q (.int (i-j)) H2) Y H
variable{a b:Expr}{ta tb:TE}{pos:Pos}
def aEQ(p:Int->Int->Bool)(ta tb:TE):TE:=λY H Q=>t2I ta tb (λi j H2=>Q (.bl (p i j)) H2) Y H
def tB(t:TE):TT:=λY H Q=>t Y H λx H1=>∃c,x= .bl c/\Q c H1
variable{tA tB':TT}{j4:List Expr}
def aEt(t u:TT):TT:=λY H Q=>t Y H λc H1=>if c=true then u Y H1 Q else Q false H1
def tOr(t u:TT):TT:=λY H Q=>t Y H λc H1=>if c=true then Q true H1 else u Y H1 Q
def aGi(t:TT):TT:=λY H Q=>t Y H λc H1=>Q (!c) H1
def WE(ha:PT X a tA):PW X (.BoolOp .And [a] pos) tA:=by
 intro wh j0 s Y H Q I h;refine isTrue_and (thn (ha j0 s Y H Q I h) λc s1 e=>?_);cases c with
 | true=>exact isTrue_and_nil e
 | false=>exact e
def aCM(ha:PT X a tA):PW X (.BoolOp .Or [a] pos) tA:=by
 intro wh j0 s Y H Q I h;refine isTrue_or (thn (ha j0 s Y H Q I h) λc s1 e=>?_);cases c with
 | false=>exact isTrue_or_nil e
 | true=>exact e
def aCJ(ha:PT X a tA)(hb:PW X (.BoolOp .And (b::j4) pos) tB'):PW X (.BoolOp .And (a::b::j4) pos) (aEt tA tB'):=by
 intro wh j0 s Y H Q I h;refine isTrue_and (thn (ha j0 s Y H _ I h) λc s1 zz=>?_);obtain⟨H1,I1,q1⟩:=zz;cases c with
 | true=>exact hb wh j0 s1 Y H1 Q I1 q1
 | false=>exact⟨H1,I1,q1⟩
def aFm(ha:PT X a tA)(hb:PW X (.BoolOp .Or (b::j4) pos) tB'):PW X (.BoolOp .Or (a::b::j4) pos) (tOr tA tB'):=by
 intro wh j0 s Y H Q I h;refine isTrue_or (thn (ha j0 s Y H _ I h) λc s1 zz=>?_);obtain⟨H1,I1,q1⟩:=zz;cases c with
 | true=>exact⟨H1,I1,q1⟩
 | false=>exact hb wh j0 s1 Y H1 Q I1 q1
def aC3(ha:PT X a tA):PT X (.UnaryOp .Not a pos) (aGi tA):=by
 intro j0 s Y H Q I h;exact isTrue_not (ha j0 s Y H (λc H1=>Q (!c) H1) I h)
def aCP(h:PE X a t):PE X (.BoolOp op [a] pos) t:=λj0 s Y H Q I hw=>BoolOp_one (h j0 s Y H Q I hw)
def tIf(t:TT)(ta tb:TE):TE:=λY H Q=>t Y H λc H1=>if c=true then ta Y H1 Q else tb Y H1 Q
def TZ(hc:PT X c tA)(ha:PE X a ta)(hb:PE X b tb):PE X (.IfExp c a b pos) (tIf tA ta tb):=by
 intro j0 s Y H Q I h;refine wpAny_IfExp (thn (hc j0 s Y H _ I h) λd s1 zz=>?_);obtain⟨H1,I1,q1⟩:=zz;cases d with
 | true=>exact ha j0 s1 Y H1 Q I1 q1
 | false=>exact hb j0 s1 Y H1 Q I1 q1
end
def SqL(K:W.Frag)(H:Hp)(a:Addr)(xs:List V):Prop :=
 Rd H a (.lst xs)∨
   ∃(o:Obj) (its:Array Value) (n:Nat),K.lookup a=some o/\o.cls= .type "list"/\o.dict=none/\o.data= .seq its n/\its.size<=sizeLine/\aI xs its.toList
def SqT(K:W.Frag)(H:Hp)(a:Addr)(xs:List V):Prop :=
 Rd H a (.tup xs)∨
   ∃(o:Obj) (its:Array Value) (n:Nat),K.lookup a=some o/\o.cls= .type "tuple"/\o.data= .seq its n/\its.size<=sizeLine/\aI xs its.toList/\o.dict=none
noncomputable def aFP:Value->Option V
 | .none=>some .non
 | .bool b=>some (.bl b)
 | .int i _=>some (.int i)
 | .str x _=>some (.str x)
 | .bytes b _=>some (.byt b)
 | .float b _=>some (.flt b)
 | .ref a=>some (.ref a)
 | .type n=>some (.ty n)
 | _=>none
def aM.abs(r:aM x u):aFP u=some x:=by
 cases x with
 | non=>cases r;rfl
 | bl _=>cases r;rfl
 | int _=>obtain⟨t,rfl⟩:=r;rfl
 | str _=>obtain⟨t,rfl⟩:=r;rfl
 | byt _=>obtain⟨t,rfl⟩:=r;rfl
 | flt _=>obtain⟨t,rfl⟩:=r;rfl
 | ref _=>cases r;rfl
 | ty _=>cases r;rfl
def aM.inj(r:aM x u)(q:aM y u):x=y:=Option.some.inj (r.abs.symm.trans q.abs)
theorem aI.inj:∀{xs ys:List V} {us:List Value},aI xs us->aI ys us->xs=ys
 | _,_,_,.nil,.nil=>rfl
 | _,_,_,.cons r t,.cons r' t'=>by rw[r.inj r',aI.inj t t']
section
variable{X:Cx}{j0:List (Addr×Obj)}{Y:St}{H:Hp}{s:J5}{a:Addr}{xs ys:List V}
def SqL.of{K:W.Frag}(h:H a=some (.lst xs)):SqL K H a xs:=.inl (.inl h)
def SqT.of{K:W.Frag}(h:H a=some (.tup xs)):SqT K H a xs:=.inl (.inl h)
def Inv.list(I:Inv X j0 Y H s)(h:SqL X.K H a xs):∃its:List Value,aI xs its/\PlainL s.heap a its.toArray/\xs.length<=sizeLine:=by
 rcases h with h|⟨o,its,n,hk,hc,hd,hs,hz,r⟩
 . obtain⟨z,its,n,r,e⟩:=h.ok I.hok;exact⟨its,r,⟨_,n,e,rfl,rfl,rfl⟩,z⟩
 . refine⟨its.toList,r,⟨o,n,I.kIn a o hk,hc,hd,by simpa using hs⟩,?_⟩;have e:=r.length;simp only[Array.length_toList] at e;omega
def Inv.tuple(I:Inv X j0 Y H s)(h:SqT X.K H a xs):∃its:List Value,aI xs its/\IsTup s.heap a its.toArray/\xs.length<=sizeLine:=by
 rcases h with h|⟨o,its,n,hk,hc,hs,hz,r,_⟩
 . obtain⟨z,its,r,p⟩:=h.ok I.hok;exact⟨its,r,p.1,z⟩
 . refine⟨its.toList,r,⟨o,I.kIn a o hk,hc,n,by simpa using hs⟩,?_⟩;have e:=r.length;simp only[Array.length_toList] at e;omega
def Inv.list_inj(I:Inv X j0 Y H s)(h:SqL X.K H a xs)(h':SqL X.K H a ys):xs=ys:=by
 obtain⟨its,r,⟨o,n,e,_,_,d⟩,_⟩:=I.list h;obtain⟨its',r',⟨o',n',e',_,_,d'⟩,_⟩:=I.list h';rw[e] at e';cases e';rw[d] at d';injection d' with d1 _;have:its=its':=by simpa using congrArg Array.toList d1
 subst this;exact r.inj r'
def Inv.tuple_inj(I:Inv X j0 Y H s)(h:SqT X.K H a xs)(h':SqT X.K H a ys):xs=ys:=by
 obtain⟨its,r,⟨o,e,_,n,d⟩,_⟩:=I.tuple h;obtain⟨its',r',⟨o',e',_,n',d'⟩,_⟩:=I.tuple h';rw[e] at e';cases e';rw[d] at d';injection d' with d1 _;have:its=its':=by simpa using congrArg Array.toList d1
 subst this;exact r.inj r'
end
noncomputable abbrev Cx.wish(X:Cx)(E:Value->J5->Prop):Cx:={X with xe:=E}
noncomputable abbrev Cx.nox(X:Cx):Cx:=X.wish λ_ _=>False
def Cx.Ok.wish{X:Cx}(ok:X.Ok)(E:Value->J5->Prop):(X.wish E).Ok :=
 ⟨ok.mod,ok.kind,ok.glob,ok.blt,ok.above,ok.inj,ok.has,ok.cab,ok.hd,ok.frames,ok.stk,ok.exf,ok.bs,ok.bsz,ok.noex,ok.exfs,ok.funs,ok.frf⟩
def Cx.Ok.unwish{X:Cx}(ok:(X.wish E).Ok):X.Ok :=
 ⟨ok.mod,ok.kind,ok.glob,ok.blt,ok.above,ok.inj,ok.has,ok.cab,ok.hd,ok.frames,ok.stk,ok.exf,ok.bs,ok.bsz,ok.noex,ok.exfs,ok.funs,ok.frf⟩
section
variable{X:Cx}{j0:List (Addr×Obj)}{Y:St}{H:Hp}{s:J5}{E:Value->J5->Prop}
def Inv.wish(I:Inv X j0 Y H s)(E:Value->J5->Prop):Inv (X.wish E) j0 Y H s:=⟨I.ok.wish E,I.os,I.bare,I.base,I.loc,I.cell,I.free,I.freeC,I.pin,I.hok,I.len,I.hnd⟩
def Inv.unwish(I:Inv (X.wish E) j0 Y H s):Inv X j0 Y H s:=⟨I.ok.unwish,I.os,I.bare,I.base,I.loc,I.cell,I.free,I.freeC,I.pin,I.hok,I.len,I.hnd⟩
def SP.unwish(h:SP (X.wish E) j0 D f s'):SP X j0 D f s':=by
 cases f with
 | next=>obtain⟨Y',H',I,q⟩:=h;exact⟨Y',H',I.unwish,q⟩
 | brk=>obtain⟨Y',H',I,q⟩:=h;exact⟨Y',H',I.unwish,q⟩
 | cont=>obtain⟨Y',H',I,q⟩:=h;exact⟨Y',H',I.unwish,q⟩
 | ret u=>obtain⟨v,Y',H',I,r,q⟩:=h;exact⟨v,Y',H',I.unwish,r,q⟩
def PSs.nox{st:List Stmt}(h:PSs X.nox st t):PSs X st t:=λj0 s Y H D I hw =>
 wpAny_mono (h j0 s Y H D (I.wish _) hw) (λ_ _ q=>q.unwish) λ_ _ z=>False.elim z
end
section
variable{X:Cx}{st:Stmt}{j4:List Stmt}{t u:TS}{e:Expr}{te:TE}{pos:Pos}
def PZ:TS:=λD Y H=>D.nx Y H
def aF0(t u:TS):TS:=λD Y H=>t {D with nx:=u D} Y H
def XJ:PSs X [] PZ:=λ_ _ Y H _ I h=>wpAny_execs_nil ⟨Y,H,I,h⟩
def SS(h1:PS X st t)(h2:PSs X j4 u):PSs X (st::j4) (aF0 t u):=by
 intro j0 s Y H D I h;refine wpAny_execs_cons (thn (h1 j0 s Y H {D with nx:=u D} I h) λf s1 q=>?_);cases f with
 | next =>
   obtain⟨Y',H',I',q⟩:=q;exact h2 j0 s1 Y' H' D I' q
 | ret v=>exact q
 | brk=>exact q
 | cont=>exact q
def WT(h1:PS X st t):PSs X [st] t:=by
 intro j0 s Y H D I h;refine wpAny_execs_cons (thn (h1 j0 s Y H D I h) λf s1 q=>?_);cases f with
 | next=>exact wpAny_execs_nil q
 | ret v=>exact q
 | brk=>exact q
 | cont=>exact q
def XX:PS X (.Pass pos) PZ:=λ_ _ Y H _ I h=>wpAny_Pass ⟨Y,H,I,h⟩
def Inv.quiet{j0:List (Addr×Obj)}{Y:St}{H:Hp}{s:J5}(I:Inv X j0 Y H s):interactive X.env=false:=by simp[interactive,I.ok.kind]
def aAN:PS X (.Expr (.Constant (.str x) j pos) pos') PZ:=λ_ s Y H _ I h=>wpAny_Expr (Calls.Constant_str (show SP X _ _ .next {s with toks:=s.toks+1} from⟨Y,H,I.tok _,h⟩)) I.quiet
def aES(te:TE):TS:=λD Y H=>te Y H λ_ H1=>D.nx Y H1
def WQ(he:PE X e te)(hs:swapsWith e none pos.line X.env=pure false:=by rfl):PS X (.Expr e pos) (aES te):=by
 intro j0 s Y H D I h;exact wpAny_Expr_any (thn (he j0 s Y H _ I h)<|by rintro v s1 ⟨x,H1,I1,r1,q1⟩;exact⟨Y,H1,I1,q1⟩) I.quiet hs
def aFR(te:TE):TS:=λD Y H=>te Y H D.rt
def aBB(he:PE X e te):PS X (.Return (some e) pos) (aFR te):=by
 intro j0 s Y H D I h;exact wpAny_Return_some (thn (he j0 s Y H _ I h)<|by rintro v s1 ⟨x,H1,I1,r1,q1⟩;exact⟨x,Y,H1,I1,r1,q1⟩)
def aEz:TS:=λD _ H=>D.rt .non H
def WY:PS X (.Return none pos) aEz:=λ_ _ Y H _ I h=>wpAny_Return_none ⟨.non,Y,H,I,rfl,h⟩
def aFI(c:TT)(t u:TS):TS:=λD Y H=>c Y H λb H1=>if b=true then t D Y H1 else u D Y H1
def aFg(hc:PT X c tc)(ha:PSs X a t)(hb:PSs X b u):PS X (.If c a b pos) (aFI tc t u):=by
 intro j0 s Y H D I h;refine wpAny_If (thn (hc j0 s Y H _ I h) λd s1 zz=>?_);obtain⟨H1,I1,q1⟩:=zz;cases d with
 | true=>exact ha j0 s1 Y H1 D I1 q1
 | false=>exact hb j0 s1 Y H1 D I1 q1
def TD:TS:=λ_ _ _=>False
def RW:PS X st TD:=λ_ _ _ _ _ _ h=>h.elim
def IW:PSs X sts TD:=λ_ _ _ _ _ _ h=>h.elim
end
abbrev TG:=V->St->Hp->(St->Hp->Prop)->Prop
abbrev TGs:=List V->St->Hp->(St->Hp->Prop)->Prop
def PG(X:Cx)(target:Expr)(t:TG):Prop :=
 ∀(j0:List (Addr×Obj)) (s:J5) (Y:St) (H:Hp) (v:V) (u:Value) (Q:St->Hp->Prop),Inv X j0 Y H s->aM v u->t v Y H Q->
   wpAny (model X.prog X.w) X.A (assign target X.env u) (λ_ s'=>∃Y' H',Inv X j0 Y' H' s'/\Q Y' H') X.xe s
def PGs(X:Cx)(ts:List Expr)(t:TGs):Prop :=
 ∀(j0:List (Addr×Obj)) (s:J5) (Y:St) (H:Hp) (vs:List V) (us:List Value) (Q:St->Hp->Prop),Inv X j0 Y H s->aI vs us->t vs Y H Q->
   wpAny (model X.prog X.w) X.A (assignInOrder ((assignEach ts X.env).map (·.2)) us) (λ_ s'=>∃Y' H',Inv X j0 Y' H' s'/\Q Y' H') X.xe s
abbrev KL:=V->V->V->Hp->(Hp->Prop)->Prop
def UK(X:Cx)(t:KL):Prop :=
 ∀(j0:List (Addr×Obj)) (s:J5) (Y:St) (H:Hp) (o i v:V) (ov iv u:Value) (Q:Hp->Prop),Inv X j0 Y H s->aM o ov->aM i iv->aM v u->t o i v H Q->
   wpAny (model X.prog X.w) X.A (setItem ov iv u) (λ_ s'=>∃H',Inv X j0 Y H' s'/\Q H') X.xe s
abbrev TIp:=V->V->Hp->VK->Prop
def PIp(X:Cx)(op:Operator)(t:TIp):Prop :=
 ∀(j0:List (Addr×Obj)) (s:J5) (Y:St) (H:Hp) (x y:V) (v u:Value) (Q:VK),Inv X j0 Y H s->aM x v->aM y u->t x y H Q->
   wpAny (model X.prog X.w) X.A (inplaceOp op v u) (EP X j0 Y Q) X.xe s
section
variable{X:Cx}{pos:Pos}
def zW(i:Nat):TG:=λv Y H Q=>Q (Y.set i (some v)) H
def yM(hN:X.N.Nodup)(hi:X.N[i]? =some x)(hx:Loc X.env.scope x)(hf:X.fn x=true∨X.env.scope.names.lookup x=some .local:=by first|exact .inl rfl|exact .inr rfl|assumption):PG X (.Name x pos) (zW i):=by
 intro j0 s Y H v u Q I r h;exact wpAny_assign_Name (mP I hN hi hx r (λs' I'=>⟨_,H,I',h⟩) hf)
noncomputable def aGk:TGs:=λvs Y H Q=>vs=[]/\Q Y H
noncomputable def aDs(t:TG)(u:TGs):TGs:=λvs Y H Q=>∃v r,vs=v::r/\t v Y H λY' H'=>u r Y' H' Q
def UX:PGs X [] aGk:=by
 intro j0 s Y H vs us Q I r h;obtain⟨e,h⟩:=h;subst e;cases r;exact assignInOrder_nil ⟨Y,H,I,h⟩
def OB(h1:PG X e t)(h2:PGs X es u)
   (hs:(assignEach (e::es) X.env).map (·.2)=assign e X.env::(assignEach es X.env).map (·.2):=by rfl):PGs X (e::es) (aDs t u):=by
 intro j0 s Y H vs us Q I r h;obtain⟨v,vr,e1,h⟩:=h;subst e1;cases r with
 | cons r rr =>
   rw[hs];refine assignInOrder_cons (thn (h1 j0 s Y H _ _ _ I r h) λ_ s1 zz=>?_);obtain⟨Y1,H1,I1,q1⟩:=zz;exact h2 j0 s1 Y1 H1 _ _ Q I1 rr q1
def aFO(K:W.Frag)(n:Nat)(t:TGs):TG:=λv Y H Q=>∃a xs,v= .ref a/\SqT K H a xs/\xs.length=n/\t xs Y H Q
def aAJ(hc:X.calm=true)(h:PGs X es t)
   (hn:(assignEach es X.env).length=n:=by rfl) (hst:(assignEach es X.env).findIdx? (·.1)=none:=by rfl):PG X (.Tuple es k pos) (aFO X.K n t):=by
 intro j0 s Y H v u Q I r hw;obtain⟨a,xs,e1,hq,hl,hw⟩:=hw;subst e1;cases r;obtain⟨its,rv,ht,hz⟩:=I.tuple hq;refine assign_Tuple_tuple (I.ok.hd hc) ht (by simp[hn,<-hl,rv.length]) hst λh' hx=>?_;have I1:Inv X j0 Y H {s with heap:=h'}:=I.kept (t':=s.toks) λb o e=>hx b o (Nat.ne_of_lt (Heap.lt_size e)) e;exact h j0 _ Y H xs _ Q I1 (by simpa using rv) hw
def aF6(to ti:TE)(t:KL):TG:=λv Y H Q=>to Y H λo H1=>ti Y H1 λi H2=>t o i v H2 λH3=>Q Y H3
def aCX(ho:PE X o to)(hi:PE X i ti)(hs:UK X t)
   (ha:∀v,assign (.Subscript o i pos) X.env v=(do
     let ov <-holding [v] (eval o X.env)
     let iv <-holding [v,ov] (eval i X.env)
     standAt pos
     holding [v,ov,iv] (setItem ov iv v)
     release [v,ov,iv] []):=by intro _;rfl):PG X (.Subscript o i pos) (aF6 to ti t):=by
 intro j0 s Y H v u Q I r h;rw[ha];refine wAq (wpAny_holding (thn (ho j0 s Y H _ I h) λov s1 zz=>?_));obtain⟨x,H1,I1,r1,q1⟩:=zz;refine wAq (wpAny_holding (thn (hi j0 s1 Y H1 _ I1 q1) λiv s2 zz=>?_));obtain⟨y,H2,I2,r2,q2⟩:=zz;refine wAq (wpAny_standAt (wAq (wpAny_holding (thn (hs j0 s2 Y H2 x y v ov iv u _ I2 r1 r2 r q2) λ_ s3 zz=>?_))));obtain⟨H3,I3,q3⟩:=zz;exact wpAny_release ⟨Y,H3,I3,q3⟩
def JQ(te:TE)(g:TG):TS:=λD Y H=>te Y H λx H1=>g x Y H1 D.nx
def NL(he:PE X e te)(hg:PG X tg g)(hs:swapsWithSole [tg] e pos.line X.env=pure false:=by rfl)(hw:swappedStores [tg] e X.env=pure none:=by rfl)
   (h1:(assignEach [tg] X.env).map (·.2)=[assign tg X.env]:=by rfl):PS X (.Assign [tg] e pos) (JQ te g):=by
 intro j0 s Y H D I h;refine wpAny_Assign_stores (thn (he j0 s Y H _ I h) λv s1 zz=>?_) hs hw;obtain⟨x,H1,I1,r1,q1⟩:=zz;rw[h1];exact thn (hg j0 s1 Y H1 x v _ I1 r1 q1) λ_ s2 q=>q
def aFu(i j:Nat)(ta:TA):TS:=λD Y H=>ta Y H λvs H1=>∃v w,vs=[v,w]/\D.nx ((Y.set i (some v)).set j (some w)) H1
def aBV(hc:X.calm=true)(hN:X.N.Nodup)(hi:X.N[i]? =some x)(hj:X.N[j]? =some y)(hij:i≠j)
   (hx:X.env.scope.names.lookup x=some .local) (hy:X.env.scope.names.lookup y=some .local) (ha:PA X [a,b] ta)
   (hw:swappedStores [.Tuple [.Name x px,.Name y py] kt pt] (.Tuple [a,b] k2 pt2) X.env=pure (some [x,y]))
   (hs:swapsWithSole [.Tuple [.Name x px,.Name y py] kt pt] (.Tuple [a,b] k2 pt2) pos.line X.env=pure false:=by rfl) :
   PS X (.Assign [.Tuple [.Name x px,.Name y py] kt pt] (.Tuple [a,b] k2 pt2) pos) (aFu i j ta):=by
 intro j0 s Y H D I h;rw[exec_Assign_arm];refine wAq (wpAny_standAt ?_);rw[hs];refine wAq (wBq ?_);rw[j9 ddq];refine wAq (Tuple_ (thn (ha _ j0 s Y H _ I h) λus s1 zz=>?_));obtain⟨vs,H1,I1,r1,q1⟩:=zz;obtain⟨v,w,e1,q1⟩:=q1;subst e1;obtain⟨u1,u2,rfl,rv,rw'⟩:∃u1 u2,us=[u1,u2]/\aM v u1/\aM w u2:=by
   cases r1 with
   | cons p q =>
     cases q with
     | cons p' q' =>
       cases q';exact⟨_,_,rfl,p,p'⟩
 refine wpAny_newObj_type ?_ (by show 2<=sizeLine;decide);have I2:Inv X j0 Y H1 {s1 with heap:=s1.heap.push {cls:=.type "tuple",data:=.seq [u1,u2].toArray}}:=I1.kept (t':=s1.toks) λb o e=>wEq _ e;rw[hw];refine wAq (wBq ?_);show wpAny (model X.prog X.w) X.A (do rule "assign.swapped-stores";let items <-unpackItems (.ref s1.heap.objs.size) 2 none;assignInOrder [λv=>bindName X.env y v,λv=>bindName X.env x v] items.reverse;pure Flow.next) _ _ _;refine wAq (wpAny_rule (wAq (unpackItems_tuple (items:= #[u1,u2]) (I.ok.hd hc) (IsTup.new s1.heap _) λh' hx'=>?_)));have I3:=I2.kept (h':=h') (t':=s1.toks) λb o e=>hx' b o (Nat.ne_of_lt (Heap.lt_size e)) e;show wpAny _ _ (assignInOrder [λv=>bindName X.env y v,λv=>bindName X.env x v] [u2,u1]>>=λ_=>pure Flow.next) _ _ _;refine wAq (assignInOrder_cons (wpAny_bindName (mP I3 hN hj (.inl hy) rw' (λs2 I4=>?_) (.inr hy))));refine assignInOrder_cons (wpAny_bindName (mP I4 hN hi (.inl hx) rv (λs3 I5=>assignInOrder_nil (wBq ?_)) (.inr hx)));rw[List.set_comm _ _ (Ne.symm hij)] at I5;exact⟨_,H1,I5,q1⟩
def aGn(i:Nat)(te:TE)(ti:TIp):TS:=λD Y H=>∃x,Y[i]? =some (some x)/\te Y H λy H1=>ti x y H1 λz H2=>D.nx (Y.set i (some z)) H2
def aBS(hN:X.N.Nodup)(hi:X.N[i]? =some x)(hx:Loc X.env.scope x)(he:PE X e te)(ho:PIp X op ti)(hf:X.fn x=true∨X.env.scope.names.lookup x=some .local:=by first|exact .inl rfl|exact .inr rfl|assumption) :
   PS X (.AugAssign (.Name x pos') op e pos) (aGn i te ti):=by
 intro j0 s Y H D I h;obtain⟨v,e1,h⟩:=h;obtain⟨m,hn,hl⟩:=I.loc;have vis:Vis X.env.scope x:=by rcases hx with k|k;exact .inl k;exact .inr (.inl k)
 obtain⟨u,r,l⟩:=hl i x v hi e1 vis;refine wpAny_AugAssign_Name ?_;have go:wpAny (model X.prog X.w) X.A (eval e X.env) (λw s₂=>wpAny (model X.prog X.w) X.A (inplaceOp op u w) (λr s₃=>wpAny (model X.prog X.w) X.A (storeName X.env x r) (λ_=>SP X j0 D .next) X.xe s₃) X.xe s₂) X.xe s:=by
   refine thn (he j0 s Y H _ I h) λw s1 zz=>?_;obtain⟨y,H1,I1,r1,q1⟩:=zz;refine thn (ho j0 s1 Y H1 v y u w _ I1 r r1 q1) λz s2 zz=>?_;obtain⟨zv,H2,I2,r2,q2⟩:=zz;exact mP I2 hN hi hx r2 (λs3 I3=>⟨_,H2,I3,q2⟩) hf
 rcases l with ⟨hk,hm⟩|⟨hk,c,hc,hcell⟩
 . exact wpAny_loadName_local I.ok.kind hk hn hm go
 . rcases hk with hk|hk
   . exact wpAny_loadName_cell I.ok.kind hk hc hcell go
   . rcases hx with k|k
     . have:X.env.scope.names.lookup x=some .free:=hk;rw[k] at this;cases this
     . have:X.env.scope.names.lookup x=some .free:=hk;rw[k] at this;cases this
def aFi(to ti te:TE)(tget:V->V->Hp->VK->Prop)(tip:TIp)(tset:KL):TS:=λD Y H=>to Y H λo H1=>ti Y H1 λi H2=>tget o i H2 λx H3=>te Y H3 λy H4=>tip x y H4 λz H5=>tset o i z H5 λH6=>D.nx Y H6
def aDT(X:Cx)(t:V->V->Hp->VK->Prop):Prop :=
 ∀(j0:List (Addr×Obj)) (s:J5) (Y:St) (H:Hp) (o i:V) (ov iv:Value) (Q:VK),Inv X j0 Y H s->aM o ov->aM i iv->t o i H Q->
   wpAny (model X.prog X.w) X.A (getItem ov iv) (EP X j0 Y Q) X.xe s
def WR(ho:PE X o to)(hi:PE X i ti)(hg:aDT X tget)(he:PE X e te)(hp:PIp X op tip)(hs:UK X tset)
   (ha:∀ov iv new,augStore i ov iv new=(do holding [new,ov,iv] (setItem ov iv new);release [new,ov,iv] [];pure .next):=by intros;rfl):PS X (.AugAssign (.Subscript o i tpos) op e pos) (aFi to ti te tget tip tset):=by
 intro j0 s Y H D I h;refine wpAny_AugAssign_SubscriptAny (thn (ho j0 s Y H _ I h) λov s1 zz=>?_) ha;obtain⟨x1,H1,I1,r1,q1⟩:=zz;refine thn (hi j0 s1 Y H1 _ I1 q1) λiv s2 zz=>?_;obtain⟨x2,H2,I2,r2,q2⟩:=zz;refine thn (hg j0 s2 Y H2 x1 x2 ov iv _ I2 r1 r2 q2) λold s3 zz=>?_;obtain⟨x3,H3,I3,r3,q3⟩:=zz;refine thn (he j0 s3 Y H3 _ I3 q3) λv s4 zz=>?_;obtain⟨x4,H4,I4,r4,q4⟩:=zz;refine thn (hp j0 s4 Y H4 x3 x4 old v _ I4 r3 r4 q4) λnew s5 zz=>?_;obtain⟨x5,H5,I5,r5,q5⟩:=zz;exact thn (hs j0 s5 Y H5 x1 x2 x5 ov iv new _ I5 r1 r2 r5 q5)<|by rintro _ s6 ⟨H6,I6,q6⟩;exact⟨Y,H6,I6,q6⟩
noncomputable def ipI(f:Int->Int->Int):TIp:=λx y H Q=>∃i j,x= .int i/\y= .int j/\Q (.int (f i j)) H
def NP:PIp X .Add (ipI λi j=>i+j):=by
 intro j0 s Y H x y v u Q I r1 r2 h;obtain⟨i,j,e1,e2,q⟩:=h;subst e1;subst e2;obtain⟨t,rfl⟩:=r1;obtain⟨t',rfl⟩:=r2;exact iadd_int ⟨.int _,H,I.tok _,⟨_,rfl⟩,q⟩
end
section
variable{X:Cx}{pos:Pos}
def aAu(c:TT)(tb:TS):TS:=λD Y H=>∃W:Nat->St->Hp->Prop,(∃m,W m Y H)/\∀m Y H,W m Y H->
 c Y H λb H1=>if b=true then ∃N:St->Hp->Prop,(∀Y' H',N Y' H'->∃m',m'<m/\W m' Y' H')/\tb {D with nx:=N,ct:=N,bk:=D.nx} Y H1 else D.nx Y H1
def SQ(hp:PassesOwn (model X.prog X.w) X.A X.env X.xe)(hc:PT X c tc)(hb:PSs X body tb):PS X (.While c body [] pos) (aAu tc tb):=by
 intro j0 s Y H D I h;obtain⟨W,⟨m0,w0⟩,turn⟩:=h;refine wpAny_While (codeAny_whileLoop (λn s'=>∃Y' H',Inv X j0 Y' H' s'/\W n Y' H') ?_ m0 ⟨Y,H,I,w0⟩);rintro n s1 ⟨Y1,H1,I1,w1⟩;refine wpAny_passesOwn hp (thn (hc j0 s1 Y1 H1 _ I1 (turn n Y1 H1 w1)) λb s2 zz=>?_);obtain⟨H2,I2,q2⟩:=zz;cases b with
 | true =>
   obtain⟨N,hN,q2⟩:=q2;rw[ja rfl];refine wpAny_passesOwn hp (thn (hb j0 s2 Y1 H2 _ I2 q2) λf s3 q3=>?_);cases f with
   | next =>
     obtain⟨Y3,H3,I3,n3⟩:=q3;obtain⟨m',hm,w3⟩:=hN Y3 H3 n3;exact⟨m',hm,Y3,H3,I3,w3⟩
   | cont =>
     obtain⟨Y3,H3,I3,n3⟩:=q3;obtain⟨m',hm,w3⟩:=hN Y3 H3 n3;exact⟨m',hm,Y3,H3,I3,w3⟩
   | brk=>exact q3
   | ret v=>exact q3
 | false =>
   rw[j9 Bool.false_ne_true];exact wpAny_execs_nil ⟨Y1,H2,I2,q2⟩
end
structure It where
 go:Nat->Hp->Prop
 yld:Nat->Hp->V->Hp->Prop
 stop:Nat->Hp->Prop
 rg:Bool:=false
noncomputable def lV(X:Cx)(j0:List (Addr×Obj))(H:Hp)(b:Addr):Prop :=
 H b=none/\b≠X.env.locals/\b∉X.fs/\(b∈X.ex∨X.s₀.heap.objs.size<=b)/\(∀x c,X.env.cells.lookup x=some c->c≠b)/\∀p∈X.pn++j0,p.1≠b
def Inv.fpOk{X:Cx}{j0:List (Addr×Obj)}{Y:St}{H H':Hp}{s:J5}{b:Addr}(I:Inv X j0 Y H s)(hb:s.heap.objs.size<=b)(hn:H' b=none):lV X j0 H' b:=by
 refine⟨hn,Nat.ne_of_gt (wFq I.lt hb),I.nofs hb,.inr (Nat.le_trans I.sz hb),λx c e z=>?_,λp hp z=>?_⟩
 . obtain⟨v,q⟩:=I.cell x c e;exact absurd (wFq q.lt (by rw[z];exact hb)) (Nat.lt_irrefl _)
 . exact absurd (wFq (Heap.lt_size (I.pin p hp).1) (by rw[z];exact hb)) (Nat.lt_irrefl _)
structure vV(P:J7)(w:World)(K:W.Frag)(tg:Expr)(J:It)(fp:List Addr)(it:Addr)(tn:Nat->Heap->Prop):Prop where
 mem:it∈fp
 obj:∀i h,tn i h->∀b∈fp,∃o,h.get? b=some o/\∀v,o.data≠.cell v
 keep:∀i h h',tn i h->(∀b∈fp,∀o,h.get? b=some o->h'.get? b=some o)->tn i h'
 item :∀(X:Cx),X.prog=P->X.w=w->X.K=K->(J.rg=false->X.calm=true)->∀(i:Nat) (j0:List (Addr×Obj)) (s:J5) (Y:St) (H:Hp) (E:Value->J5->Prop),Inv X j0 Y H s->(∀b∈fp,lV X j0 H b)->tn i s.heap->J.go i H->
   wpAny (model P w) X.A (pyNext (.ref it)) (λr s1=>∃u,r=some u/\
     wpAny (model P w) X.A (letOwnedTupleGo tg (.ref it) u) (λ_ s2=>∃x H',Inv X j0 Y H' s2/\aM x u/\J.yld i H x H'/\tn (i+1) s2.heap/\∀b∈fp,H' b=none) E s1) E s
 done:∀(X:Cx),X.prog=P->X.w=w->X.K=K->(J.rg=false->X.calm=true)->∀(i:Nat) (j0:List (Addr×Obj)) (s:J5) (Y:St) (H:Hp) (E:Value->J5->Prop),Inv X j0 Y H s->(∀b∈fp,lV X j0 H b)->tn i s.heap->J.stop i H->
   wpAny (model P w) X.A (pyNext (.ref it)) (λr s1=>r=none/\Inv X j0 Y H s1) E s
 self:∀(A:Around) (i:Nat) (s:J5) (Q:Value->J5->Prop) (E:Value->J5->Prop),tn i s.heap->Q (.ref it) s->wpAny (model P w) A (pyIter (.ref it)) Q E s
abbrev TI:=St->Hp->(It->Hp->Prop)->Prop
def PIE(X:Cx)(j0:List (Addr×Obj))(Y:St)(tg:Expr)(R:It->Hp->Prop)(itv:Value)(s2:J5):Prop :=
 ∃(it:Addr) (fp:List Addr) (tn:Nat->Heap->Prop) (J:It) (H':Hp),itv= .ref it/\Inv X j0 Y H' s2/\vV X.prog X.w X.K tg J fp it tn/\tn 0 s2.heap/\(∀b∈fp,lV X j0 H' b)/\R J H'
def PI(X:Cx)(tg j3:Expr)(wi:TI):Prop :=
 ∀(j0:List (Addr×Obj)) (s:J5) (Y:St) (H:Hp) (R:It->Hp->Prop),Inv X j0 Y H s->wi Y H R->
   wpAny (model X.prog X.w) X.A (eval j3 X.env) (λv s1=>wpAny (model X.prog X.w) X.A (pyIter v) (PIE X j0 Y tg R) X.xe s1) X.xe s
def QA(ho:s.heap.get? it=some o)(hc:o.cls= .type n)(hd:o.data= .fields vs)
   (hn: ["enumerate","zip","dict_itemiterator","dict_reverseitemiterator","odict_iterator","itertools.zip_longest","itertools.pairwise"].contains n=false) (hQ:Q () s):wpAny M A (letOwnedTupleGo tg (.ref it) u) Q E s:=by
 unfold letOwnedTupleGo;cases tg<;>first
   | exact wBq hQ
   | (cases u<;>first
       | exact wBq hQ
       | (refine wAq (wpAny_load ho ?_)
          rw[hc,hd];show wpAny M A (if (["enumerate","zip","dict_itemiterator","dict_reverseitemiterator","odict_iterator","itertools.zip_longest","itertools.pairwise"].contains n&&vs[0]?==some (rawInt _))=true then _ else _) Q E s;rw[j9 (by intro h;rw[hn,Bool.false_and] at h;cases h)];exact wBq hQ))
def Itl(K:W.Frag)(a:Addr):It :=
 ⟨λi H=>∃xs x,SqL K H a xs/\xs[i]? =some x,λi H x H'=>H'=H/\∀xs,SqL K H a xs->xs[i]? =some x,λi H=>∃xs,SqL K H a xs/\xs.length<=i,false⟩
def Itt(K:W.Frag)(a:Addr):It :=
 ⟨λi H=>∃xs x,SqT K H a xs/\xs[i]? =some x,λi H x H'=>H'=H/\∀xs,SqT K H a xs->xs[i]? =some x,λi H=>∃xs,SqT K H a xs/\xs.length<=i,false⟩
noncomputable def Itr(lo:Int)(n:Nat):It:=⟨λi _=>i<n,λi H x H'=>H'=H/\x= .int (lo+i),λi _=>n<=i,true⟩
def JH{P:J7}{K:W.Frag}(a it:Addr):vV P w K tg (Itl K a) [it] it (λi h=>h.IsListIter it a i) where
 mem:=by simp
 obj:=λi h st b hb=>by
   have e:b=it:=by simpa using hb
   subst e;obtain⟨o,e,c,d⟩:=st;exact⟨o,e,λv z=>by rw[d] at z;cases z⟩
 keep:=λi h h' st k=>st.at λo e=>k it (by simp) o e
 item:=by
   intro X hP hw hK hc i j0 s Y H E I hf st hg;subst hP hw hK;obtain⟨xs,x,hq,hx⟩:=hg;obtain⟨its,rv,p,hz⟩:=I.list hq;obtain⟨u,hu,ru⟩:=rv.get hx;obtain⟨f0,f1,f2,f3,f4,f5⟩:=hf it (by simp);refine wpAny_pyNext_list_item st p.isList (x:=u) (by simpa using hu) λh' st' sb=>?_;have I1:Inv X j0 Y H {s with heap:=h'}:=I.turned (t':=s.toks) (λb o hb e=>(sb.2 b hb).trans e) f0 f1 f3 f4 f5;obtain⟨o,e,c,d⟩:=id st';exact⟨u,rfl,QA (s:={s with heap:=h'}) e c d ddq ⟨x,H,I1,ru,⟨rfl,λys hy=>by rw[I.list_inj hy hq];exact hx⟩,st',λb hb=>(hf b hb).1⟩⟩
 done:=by
   intro X hP hw hK hc i j0 s Y H E I hf st hg;subst hP hw hK;obtain⟨xs,hq,hx⟩:=hg;obtain⟨its,rv,p,hz⟩:=I.list hq;obtain⟨f0,f1,f2,f3,f4,f5⟩:=hf it (by simp);have hl:=rv.length;exact wpAny_pyNext_list_end (I.ok.hd (hc rfl)) st p.isList (by simp;omega) λh' eb=>⟨rfl,I.turned (t':=s.toks) (λb o hb e=>eb b o hb e) f0 f1 f3 f4 f5⟩
 self:=λ_ _ _ _ _ st h=>wpAny_pyIter_listiter st h
def DO{w:World}{K:W.Frag}{tg:Expr}(a it:Addr):vV P w K tg (Itt K a) [it] it (λi h=>h.IsTupleIter it a i) where
 mem:=by simp
 obj:=λi h st b hb=>by
   have e:b=it:=by simpa using hb
   subst e;obtain⟨o,e,c,d⟩:=st;exact⟨o,e,λv z=>by rw[d] at z;cases z⟩
 keep:=λi h h' st k=>st.at λo e=>k it (by simp) o e
 item:=by
   intro X hP hw hK hc i j0 s Y H E I hf st hg;subst hP hw hK;obtain⟨xs,x,hq,hx⟩:=hg;obtain⟨its,rv,p,hz⟩:=I.tuple hq;obtain⟨u,hu,ru⟩:=rv.get hx;obtain⟨f0,f1,f2,f3,f4,f5⟩:=hf it (by simp);refine wpAny_pyNext_tuple_item st (show s.heap.IsTuple a its.toArray from p) (x:=u) (by simpa using hu) λh' st' sb=>?_;have I1:Inv X j0 Y H {s with heap:=h'}:=I.turned (t':=s.toks) (λb o hb e=>(sb.2 b hb).trans e) f0 f1 f3 f4 f5;obtain⟨o,e,c,d⟩:=id st';exact⟨u,rfl,QA (s:={s with heap:=h'}) e c d ddq ⟨x,H,I1,ru,⟨rfl,λys hy=>by rw[I.tuple_inj hy hq];exact hx⟩,st',λb hb=>(hf b hb).1⟩⟩
 done:=by
   intro X hP hw hK hc i j0 s Y H E I hf st hg;subst hP hw hK;obtain⟨xs,hq,hx⟩:=hg;obtain⟨its,rv,p,hz⟩:=I.tuple hq;obtain⟨f0,f1,f2,f3,f4,f5⟩:=hf it (by simp);have hl:=rv.length;exact wpAny_pyNext_tuple_end (I.ok.hd (hc rfl)) st (show s.heap.IsTuple a its.toArray from p) (by simp;omega) λh' eb=>⟨rfl,I.turned (t':=s.toks) (λb o hb e=>eb b o hb e) f0 f1 f3 f4 f5⟩
 self:=λ_ _ _ _ _ st h=>wpAny_pyIter_tupleiter st h
def Hd2(A:Around)(h:Heap):Prop:=A.handled=none∨∃a o vs,A.handled=some (.ref a)/\h.get? a=some o/\o.data= .fields vs/\vs[2]? =some Value.none
section
variable{prog:J7}{w:World}{A:Around}{E:Value->J5->Prop}{s:J5}
def FN{α:Type}{o:Obj}{vs:Array Value}{Q:α->J5->Prop}(hh:Hd2 A s.heap)(he:s.heap.get? e=some o)(hd:o.data= .fields vs)(h2:2<vs.size)(hne:∀a,A.handled=some (.ref a)->a≠e)
   (q:∀h',Heap.ExtBut e s.heap h'->(∃o',h'.get? e=some o'/\o'.cls=o.cls)->E (.ref e) {s with heap:=h'}):wpAny (model prog w) A (raiseNew (α:=α) (.ref e)) Q E s:=by
 unfold raiseNew;refine wAq (wpAny_handled ?_);rcases hh with hh|⟨a,oa,va,hh,ha,hda,h2a⟩
 . rw[hh];exact wpAny_throw (q s.heap (λ_ _ _ z=>z) ⟨o,he,rfl⟩)
 . rw[hh];have n1:(Value.ref a !=Value.ref e)=true:=by
     have:=hne a hh;simp[this]
   dsimp only;rw[ja n1];refine wAq (wpAny_holding (wpAny_runValue (codeAny_builtin (b:=Builtin.«proto.unchain») (by first|rfl|decide +kernel) ?_)));show wpAny _ _ (field (.ref a) 2>>=_) _ _ _;refine wAq (wpAny_field ha hda h2a ?_);rw[ja (by rfl)];refine wBq ?_;show wpAny _ _ (updateField e 2 (.ref a)>>=_) _ _ _;refine wAq ?_;unfold updateField;refine wAq (wpAny_load he ?_);rw[hd];dsimp only;rw[ja h2];refine wpAny_update he ?_;refine wpAny_throw (q _ (Heap.SameBut.update ..).extBut ⟨_,Heap.get?_update_self _ he (Obj.isFreed_of_fields (Obj.data_mapFields hd _)),Obj.cls_mapFields ..⟩)
def BE(he:s.heap.get? e=some o)(hc:o.cls= .type "StopIteration")(q:Q true s):wpAny (model prog w) A (isInstance (.ref e) (.type "StopIteration")) Q E s :=
 wpAny_isInstance (T:="StopIteration") ⟨o,he,hc⟩ (by first|rfl|decide +kernel|exact isSubtype_self _) q
def DN{x left step:Int}{Q:Option Value->J5->Prop}(hh:Hd2 A s.heap)(a:IsRangeIter s.heap it x left step)(hl:left<=0)
   (q:∀h',Heap.ExtBut it s.heap h'->Q none {s with heap:=h'}):wpAny (model prog w) A (pyNext (.ref it)) Q E s:=by
 have ht:s.TypeIs (.ref it) "range_iterator":=⟨_,a,rfl⟩;unfold pyNext;refine wAq (wpAny_attempt (wpAny_callSpecial?_slot (name:=Str.ofString "__next__") ht F.slot_range_iterator_next (wpAny_call_entry F.slot_range_iterator_next ht F.entry_range_iterator_next ?_ (F.args_range_iterator_next_1 _))));show wpAny _ _ (field (.ref it) 0>>=_) _ _ _;refine wAq (wpAny_field a rfl (x:=rawInt x) rfl ?_);show wpAny _ _ (field (.ref it) 1>>=_) _ _ _;refine wAq (wpAny_field a rfl (x:=rawInt left) rfl ?_);show wpAny _ _ (field (.ref it) 2>>=_) _ _ _;refine wAq (wpAny_field a rfl (x:=rawInt step) rfl ?_);show wpAny _ _ (if left<=0 then _ else _) _ _ _;rw[ja hl];refine wAq (wpAny_rule (wAq ?_));unfold Builtin.SmallTypes.stopIteration;refine wAq ?_;simp only[newExc,newTuple];refine wAq (wpAny_newObj_type ?_ (by size_fits));refine wAq (m:=firstArgMember _ _) (wpAny_of_eq (a:=Value.none) (by first|rfl|(simp only[firstArgMember];rfl)) (wpAny_newObj_type ?_ (by size_fits)));have k2:∀b o,s.heap.get? b=some o->b<s.heap.objs.size:=λb o e=>Heap.lt_size e;refine FN (A:=A.in1) ?_ (wGq _ rfl) rfl (by rw[Array.size_append];exact wFq (show 2<6 by decide) (Nat.le_add_right _ _)) ?_ ?_
 . rcases hh with hh|⟨b,ob,vb,hh,hb,hdb,h2b⟩
   . exact .inl hh
   . exact .inr ⟨b,ob,vb,hh,wEq _ (wEq _ hb),hdb,h2b⟩
 . intro b hb;rcases hh with hh|⟨b',ob,vb,hh,hb',hdb,h2b⟩
   . rw[show A.in1.handled=none from hh] at hb;cases hb
   . rw[show A.in1.handled=some (.ref b') from hh] at hb;cases hb;refine Nat.ne_of_lt (wFq (k2 _ _ hb') ?_);rw[Heap.size_push];exact Nat.le_succ _
 . rintro h' ext ⟨o',ho',hc'⟩;refine wAq (BE ho' hc' ?_);rw[ja rfl];refine wBq (q h' λb o hb e=>?_);exact ext b o (by refine Nat.ne_of_lt (wFq (k2 _ _ e) ?_);rw[Heap.size_push];exact Nat.le_succ _) (wEq _ (wEq _ e))
def BO{it:Addr}{x left step:Int}{Q:Option Value->J5->Prop}(a:IsRangeIter s.heap it x left step)(hl:0<left)
   (q:∀t h' tk,Heap.ExtBut it s.heap h'->IsRangeIter h' it (x+step) (left-1) step->Q (some (.int x t)) {s with heap:=h',toks:=tk}):wpAny (model prog w) A (pyNext (.ref it)) Q E s:=by
 have ht:s.TypeIs (.ref it) "range_iterator":=⟨_,a,rfl⟩;unfold pyNext;refine wAq (wpAny_attempt (wpAny_callSpecial?_slot (name:=Str.ofString "__next__") ht F.slot_range_iterator_next (wpAny_call_entry F.slot_range_iterator_next ht F.entry_range_iterator_next ?_ (F.args_range_iterator_next_1 _))));show wpAny _ _ (field (.ref it) 0>>=_) _ _ _;refine wAq (wpAny_field a rfl (x:=rawInt x) rfl ?_);show wpAny _ _ (field (.ref it) 1>>=_) _ _ _;refine wAq (wpAny_field a rfl (x:=rawInt left) rfl ?_);show wpAny _ _ (field (.ref it) 2>>=_) _ _ _;refine wAq (wpAny_field a rfl (x:=rawInt step) rfl ?_);show wpAny _ _ (if left<=0 then _ else _) _ _ _;rw[j9 ooq];refine wAq (wpAny_setField a rfl (by simp) ?_);have a1:=Heap.get?_update_self (Obj.mapFields (·.setIfInBounds 0 (rawInt (x+step)))) a (by rfl);refine wAq (wpAny_setField a1 rfl (by simp) ?_);have a2:=Heap.get?_update_self (Obj.mapFields (·.setIfInBounds 1 (rawInt (left-1)))) a1 (by rfl);unfold retInt;refine wAq (wpAny_mkInt (wBq ⟨_,rfl,wBq ?_⟩));exact q _ _ _ ((Heap.SameBut.update ..).extBut.trans (Heap.SameBut.update ..).extBut) a2
end
def Inv.hd2{X:Cx}{Y:St}{s:J5}(I:Inv X j0 Y H s):Hd2 X.A s.heap:=I.hnd.imp id<|by rintro⟨a,o,u,vs,e1,e2,e3,e4⟩;exact⟨a,o,vs,e1,(I.hok a _ e2).1,e3,e4⟩
def CL{P:J7}{K:W.Frag}{tg:Expr}(it:Addr)(lo:Int)(n:Nat):vV P w K tg (Itr lo n) [it] it (λi h=>IsRangeIter h it (lo+(i:Nat)*1) ((n:Int)-(i:Nat)) 1) where
 mem:=by simp
 obj :=λi h st b hb=>by
   have e:b=it:=by simpa using hb
   subst e;exact⟨_,st,λv z=>by
     have z':Data.fields _=Data.cell v:=z;cases z'⟩
 keep:=λi h h' st k=>k it (by simp) _ st
 item :=by
   intro X hP hw hK hc i j0 s Y H E I hf st hg;subst hP hw hK;obtain⟨f0,f1,f2,f3,f4,f5⟩:=hf it (by simp);have hg':i<n:=hg;refine BO st ooq λt h' tk kk st'=>?_;have st':IsRangeIter h' it (lo+((i+1:Nat):Int)*1) ((n:Int)-((i+1:Nat):Int)) 1:=by
     have e1:lo+((i+1:Nat):Int)*1=lo+(i:Int)*1+1:=by omega
     have e2:(n:Int)-((i+1:Nat):Int)=(n:Int)-(i:Int)-1:=by omega
     rw[e1,e2];exact st'
   have I1:Inv X j0 Y H {s with heap:=h',toks:=tk}:=I.turned (λb o hb e=>kk b o hb e) f0 f1 f3 f4 f5;refine⟨_,rfl,QA (s:={s with heap:=h',toks:=tk}) (n:="range_iterator") st' rfl rfl ddq ⟨.int (lo+i),H,I1,⟨t,?_⟩,⟨rfl,rfl⟩,st',λb hb=>(hf b hb).1⟩⟩;rw[Int.mul_one]
 done:=by
   intro X hP hw hK hc i j0 s Y H E I hf st hg;subst hP hw hK;obtain⟨f0,f1,f2,f3,f4,f5⟩:=hf it (by simp);exact DN I.hd2 st (by have:n<=i:=hg;omega) λh' eb=>⟨rfl,I.turned (t':=s.toks) (λb o hb e=>eb b o hb e) f0 f1 f3 f4 f5⟩
 self:=λ_ _ _ _ _ st h=>wpAny_pyIter_rangeiter st h
section
variable{X:Cx}{tg:Expr}
def zU{j0:List (Addr×Obj)}{Y:St}{H:Hp}{s:J5}{R:It->Hp->Prop}{E:Value->J5->Prop}{lo hi:Int}{t u v:Tok}{tk:Nat}(I:Inv X j0 Y H s)(h1: -(2^62)<=lo)(h2:lo<2^62)(h3: -(2^62)<=hi)(h4:hi<2^62)
   (q:R (Itr lo (hi-lo).toNat) H):wpAny (model X.prog X.w) X.A (pyIter (.ref s.heap.objs.size)) (PIE X j0 Y tg R) E {s with heap:=s.heap.push {cls:=.type "range",data:=.fields #[.int lo t,.int hi u,.int 1 v]},toks:=tk}:=by
 refine wpAny_pyIter_range (IsRange.new ..) (small_one h1 h2 h3 h4) ?_;have I1:Inv X j0 Y H {s with heap:=s.heap.push {cls:=.type "range",data:=.fields #[.int lo t,.int hi u,.int 1 v]},toks:=tk}:=I.kept λb o e=>wEq _ e;refine⟨(s.heap.push {cls:=.type "range",data:=.fields #[.int lo t,.int hi u,.int 1 v]}).objs.size,[(s.heap.push {cls:=.type "range",data:=.fields #[.int lo t,.int hi u,.int 1 v]}).objs.size],_,_,H,rfl,
   I1.kept (t':=tk) λb o e=>wEq _ e,CL _ lo (hi-lo).toNat,?_,λb hb=>?_,q⟩
 . have e1:lo+((0:Nat):Int)*1=lo:=by simp
   have e2:(((hi-lo).toNat:Nat):Int)-((0:Nat):Int)=Builtin.Range.rangeSize lo hi 1:=by rw[rangeSize_one];split<;>omega
   show IsRangeIter _ _ (lo+((0:Nat):Int)*1) ((((hi-lo).toNat:Nat):Int)-((0:Nat):Int)) 1;rw[e1,e2];exact wGq _ rfl
 . have e:b=(s.heap.push {cls:=.type "range",data:=.fields #[.int lo t,.int hi u,.int 1 v]}).objs.size:=by simpa using hb
   subst e;exact I1.fpOk (Nat.le_refl _) (I1.hok.fresh (Nat.le_refl _))
def aDd(ta:TA):TI:=λY H R=>ta Y H λvs H1=>∃j:Int,vs=[.int j]/\-(2^62)<=j/\j<2^62/\R (Itr 0 j.toNat) H1
def aEs(ta:TA):TI:=λY H R=>ta Y H λvs H1=>∃i j:Int,vs=[.int i,.int j]/\(-(2^62)<=i/\i<2^62/\-(2^62)<=j/\j<2^62)/\R (Itr i (j-i).toNat) H1
def wT(hg:Gl X "range")(hm:X.mg "range"=none)(ha:PA X [a] ta)(hs:starEach [a] X.env=[(false,eval a X.env)]:=by rfl):PI X tg (.Call (.Name "range" p) [a] [] pos) (aDd ta):=by
 intro j0 s Y H R I h;refine Call_ (jA I hg hm boot_range (PyProof.Rows.callWith_type1 (thn (ha pos j0 s Y H _ I h) λus s1 zz=>?_) hs rfl));obtain⟨vs,H1,I1,r1,q1⟩:=zz;obtain⟨j,e,q1,q2,q⟩:=q1;subst e;cases r1 with
 | cons r rr =>
   cases rr;obtain⟨t,rfl⟩:=r;exact call_range_1 (zU I1 ooq ooq q1 q2 (by simpa using q))
def JC(hg:Gl X "range")(hm:X.mg "range"=none)(ha:PA X [a,b] ta)(hs:starEach [a,b] X.env=[(false,eval a X.env),(false,eval b X.env)]:=by rfl)(hs2:starEach [b] X.env=[(false,eval b X.env)]:=by rfl) :
   PI X tg (.Call (.Name "range" p) [a,b] [] pos) (aEs ta):=by
 intro j0 s Y H R I h;refine Call_ (jA I hg hm boot_range (PyProof.Rows.callWith_type1 (thn (ha pos j0 s Y H _ I h) λus s1 ⟨vs,H1,I1,r1,q1⟩=>?_) (by rw[hs,hs2]) (by rw[hs2];rfl)));obtain⟨i,j,e,⟨q1,q2,q3,q4⟩,q⟩:=q1;subst e;cases r1 with
 | cons r rr =>
   cases rr with
   | cons r' rr =>
     cases rr;obtain⟨t,rfl⟩:=r;obtain⟨t',rfl⟩:=r';exact call_range_2 (zU I1 q1 q2 q3 q4 q)
def aFJ(wi:TI)(g:TG)(tb:TS):TS:=λD Y H=>wi Y H λJ H1=>∃W:Nat->Nat->St->Hp->Prop,(∃m,W 0 m Y H1)/\∀i m Y H,W i m Y H->
 (J.stop i H/\D.nx Y H)∨(J.go i H/\∃N:St->Hp->Prop,(∀Y' H',N Y' H'->∃m',m'<m/\W (i+1) m' Y' H')/\∀x H',J.yld i H x H'->g x Y H' λY2 H2=>tb {D with nx:=N,ct:=N,bk:=D.nx} Y2 H2)
noncomputable def pE(fp:List Addr)(h:Heap):List (Addr×Obj):=fp.filterMap λb=>(h.get? b).map λo=>(b,o)
def dR(hb:b∈fp)(e:h.get? b=some o):(b,o)∈pE fp h:=List.mem_filterMap.mpr ⟨b,hb,by rw[e];rfl⟩
def KZ(hp:p∈pE fp h):p.1∈fp/\h.get? p.1=some p.2:=by
 obtain⟨b,hb,e⟩:=List.mem_filterMap.mp hp;cases q:h.get? b with
 | none=>rw[q] at e;cases e
 | some o =>
   rw[q] at e;have e':(b,o)=p:=Option.some.inj e;subst e';exact⟨hb,q⟩
def Inv.pinned{j0:List (Addr×Obj)}{Y:St}{H:Hp}{s:J5}{fp:List Addr}(I:Inv X j0 Y H s)(hf:∀b∈fp,lV X j0 H b)(ho:∀b∈fp,∃o,s.heap.get? b=some o/\∀v,o.data≠.cell v):Inv X (j0++pE fp s.heap) Y H s :=
 I.pins_of λp hp=>(List.mem_append.mp hp).elim (λz=>I.pin p (List.mem_append_right _ z)) λz=>by
   obtain⟨hb,e⟩:=KZ z;obtain⟨f0,f1,f2,_⟩:=hf p.1 hb;obtain⟨o,e',d⟩:=ho p.1 hb;rw[e] at e';cases e';exact⟨e,f0,f1,f2,d⟩
def Inv.unpinned{j0 pl:List (Addr×Obj)}{Y:St}{H:Hp}{s:J5}(I:Inv X (j0++pl) Y H s):Inv X j0 Y H s:=I.pins_of λp hp=>I.pin p (List.mem_append_right _ (List.mem_append_left _ hp))
def aAT(hp:PassesOwn (model X.prog X.w) X.A X.env X.xe)(hc:X.calm=true)(hi:PI X tg j3 wi)(hg:PG X tg g)(hb:PSs X body tb)
   (hs:∀x,foldedSetIterable j3 X.env x=pure x:=by intro _;rfl):PS X (.For tg j3 body [] pos) (aFJ wi g tb):=by
 intro j0 s Y H D I h;refine wpAny_For (thn (hi j0 s Y H _ I h) λv s1 h1=>thn h1 λitv s2 h2=>?_) hs;obtain⟨it,fp,tn,J,H2,e,I2,T,st2,f2,W,⟨m0,w0⟩,turn⟩:=h2;subst e;have stat:∀{H':Hp},(∀b∈fp,H' b=none)->∀b∈fp,lV X j0 H' b:=λhn b hb=>⟨hn b hb,(f2 b hb).2⟩;refine codeAny_forLoop_any (λn s'=>∃i Y' H',Inv X j0 Y' H' s'/\tn i s'.heap/\(∀b∈fp,H' b=none)/\W i n Y' H') ?_ m0 ⟨0,Y,H2,I2,st2,λb hb=>(f2 b hb).1,w0⟩;rintro n s3 ⟨i,Y3,H3,I3,st3,fr3,w3⟩;rcases turn i n Y3 H3 w3 with ⟨stop,qn⟩|⟨go,N,hN,step⟩
 . refine wpAny_passesOwn hp (thn (T.done X rfl rfl rfl (λ_=>hc) i j0 s3 Y3 H3 X.xe I3 (stat fr3) st3 stop) λr s4 zz=>?_);obtain⟨hr,I4⟩:=zz;subst hr;exact wpAny_execs_nil ⟨Y3,H3,I4,qn⟩
 . refine wpAny_passesOwn hp (thn (T.item X rfl rfl rfl (λ_=>hc) i j0 s3 Y3 H3 X.xe I3 (stat fr3) st3 go) λr s4 zz=>?_);obtain⟨u,hr,h4⟩:=zz;subst hr;refine wpAny_passesOwn hp (thn h4 λ_ s5 zz=>?_);obtain⟨x,H5,I5,r5,y5,st5,fr5⟩:=zz;have I5':=I5.pinned (stat fr5) (T.obj _ _ st5);refine wpAny_passesOwn hp (thn (hg _ s5 Y3 H5 x u _ I5' r5 (step x H5 y5)) λ_ s6 zz=>?_);obtain⟨Y6,H6,I6,q6⟩:=zz;refine wpAny_passesOwn hp (thn (hb _ s6 Y6 H6 _ I6 q6) λf s7 q7=>?_);have again:∀{Y7:St} {H7:Hp},Inv X (j0++pE fp s5.heap) Y7 H7 s7->N Y7 H7->∃m,m<n/\∃i Y' H',Inv X j0 Y' H' s7/\tn i s7.heap/\(∀b∈fp,H' b=none)/\W i m Y' H':=λ{Y7 H7} I7 n7=>by
     obtain⟨m',hm,w7⟩:=hN Y7 H7 n7;refine⟨m',hm,i+1,Y7,H7,I7.unpinned,T.keep _ _ _ st5 λb hb o e=>(I7.pin (b,o) (List.mem_append_right _ (List.mem_append_right _ (dR hb e)))).1,λb hb=>?_,w7⟩;obtain⟨o,e,d⟩:=T.obj _ _ st5 b hb;exact(I7.pin (b,o) (List.mem_append_right _ (List.mem_append_right _ (dR hb e)))).2.1
   cases f with
   | next=>obtain⟨Y7,H7,I7,n7⟩:=q7;exact again I7 n7
   | cont=>obtain⟨Y7,H7,I7,n7⟩:=q7;exact again I7 n7
   | brk=>obtain⟨Y7,H7,I7,q7⟩:=q7;exact⟨Y7,H7,I7.unpinned,q7⟩
   | ret v=>obtain⟨x7,Y7,H7,I7,r7,q7⟩:=q7;exact⟨x7,Y7,H7,I7.unpinned,r7,q7⟩
end
abbrev R2:=V->V->Hp->VK->Prop
def OpR(X:Cx)(f:Value->Value->Sem Value)(r:R2):Prop :=
 ∀(j0:List (Addr×Obj)) (s:J5) (Y:St) (H:Hp) (x y:V) (v u:Value) (Q:VK),Inv X j0 Y H s->aM x v->aM y u->r x y H Q->
   wpAny (model X.prog X.w) X.A (f v u) (EP X j0 Y Q) X.xe s
def UnR(X:Cx)(f:Value->Sem Value)(r:V->Hp->VK->Prop):Prop :=
 ∀(j0:List (Addr×Obj)) (s:J5) (Y:St) (H:Hp) (x:V) (v:Value) (Q:VK),Inv X j0 Y H s->aM x v->r x H Q->
   wpAny (model X.prog X.w) X.A (f v) (EP X j0 Y Q) X.xe s
def aU(X:Cx)(f:Value)(r:List V->Hp->VK->Prop):Prop :=
 ∀(j0:List (Addr×Obj)) (s:J5) (Y:St) (H:Hp) (xs:List V) (us:List Value) (Q:VK),Inv X j0 Y H s->aI xs us->r xs H Q->
   wpAny (model X.prog X.w) X.A (call f us) (EP X j0 Y Q) X.xe s
def aFV(X:Cx)(r:V->Hp->(Bool->Hp->Prop)->Prop):Prop :=
 ∀(j0:List (Addr×Obj)) (s:J5) (Y:St) (H:Hp) (x:V) (v:Value) (Q:Bool->Hp->Prop),Inv X j0 Y H s->aM x v->r x H Q->
   wpAny (model X.prog X.w) X.A (truthy v) (TP X j0 Y Q) X.xe s
def tOp(r:R2)(ta tb:TE):TE:=λY H Q=>ta Y H λx H1=>tb Y H1 λy H2=>r x y H2 Q
def tUn(r:V->Hp->VK->Prop)(ta:TE):TE:=λY H Q=>ta Y H λx H1=>r x H1 Q
def rI(C:Int->Int->Prop)(g:Int->Int->V):R2:=λx y H Q=>∃i j,x= .int i/\y= .int j/\C i j/\Q (g i j) H
def rI0(g:Int->Int->V):R2:=λx y H Q=>∃i j,x= .int i/\y= .int j/\Q (g i j) H
noncomputable def rU(g:Int->V):V->Hp->VK->Prop:=λx H Q=>∃i,x= .int i/\Q (g i) H
section
variable{X:Cx}{a b c:Expr}{ta tb tc:TE}{pos:Pos}
def aBn(ha:PE X a ta)(hb:PE X b tb){j0:List (Addr×Obj)}{Y:St}{R:V->V->Hp->Prop}(I:Inv X j0 Y H s)
   (h:ta Y H λx H1=>tb Y H1 λy H2=>R x y H2) {Q:Value->J5->Prop} {f:Value->Value->Sem Value}
   (hf:∀v u s2 x y H2,Inv X j0 Y H2 s2->aM x v->aM y u->R x y H2->wpAny (model X.prog X.w) X.A (f v u) Q X.xe s2) :
   wpAny (model X.prog X.w) X.A (eval a X.env) (λv s₁=>wpAny (model X.prog X.w) X.A (eval b X.env) (λu s₂=>wpAny (model X.prog X.w) X.A (f v u) Q X.xe s₂) X.xe s₁) X.xe s:=by
 refine thn (ha j0 s Y H _ I h) λv s1 zz=>?_;obtain⟨x,H1,I1,r1,q1⟩:=zz;refine thn (hb j0 s1 Y H1 _ I1 q1) λu s2 zz=>?_;obtain⟨y,H2,I2,r2,q2⟩:=zz;exact hf v u s2 x y H2 I2 r1 r2 q2
def OZ(ho:OpR X (binaryOp op) r)(ha:PE X a ta)(hb:PE X b tb):PE X (.BinOp a op b pos) (tOp r ta tb):=by
 intro j0 s Y H Q I h;exact wpAny_BinOp (aBn ha hb I h λv u s2 x y H2 I2 rx ry q=>ho j0 s2 Y H2 x y v u Q I2 rx ry q)
def ZG(ho:UnR X (unaryOp op) r)(ha:PE X a ta):PE X (.UnaryOp op a pos) (tUn r ta):=by
 intro j0 s Y H Q I h;exact UnaryOp_ (thn (ha j0 s Y H _ I h)<|by rintro v s1 ⟨x,H1,I1,r1,q1⟩;exact ho j0 s1 Y H1 x v Q I1 r1 q1)
def opI{f:Value->Value->Sem Value}{C:Int->Int->Prop}{g:Int->Int->Int}
   (rule:∀(i j:Int) (t u:Tok) (s:J5) (Q:Value->J5->Prop) (E:Value->J5->Prop),C i j->Q (.int (g i j) s.toks) {s with toks:=s.toks+1}->wpAny (model X.prog X.w) X.A (f (.int i t) (.int j u)) Q E s) :
   OpR X f (rI C λi j=>.int (g i j)):=by
 intro j0 s Y H x y v u Q I rx ry h;obtain⟨i,j,rfl,rfl,hc,q⟩:=h;obtain⟨t,rfl⟩:=rx;obtain⟨t',rfl⟩:=ry;exact rule i j t t' s _ _ hc ⟨.int (g i j),H,I.tok _,⟨_,rfl⟩,q⟩
def aC6{f:Value->Value->Sem Value}{g:Int->Int->Int}
   (rule:∀(i j:Int) (t u:Tok) (s:J5) (Q:Value->J5->Prop) (E:Value->J5->Prop),Q (.int (g i j) s.toks) {s with toks:=s.toks+1}->wpAny (model X.prog X.w) X.A (f (.int i t) (.int j u)) Q E s) :
   OpR X f (rI0 λi j=>.int (g i j)):=by
 intro j0 s Y H x y v u Q I rx ry h;obtain⟨i,j,rfl,rfl,q⟩:=h;obtain⟨t,rfl⟩:=rx;obtain⟨t',rfl⟩:=ry;exact rule i j t t' s _ _ ⟨.int (g i j),H,I.tok _,⟨_,rfl⟩,q⟩
def YJ{f:Value->Value->Sem Value}{g:Int->Int->Bool}
   (rule:∀(i j:Int) (t u:Tok) (s:J5) (Q:Value->J5->Prop) (E:Value->J5->Prop),Q (.bool (g i j)) s->wpAny (model X.prog X.w) X.A (f (.int i t) (.int j u)) Q E s) :
   OpR X f (rI0 λi j=>.bl (g i j)):=by
 intro j0 s Y H x y v u Q I rx ry h;obtain⟨i,j,rfl,rfl,q⟩:=h;obtain⟨t,rfl⟩:=rx;obtain⟨t',rfl⟩:=ry;exact rule i j t t' s _ _ ⟨.bl (g i j),H,I,rfl,q⟩
def MU(i j:Int):Prop:=0<=j/\j<=1000000/\i.natAbs<2^64
def FA(k:Nat):(0:Int)<=2^k:=by
 rw[two_pow_cast];exact Int.natCast_nonneg _
def aCK:OpR X (binaryOp .Add) (rI0 λi j=>.int (i+j)):=aC6 λ_ _ _ _ _ _ _ q=>add_int q
def aCr:OpR X (binaryOp .Sub) (rI0 λi j=>.int (i-j)):=aC6 λ_ _ _ _ _ _ _ q=>sub_int q
def aA1:OpR X (binaryOp .Mod) (rI (λ_ j=>0<j) λi j=>.int (i%j)):=opI λi j _ _ _ _ _ hc q=>by
 have h1:(0:Int)<j:=hc;exact mod_int' ooq (by rw[Int.fmod_eq_emod_of_nonneg i ooq];exact q)
def aCf:OpR X (binaryOp .Pow) (rI MU λi j=>.int (i^j.toNat)):=opI λ_ _ _ _ _ _ _ hc q=>pow_int_small hc.1 hc.2.1 hc.2.2 q
def aBX:OpR X (binaryOp .LShift) (rI MU λi j=>.int (i*2^j.toNat)):=opI λ_ _ _ _ _ _ _ hc q=>lshift_int_small hc.1 hc.2.1 hc.2.2 q
def aBm:OpR X (binaryOp .RShift) (rI (λ_ j=>0<=j) λi j=>.int (i/2^j.toNat)):=opI λi j _ _ _ _ _ hc q =>
 rshift_int hc (by rw[Int.fdiv_eq_ediv_of_nonneg i (FA _)];exact q)
def aA4:OpR X (binaryOp .BitAnd) (rI0 λi j=>.int (Builtin.bitAnd i j)):=aC6 λ_ _ _ _ _ _ _ q=>and_int q
def unI{f:Value->Sem Value}{g:Int->Int}
   (rule:∀(i:Int) (t:Tok) (s:J5) (Q:Value->J5->Prop) (E:Value->J5->Prop),Q (.int (g i) s.toks) {s with toks:=s.toks+1}->wpAny (model X.prog X.w) X.A (f (.int i t)) Q E s) :
   UnR X f (rU λi=>.int (g i)):=by
 intro j0 s Y H x v Q I rx h;obtain⟨i,rfl,q⟩:=h;obtain⟨t,rfl⟩:=rx;exact rule i t s _ _ ⟨.int (g i),H,I.tok _,⟨_,rfl⟩,q⟩
def OQ:UnR X (unaryOp .USub) (rU λi=>.int (-i)):=unI λ_ _ _ _ _ q=>neg_int q
end
def XQ:decide (V.int i=V.int j)=(i==j):=by
 rw[Bool.eq_iff_iff];simp
def XM:decide (V.str i=V.str j)=(i==j):=by
 rw[Bool.eq_iff_iff];simp
section
variable{X:Cx}{a b c:Expr}{ta tb tc:TE}{pos:Pos}
def QX{Y:St}{s:J5}{k k':Bool}(I:Inv X j0 Y H s)(q:Q (.bl k) H)(e:k=k'):EP X j0 Y Q (.bool k') s:=by
 subst e;exact⟨.bl k,H,I,rfl,q⟩
def aEB:OpR X (compareOp .Lt) (rI0 λi j=>.bl (decide (i<j))):=YJ λ_ _ _ _ _ _ _ q=>lt_int q
def aDS:OpR X (compareOp .LtE) (rI0 λi j=>.bl (decide (i<=j))):=YJ λ_ _ _ _ _ _ _ q=>le_int q
def aEq:OpR X (compareOp .Gt) (rI0 λi j=>.bl (decide (j<i))):=YJ λ_ _ _ _ _ _ _ q=>gt_int q
def aEg:OpR X (compareOp .GtE) (rI0 λi j=>.bl (decide (j<=i))):=YJ λ_ _ _ _ _ _ _ q=>ge_int q
def aBc:OpR X (compareOp .Is) (λx y H Q=>y= .non/\Q (.bl (decide (x= .non))) H):=by
 intro j0 s Y H x y v u Q I rx ry h;obtain⟨rfl,q⟩:=h;cases ry;refine is_none_gen (QX I q ?_);cases x<;>first
   | (cases rx;rfl)
   | (obtain⟨t,rfl⟩:=rx;rfl)
def XU:OpR X (compareOp .IsNot) (λx y H Q=>y= .non/\Q (.bl (!decide (x= .non))) H):=by
 intro j0 s Y H x y v u Q I rx ry h;obtain⟨rfl,q⟩:=h;cases ry;refine isnot_none_gen (QX I q ?_);cases x<;>first
   | (cases rx;rfl)
   | (obtain⟨t,rfl⟩:=rx;rfl)
def OpR.or(h:OpR X f r)(h':OpR X f r'):OpR X f (λx y H Q=>r x y H Q∨r' x y H Q):=by
 intro j0 s Y H x y v u Q I rx ry q;rcases q with q|q
 . exact h j0 s Y H x y v u Q I rx ry q
 . exact h' j0 s Y H x y v u Q I rx ry q
def UR(ho:OpR X (compareOp op) r)(ha:PE X a ta)(hb:PE X b tb)(hm:behindInMarks op b=false):PE X (.Compare a [op] [b] pos) (tOp r ta tb):=by
 intro j0 s Y H Q I h;exact wpAny_Compare1 (aBn ha hb I h λv u s2 x y H2 I2 rx ry q=>ho j0 s2 Y H2 x y v u Q I2 rx ry q) hm
def aAk(t:TE):TT:=λY H Q=>t Y H λx H'=>∃k,x= .bl k/\Q k H'
def YS(ho:OpR X (compareOp op) r)(ha:PE X a ta)(hb:PE X b tb)(hm:behindInMarks op b=false):PT X (.Compare a [op] [b] pos) (aAk (tOp r ta tb)):=by
 intro j0 s Y H Q I h;refine wpAny_isTrue_Compare1 (thn (ha j0 s Y H _ I h) λv s1 ⟨x,H1,I1,r1,q1⟩=>thn (hb j0 s1 Y H1 _ I1 q1) λu s2 ⟨y,H2,I2,r2,q2⟩ =>
   thn (ho j0 s2 Y H2 x y v u _ I2 r1 r2 q2) λc s3 ⟨z,H3,I3,r3,k,e,q3⟩=>?_) hm
 subst e;cases r3;exact wpAny_truthy_bool ⟨H3,I3,q3⟩
def DL(r r':R2)(ta tb tc:TE):TE:=λY H Q=>ta Y H λx H1=>tb Y H1 λy H2=>r x y H2 λz H3=>∃k,z= .bl k/\
 (if k=true then tc Y H3 λw' H4=>r' y w' H4 Q else Q (.bl false) H3)
def OS(ho:OpR X (compareOp op) r)(ho':OpR X (compareOp op') r')(ha:PE X a ta)(hb:PE X b tb)(hc:PE X c tc)
   (hm:lastMarks [op,op'] [b,c]=false:=by with_unfolding_all rfl):PE X (.Compare a [op,op'] [b,c] pos) (DL r r' ta tb tc):=by
 intro j0 s Y H Q I h;refine Compare_chain (thn (ha j0 s Y H _ I h) λv s1 ⟨x,H1,I1,r1,q1⟩=>chain_link (thn (hb j0 s1 Y H1 _ I1 q1) λu s2 ⟨y,H2,I2,r2,q2⟩ =>
   thn (ho j0 s2 Y H2 x y v u _ I2 r1 r2 q2) λd s3 ⟨z,H3,I3,r3,k,e,q3⟩=>?_)) hm
 subst e;cases r3;refine wpAny_truthy_bool ?_;cases k with
 | false=>exact ite_ff ⟨.bl false,H3,I3,rfl,q3⟩
 | true=>exact ite_tt (chain_last (thn (hc j0 s3 Y H3 _ I3 q3)<|by rintro w' s4 ⟨z',H4,I4,r4,q4⟩;exact ho' j0 s4 Y H4 y z' u w' Q I4 r2 r4 q4))
def OX(ho:OpR X (compareOp op) r)(ho':OpR X (compareOp op') r')(ha:PE X a ta)(hb:PE X b tb)(hc:PE X c tc)
   (hm:lastMarks [op,op'] [b,c]=false:=by with_unfolding_all rfl):PT X (.Compare a [op,op'] [b,c] pos) (aAk (DL r r' ta tb tc)):=by
 intro j0 s Y H Q I h;refine isTrue_chain (thn (ha j0 s Y H _ I h) λv s1 ⟨x,H1,I1,r1,q1⟩=>test_link (thn (hb j0 s1 Y H1 _ I1 q1) λu s2 ⟨y,H2,I2,r2,q2⟩ =>
   thn (ho j0 s2 Y H2 x y v u _ I2 r1 r2 q2) λd s3 ⟨z,H3,I3,r3,k,e,q3⟩=>?_)) hm
 subst e;cases r3;refine wpAny_truthy_bool ?_;cases k with
 | false =>
   obtain⟨k',e',q'⟩:=q3;cases e';exact ite_ff ⟨H3,I3,q'⟩
 | true =>
   refine ite_tt (test_last (thn (hc j0 s3 Y H3 _ I3 q3) λw' s4 ⟨z',H4,I4,r4,q4⟩=>thn (ho' j0 s4 Y H4 y z' u w' _ I4 r2 r4 q4) λd' s5 zz=>?_));obtain⟨z2,H5,I5,r5,k2,e2,q5⟩:=zz;subst e2;cases r5;exact wpAny_truthy_bool ⟨H5,I5,q5⟩
def JU(K:W.Frag)(x:V)(H:Hp)(k:Bool):Prop :=
 match x with
 | .non=>k=false
 | .bl b=>k=b
 | .int i=>k=(i !=0)
 | .str y=>y.length<=sizeLine/\k=((y.length:Int)!=0)
 | .byt y=>y.size<=sizeLine/\k=((y.size:Int)!=0)
 | .ref p=>(∃xs,SqL K H p xs/\k= !xs.isEmpty)∨(∃xs,SqT K H p xs/\k= !xs.isEmpty)∨∃kvs,H p=some (.dK kvs)/\k= !kvs.isEmpty
 | _=>False
def EA{κ:Type}{kvs:List (κ×V)}{vs:List (κ×Value)}(r:KV kvs vs):(!vs.isEmpty)= !kvs.isEmpty:=by
 cases r<;>rfl
def sU(r:aI xs its):(!its.toArray.isEmpty)= !xs.isEmpty:=by
 cases r<;>simp
def jF:(sizeLine:Nat)<2^63:=by rw[sizeLine_eq];decide
def zM:aFV X (λx H Q=>∃k,JU X.K x H k/\Q k H):=by
 intro j0 s Y H x v Q I rx h;obtain⟨k,e,q⟩:=h;have hl:=jF;have hs:sizeLine=16777216:=sizeLine_eq;cases x with
 | non =>
   cases rx;have e':k=false:=e;subst e';exact truthy_none ⟨H,I,q⟩
 | bl b =>
   cases rx;have e':k=b:=e;subst e';exact wpAny_truthy_bool ⟨H,I,q⟩
 | int i =>
   obtain⟨t,rfl⟩:=rx;have e':k=(i !=0):=e;subst e';exact PySem.P.truthy_int ⟨H,I,q⟩
 | str y =>
   obtain⟨t,rfl⟩:=rx;obtain⟨hy,e'⟩:y.length<=sizeLine/\k=((y.length:Int)!=0):=e;subst e';exact PySem.P.truthy_str ooq ⟨H,I.tok _,q⟩
 | byt y =>
   obtain⟨t,rfl⟩:=rx;obtain⟨hy,e'⟩:y.size<=sizeLine/\k=((y.size:Int)!=0):=e;subst e';exact W.truthy_bytes ooq ⟨H,I.tok _,q⟩
 | ref p =>
   cases rx;have e':(∃xs,SqL X.K H p xs/\k= !xs.isEmpty)∨(∃xs,SqT X.K H p xs/\k= !xs.isEmpty)∨∃kvs,H p=some (.dK kvs)/\k= !kvs.isEmpty:=e;rcases e' with ⟨xs,hx,e'⟩|⟨xs,hx,e'⟩|⟨kvs,hx,e'⟩
   . subst e';obtain⟨its,r,pl,hz⟩:=I.list hx;have hlen:=r.length;exact wpAny_truthy_list pl.isList (by simp only[wIq];omega) ⟨H,I.tok _,by rw[sU r];exact q⟩
   . subst e';obtain⟨its,r,pl,hz⟩:=I.tuple hx;have hlen:=r.length;exact truthy_tuple pl (by simp only[wIq];omega) ⟨H,I.tok _,by rw[sU r];exact q⟩
   . subst e';obtain⟨hz,hS,vs,r,m⟩:kvs.length<=sizeLine/\(p==sysModules)=false/\∃vs,KV kvs vs/\s.heap.DictOf (cP X.prog X.w) p vs:=I.hok p _ hx;have hlen:kvs.length=vs.length:=Paired.length r;exact wpAny_truthy_dict hS m ooq ⟨H,I.tok _,by rw[EA r];exact q⟩
 | _=>exact(show False from e).elim
def OW(ha:PE X a ta)(he:∀whole,isTrue a X.env whole=(do let v <-whole;standAt a.pos;holding [v] (truthy v))) :
   PT X a (λY H Q=>ta Y H λx H'=>∃k,JU X.K x H' k/\Q k H'):=by
 intro j0 s Y H Q I h;exact isTrue_plain (thn (ha j0 s Y H _ I h)<|by rintro v s1 ⟨x,H1,I1,r1,q1⟩;exact zM j0 s1 Y H1 x v Q I1 r1 q1) (he _)
def EB:OpR X (binaryOp .Add) (λx y H Q=>∃i j,x= .str i/\y= .str j/\i.length+j.length<=sizeLine/\Q (.str (i++j)) H):=by
 intro j0 s Y H x y v u Q I rx ry h;obtain⟨i,j,rfl,rfl,hz,q⟩:=h;obtain⟨t,rfl⟩:=rx;obtain⟨t',rfl⟩:=ry;exact add_str (λt' tk=>⟨.str (i++j),H,I.tok _,⟨_,rfl⟩,q⟩) hz
def dI(r:aI [x] us):∃u,us=[u]/\aM x u:=by
 cases r with
 | cons r1 r2=>cases r2;exact⟨_,rfl,r1⟩
def GJ(r:aI [x,y] us):∃u w',us=[u,w']/\aM x u/\aM y w':=by
 cases r with
 | cons r1 r2 =>
   cases r2 with
   | cons r3 r4=>cases r4;exact⟨_,_,rfl,r1,r3⟩
def TY:aU X (.builtin "abs") (λxs H Q=>∃i,xs=[.int i]/\Q (.int (if i<0 then -i else i)) H):=by
 intro j0 s Y H xs us Q I r h;obtain⟨i,rfl,q⟩:=h;obtain⟨u,rfl,t,rfl⟩:=dI r;exact call_abs_int λu tk=>⟨.int (if i<0 then -i else i),H,I.tok _,⟨_,rfl⟩,q⟩
def LP(hc:X.calm=true):aU X (.builtin "max") (λxs H Q=>∃i j,xs=[.int i,.int j]/\Q (.int (if j>i then j else i)) H):=by
 intro j0 s Y H xs us Q I r h;obtain⟨i,j,rfl,q⟩:=h;obtain⟨u,w',rfl,⟨t,rfl⟩,⟨t',rfl⟩⟩:=GJ r;refine max_two_ints (I.ok.hd hc) λh' tk k=>⟨_,H,I.kept k,?_,q⟩;by_cases hj:j>i
 . rw[ja hj,ja hj];exact⟨_,rfl⟩
 . rw[j9 hj,j9 hj];exact⟨_,rfl⟩
def LG(hc:X.calm=true):aU X (.builtin "min") (λxs H Q=>∃i j,xs=[.int i,.int j]/\Q (.int (if j<i then j else i)) H):=by
 intro j0 s Y H xs us Q I r h;obtain⟨i,j,rfl,q⟩:=h;obtain⟨u,w',rfl,⟨t,rfl⟩,⟨t',rfl⟩⟩:=GJ r;refine min_two_ints (I.ok.hd hc) λh' tk k=>⟨_,H,I.kept k,?_,q⟩;by_cases hj:j<i
 . rw[ja hj,ja hj];exact⟨_,rfl⟩
 . rw[j9 hj,j9 hj];exact⟨_,rfl⟩
def MC:aU X (.type "int") (λxs H Q=>(∃i,xs=[.int i]/\Q (.int i) H)∨∃k,xs=[.bl k]/\Q (.int (if k then 1 else 0)) H):=by
 intro j0 s Y H xs us Q I r h;rcases h with ⟨i,rfl,q⟩|⟨k,rfl,q⟩
 . obtain⟨u,rfl,t,rfl⟩:=dI r;exact call_int_int ⟨.int i,H,I,⟨_,rfl⟩,q⟩
 . obtain⟨u,rfl,r1⟩:=dI r;cases r1;exact call_int_bool ⟨.int (if k then 1 else 0),H,I.tok _,⟨_,rfl⟩,q⟩
def xR:aU X (.type "str") (λxs H Q=>∃i,xs=[.int i]/\i.natAbs.log2<1920/\Q (.str (toString i)) H):=by
 intro j0 s Y H xs us Q I r h;obtain⟨i,rfl,hz,q⟩:=h;obtain⟨u,rfl,t,rfl⟩:=dI r;exact PySem.P.str_of_int hz ⟨.str _,H,I.tok _,⟨_,rfl⟩,q⟩
end
structure KG(h:Heap)(x dx C:Addr)(mA:Str->Option Value):Prop where
 obj:h.get? x=some (W.instObj C dx)
 ns:h.Ns1 dx mA
 ne:dx≠x
def MJ{h:Heap}(n:h.Ns1 dx mA):∃od,h.get? dx=some od/\∀name,W.lookIn name od=some (mA name):=by
 obtain⟨o,es,ep,ho,hd,hk,_,hm⟩:=n;refine⟨o,ho,λname=>?_⟩;have e:=hm name;unfold nsFind findBy at e;rw[<-Array.find?_toList] at e;unfold W.lookIn;rw[hd];dsimp only;split
 . rename_i y q;rw[q] at e;exact congrArg some e
 . rename_i q;rw[q] at e;have a:es.toList.any (·.refKey)=false:=by
     rw[List.any_eq_false];intro y hy;obtain⟨z,t,hkey⟩:=hk y (Array.mem_toList_iff.mp hy);simp[DictEntry.refKey,hkey]
   have a':¬es.toList.any (·.refKey)=true:=by rw[a];exact Bool.false_ne_true
   rw[j9 a'];exact congrArg some e
def KG.look(I:KG h x dx C mA):∃od,W.InstAt h x (W.instObj C dx) C (some od)/\∀name,W.lookIn name od=some (mA name) :=
 let ⟨od,ho,hl⟩:=MJ I.ns
 ⟨od,⟨I.obj,rfl,rfl,ho⟩,hl⟩
section
variable{prog:J7}{w:World}{A:Around}{E:Value->J5->Prop}{s:J5}{K:W.Frag}{x dx C f:Addr}{mA:Str->Option Value}{name:Str}{v:Value}
def UU(X:K.In s.heap)(I:KG s.heap x dx C mA)(hg:W.plainGet K C name=true)(hh:W.hasDictIn K C=true)
   (ha:W.findIn K (.ref C) name=some none) (hv:mA name=some v) (hv':W.handedIn v=true) (h:Q v {s with toks:=s.toks+1}) :
   wpAny (model prog w) A (getAttr (.ref x) name expr) Q E s:=by
 obtain⟨od,J,hl⟩:=I.look;exact W.get_value X J (W.plainGet_of hg).1 (W.findObj_own hh ha rfl (by rw[hl,hv])) hv' h
def UY(X:K.In s.heap)(I:KG s.heap x dx C mA)
   (hs:W.findIn K (.ref C) "__setattr__"=some (some (.builtin "object.__setattr__"))) (hp:W.plainOver K C=true) (ht:W.takerIn K C name=some none) (hh:W.hasDictIn K C=true)
   (hw:PySem.Within mA ns) (hsz:ns.length<=sizeLine)
   (h:∀h',KG h' x dx C (λy=>if y=name then some v else mA y)->Heap.SameBut dx s.heap h'->Q () {s with heap:=h',toks:=s.toks+2}) :
   wpAny (model prog w) A (setAttr (.ref x) name v) Q E s:=by
 obtain⟨od,J,hl⟩:=I.look;refine W.set_plain X J hs (W.osa_open (s:={s with toks:=s.toks+1}) (r:=none) X J hp ht λb=>?_);obtain⟨cd,hc,hd'⟩:=W.any_some hh;have hx:s.heap.get? x=some ⟨.ref C,some dx,.plain,#[]⟩:=I.obj;refine wAq (wBq (wAq (wAq (wpAny_loadPart hx (wAq (W.Looks.here (s:={s with toks:=s.toks+1}) (W.looks_clsIn X hc) ?_))))));rw[hd'];refine wBq (a:=some dx) (wAq (wBq (wAq ?_)));refine wpAny_nsSet1 (s:={s with toks:=s.toks+1}) I.ns λh' hn2 hs2=>?_;obtain⟨oD,esD,epD,hoD,hdD,hcD⟩:=hn2.count (PySem.Within.cons name v hw);refine wAq (wpAny_lookBehind hoD (by rw[hdD];exact pastItsLine_dict (Nat.le_trans hcD (by rw[List.length_cons];omega))) ?_);exact wBq (h _ ⟨(hs2.2 _ (Ne.symm I.ne)).trans I.obj,hn2,I.ne⟩ hs2)
def uF(X:K.In s.heap)(hm:W.makesIn K C=true)
   (hi:W.findIn K (.ref C) "__init__"=some (some (.ref f))) (hf:W.typeIn K (.ref f)=some (.type "function"))
   (h :codeAny (model prog w) (A.under (.builtin "type.__call__" ⟨.ref C::vs,kw⟩)) (.call (.ref f) ⟨.ref (s.heap.objs.size+1)::vs,kw⟩) (W.InitBack (s.heap.objs.size+1) R)
     {s with heap:=(s.heap.push W.emptyDict).push (W.instObj C s.heap.objs.size)}) :
   codeAny (model prog w) A (.call (.ref C) ⟨vs,kw⟩) R s:=by
 obtain⟨hh,g,d,t,os⟩:=s;exact W.make_core (W.makes_of X hm) (W.looks_findIn X hi) (λself=>W.bind_fn X self hf) (.inl rfl) h
end
noncomputable def iX(f:Str)(v:V):List (Str×V)->List (Str×V)
 | []=>[(f,v)]
 | (g,x)::r=>if g=f then(g,v)::r else(g,x)::iX f v r
theorem pU(f g:Str)(v:V):∀fs:List (Str×V),(iX f v fs).lookup g=if g=f then some v else fs.lookup g
 | [] =>by
   show List.lookup g [(f,v)]=_;by_cases h:g=f
   . have hb:(g==f)=true:=beq_iff_eq.mpr h;simp only[List.lookup,hb,ja h]
   . have hb:(g==f)=false:=beq_eq_false_iff_ne.mpr h;simp only[List.lookup,hb,j9 h]
 | (k,x)::r=>by
   have ih:=pU f g v r;rw[show iX f v ((k,x)::r)=(if k=f then(k,v)::r else(k,x)::iX f v r) from rfl];by_cases hk:k=f
   . rw[ja hk];by_cases h:g=k
     . have hb:(g==k)=true:=beq_iff_eq.mpr h;simp only[List.lookup,hb,ja (h.trans hk)]
     . have hb:(g==k)=false:=beq_eq_false_iff_ne.mpr h;simp only[List.lookup,hb,j9 (λe:g=f=>h (e.trans hk.symm))]
   . rw[j9 hk];by_cases h:g=k
     . have hb:(g==k)=true:=beq_iff_eq.mpr h;simp only[List.lookup,hb,j9 (λe:g=f=>hk (h.symm.trans e))]
     . have hb:(g==k)=false:=beq_eq_false_iff_ne.mpr h;simp only[List.lookup,hb];exact ih
theorem pD(f:Str)(v:V):∀fs:List (Str×V),f∈(iX f v fs).map (·.1)/\∀g,g∈fs.map (·.1)->g∈(iX f v fs).map (·.1)
 | []=>⟨by simp[iX],λg h=>by simp at h⟩
 | (k,x)::r=>by
   obtain⟨i1,i2⟩:=pD f v r;rw[show iX f v ((k,x)::r)=(if k=f then(k,v)::r else(k,x)::iX f v r) from rfl];by_cases hk:k=f
   . rw[ja hk];subst hk;exact⟨by simp,λg h=>by simpa using h⟩
   . rw[j9 hk];refine⟨?_,λg h=>?_⟩
     . rw[List.map_cons];exact wCq _ i1
     . rw[List.map_cons] at h ⊢;rcases List.mem_cons.mp h with e|e
       . exact List.mem_cons.mpr (.inl e)
       . exact wCq _ (i2 g e)
theorem pX(f:Str)(v:V):∀fs:List (Str×V),(iX f v fs).length<=fs.length+1
 | []=>by simp[iX]
 | (k,x)::r=>by
   have ih:=pX f v r;rw[show iX f v ((k,x)::r)=(if k=f then(k,v)::r else(k,x)::iX f v r) from rfl];by_cases hk:k=f
   . rw[ja hk,List.length_cons,List.length_cons];omega
   . rw[j9 hk,List.length_cons,List.length_cons];omega
def uT.some_of(r:uT (some v) o):∃u,o=some u/\aM v u:=by
 cases o with
 | none=>exact(show False from r).elim
 | some u=>exact⟨u,rfl,r⟩
def IZ(r:aM v u):W.handedIn u=true:=by
 cases v with
 | non=>cases(show u=Value.none from r);rfl
 | bl b=>cases(show u=Value.bool b from r);rfl
 | int i=>obtain⟨t,e⟩:=(show ∃t,u=Value.int i t from r);cases e;rfl
 | str x=>obtain⟨t,e⟩:=(show ∃t,u=Value.str x t from r);cases e;rfl
 | byt b=>obtain⟨t,e⟩:=(show ∃t,u=Value.bytes b t from r);cases e;rfl
 | flt b=>obtain⟨t,e⟩:=(show ∃t,u=Value.float b t from r);cases e;rfl
 | ref a=>cases(show u=Value.ref a from r);rfl
 | ty n=>cases(show u=Value.type n from r);rfl
section
variable{P:J7}{w:World}{H H':Hp}{h h':Heap}{a C dx:Addr}{fs fs':List (Str×V)}
def rT(hok:HOk P w H h)(e:H a=some (.ins C dx fs)):∃mA,KG h a dx C mA/\(∀f,uT (fs.lookup f) (mA f))/\PySem.Within mA (fs.map (·.1))/\fs.length<=1000/\H dx=some (.own a):=by
 obtain⟨d,z,ne,ob,mA,n,r,q⟩:=(show cA P w H h a (.ins C dx fs) from hok a _ e);exact⟨mA,⟨ob,n,ne⟩,r,q,z,d⟩
end
structure Cls(K:W.Frag)(C:Addr):Prop where
 pg:W.plainGet K C Str.empty=true
 hd:W.hasDictIn K C=true
 po:W.plainOver K C=true
 sa:W.findIn K (.ref C) "__setattr__"=some (some (.builtin "object.__setattr__"))
def Cls.get{K:W.Frag}(c:Cls K C)(f:Str):W.plainGet K C f=true:=c.pg
def cY(K:W.Frag)(C:Addr)(f:Str):Prop:=W.findIn K (.ref C) f=some none
def cY.taker{K:W.Frag}{C:Addr}(n:cY K C f):W.takerIn K C f=some none:=by
 unfold W.takerIn;rw[show W.findIn K (.ref C) f=some none from n];rfl
structure Con(K:W.Frag)(C:Addr)(f:Str)(v:V)(u:Value):Prop where
 at_:W.findIn K (.ref C) f=some (some u)
 rel:aM v u
 get:W.specialIn K u "__get__"=some none
 cp:W.copiedNames.contains f=false
structure wB(K:W.Frag)(C:Addr)(m:Str)(f:Addr):Prop where
 at_:W.findIn K (.ref C) m=some (some (.ref f))
 fn:W.isFn K (.ref f)=true
 kp:W.keepIn K (.ref f)=true
section
variable{X:Cx}{j0:List (Addr×Obj)}{Y:St}{H:Hp}{s:J5}{a C dx:Addr}{fs:List (Str×V)}{f:Str}{v:V}{A:Around}{E:Value->J5->Prop}
def EJ(I:Inv X j0 Y H s)(e:H a=some (.ins C dx fs))(c:Cls X.K C)(n:cY X.K C f)(l:fs.lookup f=some v)
   (h:∀u s',Inv X j0 Y H s'->aM v u->Q u s'):wpAny (model X.prog X.w) A (getAttr (.ref a) f b) Q E s:=by
 obtain⟨mA,O,r,_,_,_⟩:=rT I.hok e;obtain⟨u,hu,ru⟩:=uT.some_of (v:=v) (o:=mA f) (by rw[<-l];exact r f);exact UU I.kIn O (c.get f) c.hd n hu (IZ ru) (h u _ (I.tok _) ru)
def DD(I:Inv X j0 Y H s)(e:H a=some (.ins C dx fs))(c:Cls X.K C)(n:cY X.K C f)(hl:fs.length<1000)(ry:aM y u)
   (h:∀s',Inv X j0 Y (upd H a (.ins C dx (iX f y fs))) s'->Q () s'):wpAny (model X.prog X.w) A (setAttr (.ref a) f u) Q E s:=by
 obtain⟨mA,O,r,wi,_,ho⟩:=rT I.hok e;have hz:(fs.map (·.1)).length<=sizeLine:=by rw[List.length_map,sizeLine_eq];omega
 refine UY I.kIn O c.sa c.po n.taker c.hd wi hz λh' O' sb=>h _ ?_;have hd:∃o,h'.get? dx=some o:=let ⟨o,_,_,e',_⟩:=O'.ns;⟨o,e'⟩
 refine I.write (x:=a) (e:=dx) (by rw[e];exact True.intro) (.inr ho) (λb q hb z=>(sb.2 b hb).trans z) hd ?_;refine⟨by rw[aF O.ne];exact ho,?_,O.ne,O'.obj,_,O'.ns,λg=>?_,λg hg=>?_⟩
 . have:=pX f y fs;omega
 . show uT ((iX f y fs).lookup g) (if g=f then some u else mA g);rw[pU];by_cases q:g=f
   . rw[ja q,ja q];exact ry
   . rw[j9 q,j9 q];exact r g
 . by_cases q:g=f
   . rw[q];exact(pD f y fs).1
   . refine(pD f y fs).2 g (wi g λz=>hg ?_);show(if g=f then some u else mA g)=none;rw[j9 q];exact z
def Inv.made(I:Inv X j0 Y H s):Inv X j0 Y (upd (upd H s.heap.objs.size (.own (s.heap.objs.size+1))) (s.heap.objs.size+1) (.ins C s.heap.objs.size []))
   {s with heap:=(s.heap.push W.emptyDict).push (W.instObj C s.heap.objs.size)}:=by
 have e1:(s.heap.push W.emptyDict).get? s.heap.objs.size=some W.emptyDict:=wGq s.heap rfl;have e2:((s.heap.push W.emptyDict).push (W.instObj C s.heap.objs.size)).get? (s.heap.objs.size+1)=some (W.instObj C s.heap.objs.size):=by
   have:=wGq (s.heap.push W.emptyDict) (o:=W.instObj C s.heap.objs.size) rfl
   rwa [Heap.size_push] at this
 have e3:(s.heap.push W.emptyDict).Ns s.heap.objs.size (λ_=>none):=⟨W.emptyDict,#[],_,e1,rfl,(λe he=>absurd he (by simp)),λ_=>rfl⟩;have I1:=I.laid (a:=s.heap.objs.size) (o:=.own (s.heap.objs.size+1)) (h':=s.heap.push W.emptyDict) (t':=s.toks) (λb u q=>wEq _ q) (Nat.le_refl _) ⟨_,e1⟩;refine I1.laid (a:=s.heap.objs.size+1) (o:=.ins C s.heap.objs.size []) (t':=s.toks) (λb u q=>wEq _ q) (Nat.le_of_eq (Heap.size_push _ _)) ?_;have ne:s.heap.objs.size≠s.heap.objs.size+1:=Nat.ne_of_lt (Nat.lt_succ_self _);refine⟨by rw[aF ne,aS],Nat.zero_le _,ne,e2,λ_=>none,(Heap.Ns1.of_empty e3).at λo q=>wEq _ q,λ_=>True.intro,λy hy=>absurd rfl hy⟩
def YR(hb:attributeBase e f env (eval e env)=eval e env)
   (h:wpAny (model prog w) A (eval e env) (λo s₁=>wpAny (model prog w) A (getAttr o f true) Q E s₁) E s):wpAny (model prog w) A (eval (.Attribute e f pos) env) Q E s :=
 Attribute_any_ h (by rw[arm_eval_Attribute,hb])
end
def aFL(K:W.Frag)(ta:TE)(f:Str):TE:=λY H Q=>ta Y H λx H1=>∃a C dx fs v,x= .ref a/\H1 a=some (.ins C dx fs)/\Cls K C/\cY K C f/\fs.lookup f=some v/\Q v H1
def aDj(K:W.Frag)(ta:TE)(f:Str):TE:=λY H Q=>ta Y H λx H1=>∃a C dx fs v u,x= .ref a/\H1 a=some (.ins C dx fs)/\Cls K C/\Con K C f v u/\fs.lookup f=none/\Q v H1
def aGf(K:W.Frag)(ta tv:TE)(f:Str):TS:=λD Y H=>tv Y H λy H1=>ta Y H1 λx H2=>∃a C dx fs,x= .ref a/\H2 a=some (.ins C dx fs)/\Cls K C/\cY K C f/\fs.length<1000/\
 D.nx Y (upd H2 a (.ins C dx (iX f y fs)))
section
variable{X:Cx}{o e value:Expr}{f:Str}{pos pos' tpos:Pos}{ta tv:TE}
def aAp(he:PE X e ta)(hb:attributeBase e f X.env (eval e X.env)=eval e X.env):PE X (.Attribute e f pos) (aFL X.K ta f):=by
 intro j0 s Y H Q I h;refine YR hb (thn (he j0 s Y H _ I h) λu s1 zz=>?_);obtain⟨x,H1,I1,rx,a,C,dx,fs,v,ex,ea,c,n,l,q⟩:=zz;subst ex;obtain rfl:u=Value.ref a:=rx;exact EJ I1 ea c n l λu' s2 I2 ru=>⟨v,H1,I2,ru,q⟩
def aA9(ha:PE X o ta)(hv:PE X value tv)(hs:swapsWith value (some (.Attribute o f pos')) pos.line X.env=pure false):PS X (.Assign [.Attribute o f pos'] value pos) (aGf X.K ta tv f):=by
 intro j0 s Y H D I h;refine plainObj_wpAny_Assign_Attribute (thn (hv j0 s Y H _ I h) λu s1 ⟨y,H1,I1,ry,q⟩=>thn (ha j0 s1 Y H1 _ I1 q) λov s2 zz=>?_) hs;obtain⟨x,H2,I2,rx,a,C,dx,fs,ex,ea,c,n,l,q2⟩:=zz;subst ex;obtain rfl:ov=Value.ref a:=rx;exact DD I2 ea c n l ry λs3 I3=>⟨Y,_,I3,q2⟩
end
section
variable{X:Cx}{j0:List (Addr×Obj)}{Y:St}{H:Hp}{s:J5}{A:Around}{E:Value->J5->Prop}{Q:Value->J5->Prop}{c:Value}{b:Bool}
inductive oV(K:W.Frag)(H:Hp):V->Value->Prop where
 | non:oV K H .non (.type "NoneType")
 | bl (x:Bool):oV K H (.bl x) (.type "bool")
 | int (i:Int):oV K H (.int i) (.type "int")
 | str (x:Str):oV K H (.str x) (.type "str")
 | flt (x:UInt64):oV K H (.flt x) (.type "float")
 | lst {a:Addr} {xs:List V} (e:H a=some (.lst xs)):oV K H (.ref a) (.type "list")
 | frz {a:Addr} {o:Obj} {xs:List V} (e:H a=some (.frz o (.lst xs))):oV K H (.ref a) (.type "list")
 | tup {a:Addr} {xs:List V} (e:H a=some (.tup xs)):oV K H (.ref a) (.type "tuple")
 | dK {a:Addr} {kvs:List (Key×V)} (e:H a=some (.dK kvs)):oV K H (.ref a) (.type "dict")
 | dT {a:Addr} {kvs:List (List Key×V)} (e:H a=some (.dT kvs)):oV K H (.ref a) (.type "dict")
 | ins {a C dx:Addr} {fs:List (Str×V)} (e:H a=some (.ins C dx fs)) (cl:Cls K C) (ha:W.findIn K (.ref C) "__class__"=some (some (.builtin "object.__class__")))
     (hn:W.specialIn K (.builtin "object.__class__") "__get__"=some (some (.builtin "getset_descriptor.__get__"))) (htk:W.takesIn K (.builtin "object.__class__")=some true)
     (hm:W.mroIn K C (.type "object")=some true):oV K H (.ref a) (.ref C)
def xF(I:Inv X j0 Y H s)(rx:aM x u)(ty:oV X.K H x t)(e:W.kitOne X.K t c=some b)(h:∀tk,Q (.bool b) {s with toks:=tk}) :
   wpAny (model X.prog X.w) A (call (.builtin "isinstance") [u,c]) Q E s:=by
 cases ty with
 | non=>cases(show u=Value.none from rx);exact W.kia_one W.kitx_none I.kIn True.intro e (λz=>nomatch z) h
 | bl y=>cases(show u=Value.bool y from rx);exact W.kia_one W.kitx_bool I.kIn True.intro e (λz=>nomatch z) h
 | int i=>obtain⟨t,q⟩:=(show ∃t,u=Value.int i t from rx);cases q;exact W.kia_one W.kitx_int I.kIn True.intro e (λz=>nomatch z) h
 | str y=>obtain⟨t,q⟩:=(show ∃t,u=Value.str y t from rx);cases q;exact W.kia_one W.kitx_str I.kIn True.intro e (λz=>nomatch z) h
 | flt y=>obtain⟨t,q⟩:=(show ∃t,u=Value.float y t from rx);cases q;exact W.kia_one W.kitx_float I.kIn True.intro e (λz=>nomatch z) h
 | @lst a xs ea =>
   cases(show u=Value.ref a from rx);obtain⟨_,_,n,_,h1⟩:=(show cA X.prog X.w H s.heap a (.lst xs) from I.hok a _ ea);exact W.kia_one W.kitx_list I.kIn ⟨_,h1,rfl⟩ e (λz=>nomatch z) h
 | @frz a ob xs ea =>
   cases(show u=Value.ref a from rx);obtain⟨_,_,_,n,_,h1⟩:=(show cA X.prog X.w H s.heap a (.frz ob (.lst xs)) from I.hok a _ ea);exact W.kia_one W.kitx_list I.kIn ⟨_,h1,rfl⟩ e (λz=>nomatch z) h
 | @tup a xs ea =>
   cases(show u=Value.ref a from rx);obtain⟨_,_,_,p⟩:=(show cA X.prog X.w H s.heap a (.tup xs) from I.hok a _ ea);obtain⟨o,h1,h2,_⟩:=p.1;exact W.kia_one W.kitx_tuple I.kIn ⟨o,h1,h2⟩ e (λz=>nomatch z) h
 | @dK a kvs ea =>
   cases(show u=Value.ref a from rx);obtain⟨_,_,vs,_,p⟩:=(show cA X.prog X.w H s.heap a (.dK kvs) from I.hok a _ ea);obtain⟨o,es,ep,h1,h2,_⟩:=p;exact W.kia_one W.kitx_dict I.kIn ⟨o,h1,h2.1⟩ e (λz=>nomatch z) h
 | @dT a kvs ea =>
   cases(show u=Value.ref a from rx);obtain⟨_,_,xs,_,o,es,ep,h1,h2,_⟩:=(show cA X.prog X.w H s.heap a (.dT kvs) from I.hok a _ ea);exact W.kia_one W.kitx_dict I.kIn ⟨o,h1,h2.1⟩ e (λz=>nomatch z) h
 | @ins a C dx fs ea cl ha hn htk hm =>
   cases(show u=Value.ref a from rx);obtain⟨mA,O,_⟩:=rT I.hok ea;obtain⟨od,J,_⟩:=O.look;exact W.kia_one (W.kitx_own (cl.get _) cl.hd ha hn htk hm) I.kIn J e (λz=>nomatch z) h
end
structure cJ(k:Nat)(A:Around):Prop where
 hd:40<=k->A.handled=none
 dp:A.depth+3*k+5<recursionLimit
 un:A.units+16*k+200<cLine
 gd:80<=k->A.guards=some []
def cJ.mono{j k:Nat}{A:Around}(r:cJ k A)(h:j<=k):cJ j A:=⟨λz=>r.hd (Nat.le_trans z h),by have:=r.dp;omega,by have:=r.un;omega,λz=>r.gd (Nat.le_trans z h)⟩
def cJ.deeper(r:cJ (k+1) A)(env:Env):cJ k (A.deeper env) :=
 ⟨λz=>r.hd (Nat.le_succ_of_le z),by have:=r.dp;show A.depth+1+3*k+5<_;omega,by have:=r.un;show A.units+3+16*k+200<_;omega,λz=>r.gd (Nat.le_succ_of_le z)⟩
def DY{A:Around}:(A.under (.builtin "type.__call__" ⟨.ref C::us,kw⟩)).depth=A.depth+1:=by
 first|rfl|simp[Around.under,Code.weight,Code.isCreation,Code.isGuard,Code.isCaller,Code.frames,Code.isFrame,guardIds]
def FW{A:Around}:(A.under (.builtin "type.__call__" ⟨.ref C::us,kw⟩)).units=A.units+1:=by
 first|rfl|simp[Around.under,Code.cUnits,Code.frames,Code.isFrame]
def cJ.make{k:Nat}{A:Around}(r:cJ (k+1) A)(C:Addr)(us:List Value)(kw:List (Str×Value)):cJ k (A.under (.builtin "type.__call__" ⟨.ref C::us,kw⟩)) :=
 ⟨λz=>r.hd (Nat.le_succ_of_le z),by have:=r.dp;rw[DY];omega,by have:=r.un;rw[FW];omega,λz=>by
   have e:=r.gd (Nat.le_succ_of_le z);first|exact e|(simp only[Around.under,Code.isGuard,guardIds];simpa using e)⟩
def cJ.depth(r:cJ k A):A.depth<recursionLimit:=by have:=r.dp;omega
def cJ.units(r:cJ k A):A.units+64<cLine:=by have:=r.un;omega
def aEx:TA:=λ_ H Q=>Q [] H
def ZU(ta:TE)(tr:TA):TA:=λY H Q=>ta Y H λx H1=>tr Y H1 λxs H2=>Q (x::xs) H2
section
variable{X:Cx}{e:Expr}{es:List Expr}{te:TE}{t:TA}{pos:Pos}
def jN:PA X [] aEx:=λ_ _ _ _ H Q I h=>Calls.spliced_nil ⟨[],H,I,.nil,h⟩
def dY(ha:PE X e te)(hr:PA X es t)(hs:starEach (e::es) X.env=(false,eval e X.env)::starEach es X.env:=by rfl):PA X (e::es) (ZU te t):=by
 intro pos j0 s Y H Q I h;rw[hs];show wpAny _ _ (spliced ((false,eval e X.env)::backTo pos (starEach es X.env))) _ _ s;refine Calls.spliced_cons (thn (ha j0 s Y H _ I h) λu s1 zz=>?_);obtain⟨x,H1,I1,r1,q1⟩:=zz;exact thn (hr pos j0 s1 Y H1 _ I1 q1)<|by rintro us s2 ⟨xs,H2,I2,r2,q2⟩;exact⟨x::xs,H2,I2,.cons r1 r2,q2⟩
def aGb(t:TA):TE:=λY H Q=>t Y H λxs H1=>xs.length<=sizeLine/\∀p,H1 p=none->Q (.ref p) (upd H1 p (.tup xs))
def aFs(t:TA):TE:=λY H Q=>t Y H λxs H1=>xs.length<=sizeLine/\∀p,H1 p=none->Q (.ref p) (upd H1 p (.lst xs))
def aCA(h:PA X es t):PE X (.Tuple es x1 pos) (aGb t):=by
 intro j0 s Y H Q I hq;refine wpAny_Tuple_spliced (thn (h pos j0 s Y H _ I hq) λus s1 ⟨xs,H1,I1,r,z,q⟩=>⟨by rw[<-r.length];exact z,?_⟩);have hf:H1 s1.heap.objs.size=none:=I1.hok.fresh (Nat.le_refl _);refine⟨.ref s1.heap.objs.size,upd H1 s1.heap.objs.size (.tup xs),I1.laid (t':=s1.toks) (λb u e=>wEq _ e) (Nat.le_refl _) ?_,rfl,q _ hf⟩;exact⟨z,us,r,dB.new _ _⟩
def aAx(h:PA X es t):PE X (.List es pos) (aFs t):=by
 intro j0 s Y H Q I hq;refine wpAny_List_spliced (thn (h pos j0 s Y H _ I hq) λus s1 ⟨xs,H1,I1,r,z,q⟩=>⟨by rw[<-r.length];exact z,?_⟩);have hf:H1 s1.heap.objs.size=none:=I1.hok.fresh (Nat.le_refl _);refine⟨.ref s1.heap.objs.size,upd H1 s1.heap.objs.size (.lst xs),I1.laid (t':=s1.toks) (λb u e=>wEq _ e) (Nat.le_refl _) ?_,rfl,q _ hf⟩;exact⟨z,us,0,r,wGq _ rfl⟩
end
abbrev Sp:=List V->Hp->VK->XK->Prop
abbrev CXT:=List Env->Hp->J5->XK->Value->J5->Prop
structure AG(P:J7)(w:World)(K:W.Frag)(mg:Str->Option Value)(base:Heap)(A:Around)(outer:List Env)(s:J5)(H:Hp):Prop where
 frames:A.frames=some outer
 mod:Mod K mg base
 bs:∀b o,base.get? b=some o->s.heap.get? b=some o/\H b=none
 bsz:base.objs.size<=s.heap.objs.size
 funs:s.heap.FunFrames base outer
 frf:∀b∈frs outer,H b=none
 hok:HOk P w H s.heap
 bare:AllBare s.gens
 hnd:HdP A H
def CE(outer:List Env)(P:J7)(w:World)(H:Hp)(s:J5)(Q:VK)(u:Value)(s':J5):Prop :=
 ∃v H',s'.os=s.os/\AllBare s'.gens/\Un (frs outer) [] H H' s.heap s'.heap/\HOk P w H' s'.heap/\aM v u/\Q v H'
def CR(CX:CXT)(outer:List Env)(P:J7)(w:World)(H:Hp)(s:J5)(Q:VK)(E:XK)(r:Result)(s':J5):Prop :=
 match r with
 | .ok (.ret u)=>CE outer P w H s Q u s'
 | .ok _=>False
 | .error e=>CX outer H s E e s'
structure bM(P:J7)(w:World)(K:W.Frag)(mg:Str->Option Value)(base:Heap)(CX:CXT)(k:Nat)(f:Addr)(fd:J8)(ps:List Str)(sp:Sp):Prop where
 len:∀vs H Q E,sp vs H Q E->vs.length=ps.length
 run:∀(A:Around) (outer:List Env) (s:J5) (H:Hp) (args:Args) (us:List Value) (vs:List V) (Q:VK) (E:XK),cJ k A->AG P w K mg base A outer s H->BindsTo s fd args (ps.zip us)->aI vs us->sp vs H Q E->
   codeAny (model P w) A (.call (.ref f) args) (CR CX outer P w H s Q E) s
def bM.mono{P:J7}{w:World}{K:W.Frag}{mg:Str->Option Value}{base:Heap}{CX:CXT}{j k:Nat}{f:Addr}{fd:J8}{ps:List Str}{sp:Sp}(F:bM P w K mg base CX j f fd ps sp)(h:j<=k) :
   bM P w K mg base CX k f fd ps sp:=⟨F.len,λA outer s H args us vs Q E hr=>F.run A outer s H args us vs Q E (hr.mono h)⟩
def bM.imp{P:J7}{w:World}{K:W.Frag}{mg:Str->Option Value}{base:Heap}{CX:CXT}{k:Nat}{f:Addr}{fd:J8}{ps:List Str}{sp sp':Sp}(F:bM P w K mg base CX k f fd ps sp)
   (h:∀vs H Q E,sp' vs H Q E->sp vs H Q E):bM P w K mg base CX k f fd ps sp' :=
 ⟨λvs H Q E q=>F.len vs H Q E (h _ _ _ _ q),λA outer s H args us vs Q E hr he hb hv hs=>F.run A outer s H args us vs Q E hr he hb hv (h _ _ _ _ hs)⟩
def AG.make{P:J7}{w:World}{K:W.Frag}{mg:Str->Option Value}{base:Heap}{A:Around}{outer:List Env}{s:J5}{H:Hp}(e:AG P w K mg base A outer s H)(C:Addr)(us:List Value)(kw:List (Str×Value)) :
   AG P w K mg base (A.under (.builtin "type.__call__" ⟨.ref C::us,kw⟩)) outer s H:=⟨by first|exact e.frames|(simpa [Around.under,Code.envs,Code.isFrame,pushEnvs] using e.frames),e.mod,e.bs,e.bsz,e.funs,e.frf,e.hok,e.bare,by first|exact e.hnd|(simpa [HdP,Around.under] using e.hnd)⟩
section
variable{X:Cx}{j0:List (Addr×Obj)}{Y:St}{H:Hp}{s s':J5}
def Inv.env0(I:Inv X j0 Y H s):AG X.prog X.w X.K X.mg X.base X.A X.stack s H :=
 ⟨I.ok.frames,I.ok.mod,I.bs,Nat.le_trans I.ok.bsz I.sz,I.stack,I.stkFree,I.hok,I.bare,I.hnd⟩
def Inv.after(I:Inv X j0 Y H s)(h:CE X.stack X.prog X.w H s Q u s'):EP X j0 Y Q u s':=by
 obtain⟨v,H',os,bare,un,hok,r,q⟩:=h;obtain⟨hh,g,d,t,os'⟩:=s';obtain rfl:os'=s.os:=os;exact⟨v,H',I.call (h':=hh) (g':=g) (d':=d) (t':=t) (ch:=[]) un hok bare (λb z=>absurd z (by simp)),r,q⟩
end
def MR(sp:Sp)(dvs:List V)(E:XK)(t:TA):TE:=λY H Q=>t Y H λvs H1=>sp (vs++dvs) H1 Q E
def aDZ(C:Addr)(sp:Sp)(dvs:List V)(E:XK)(t:TA):TE:=λY H Q=>t Y H λvs H1=>∀x dx,H1 x=none->H1 dx=none->dx≠x->
 sp (.ref x::(vs++dvs)) (upd (upd H1 dx (.own x)) x (.ins C dx [])) (λv H2=>v= .non/\Q (.ref x) H2) E
noncomputable def bG(K:W.Frag)(fd:J8)(ps:List Str)(ds:List Value):Prop :=
 ∀(s:J5) (us:List Value),K.In s.heap->(us++ds).length=ps.length->BindsTo s fd ⟨us,[]⟩ (ps.zip (us++ds))
def jU(CX:CXT)(X:Cx)(E:XK):Prop:= ∀(j0:List (Addr×Obj)) (Y:St) (H:Hp) (s:J5) (e:Value) (s':J5),Inv X j0 Y H s->CX X.stack H s E e s'->X.xe e s'
section
variable{X:Cx}{CX:CXT}{k:Nat}{f C:Addr}{fd:J8}{ps:List Str}{sp:Sp}{dvs:List V}{ds:List Value}{E:XK}{x m:Str}{p pos apos:Pos}{e o:Expr}{es:List Expr}{ta:TE}{t:TA}
def aAX{Y:St}{H:Hp}{s:J5}{Q:VK}{vs:List V}(F:bM X.prog X.w X.K X.mg X.base CX k f fd ps sp)(hr:cJ k X.A)(hb:bG X.K fd ps ds)(hd:aI dvs ds)(hx:jU CX X E)
   (I:Inv X j0 Y H s) (r:aI vs us) (h:sp (vs++dvs) H Q E):wpAny (model X.prog X.w) X.A (call (.ref f) us) (EP X j0 Y Q) X.xe s:=by
 have r2:aI (vs++dvs) (us++ds):=r.append hd;have hl:(us++ds).length=ps.length:=by rw[<-r2.length];exact F.len _ _ _ _ h
 refine wpAny_call (codeAny_mono (F.run X.A X.stack s H ⟨us,[]⟩ (us++ds) (vs++dvs) Q E hr I.env0 (hb s us I.kIn hl) r2 h) λr s' hq=>?_);cases r with
 | error e=>exact hx j0 Y H s e s' I hq
 | ok fl =>
   cases fl with
   | ret u=>exact I.after hq
   | next=>exact False.elim hq
   | brk=>exact False.elim hq
   | cont=>exact False.elim hq
def WS(F:bM X.prog X.w X.K X.mg X.base CX k f fd ps sp)(hr:cJ k X.A)(hg:Gl X x)(hm:X.mg x=some (.ref f))(hk:W.keepIn X.K (.ref f)=true)(hb:bG X.K fd ps ds)(hd:aI dvs ds)(hx:jU CX X E)
   (ha:PA X (e::es) t) (hdb:(x==("__debug__":Str))=false:=by decide) (he:starEach (e::es) X.env=(false,eval e X.env)::starEach es X.env:=by rfl) (hpl:(backTo pos (starEach es X.env)).any (·.1)=false:=by rfl) :
   PE X (.Call (.Name x p) (e::es) [] pos) (MR sp dvs E t):=by
 intro j0 s Y H Q I h;refine wpAny_Call_Name_kw (iH I hg hm ?_ hdb);refine W.callWith_K (h₀:=X.base) I.ok.mod.kin hk (thn (ha pos j0 s Y H _ I h) λus s1 ⟨vs,H1,I1,r,q⟩=>⟨I1.kIn,?_⟩) he hpl;exact aAX F hr hb hd hx I1 r q
structure Mk(K:W.Frag)(C f:Addr):Prop where
 makes:W.makesIn K C=true
 init:W.findIn K (.ref C) "__init__"=some (some (.ref f))
 fn:W.isFn K (.ref f)=true
 kp:W.keepIn K (.ref C)=true
def OF{j0:List (Addr×Obj)}{Y:St}{us:List Value}(M:Mk X.K C f)(F:bM X.prog X.w X.K X.mg X.base CX k f fd ps sp)(hr:cJ (k+1) X.A)(hb:bG X.K fd ps ds)(hd:aI dvs ds)
   (hx:jU CX X E) (I:Inv X j0 Y H s) (r:aI vs us)
   (h:∀x dx,H x=none->H dx=none->dx≠x->sp (.ref x::(vs++dvs)) (upd (upd H dx (.own x)) x (.ins C dx [])) (λv H2=>v= .non/\Q (.ref x) H2) E) :
   wpAny (model X.prog X.w) X.A (call (.ref C) us) (EP X j0 Y Q) X.xe s:=by
 have hq:=h (s.heap.objs.size+1) s.heap.objs.size (I.hok.fresh (Nat.le_succ _)) (I.hok.fresh (Nat.le_refl _)) (Nat.ne_of_lt (Nat.lt_succ_self _));have I2:=Inv.made (C:=C) I;have r2:aI (V.ref (s.heap.objs.size+1)::(vs++dvs)) (Value.ref (s.heap.objs.size+1)::(us++ds)):=.cons rfl (r.append hd);have hl:(Value.ref (s.heap.objs.size+1)::us++ds).length=ps.length:=by
   have e:=r2.length;rw[F.len _ _ _ _ hq] at e;exact e.symm
 refine wpAny_call (uF (f:=f) I.kIn M.makes M.init (beq_iff_eq.mp M.fn) (codeAny_mono (F.run _ X.stack _ _ ⟨Value.ref (s.heap.objs.size+1)::us,[]⟩ (Value.ref (s.heap.objs.size+1)::(us++ds)) _ _ E (hr.make C us [])
   (I2.env0.make C us []) (hb _ (Value.ref (s.heap.objs.size+1)::us) I2.kIn hl) r2 hq) λr s' hq'=>?_))
 cases r with
 | error e=>exact hx j0 Y _ _ e s' I2 hq'
 | ok fl =>
   cases fl with
   | ret u =>
     obtain⟨v,H',I3,rv,ev,q3⟩:=I2.after hq';subst ev;exact⟨rv,⟨V.ref (s.heap.objs.size+1),H',I3,rfl,q3⟩⟩
   | next=>exact False.elim hq'
   | brk=>exact False.elim hq'
   | cont=>exact False.elim hq'
def XA(M:Mk X.K C f)(F:bM X.prog X.w X.K X.mg X.base CX k f fd ps sp)(hr:cJ (k+1) X.A)(hg:Gl X x)(hm:X.mg x=some (.ref C))(hb:bG X.K fd ps ds)(hd:aI dvs ds)(hx:jU CX X E)
   (ha:PA X (e::es) t) (hdb:(x==("__debug__":Str))=false:=by decide) (he:starEach (e::es) X.env=(false,eval e X.env)::starEach es X.env:=by rfl) (hpl:(backTo pos (starEach es X.env)).any (·.1)=false:=by rfl) :
   PE X (.Call (.Name x p) (e::es) [] pos) (aDZ C sp dvs E t):=by
 intro j0 s Y H Q I h;refine wpAny_Call_Name_kw (iH I hg hm ?_ hdb);refine W.callWith_K (h₀:=X.base) I.ok.mod.kin M.kp (thn (ha pos j0 s Y H _ I h) λus s1 ⟨vs,H1,I1,r,q⟩=>⟨I1.kIn,?_⟩) he hpl;exact OF M F hr hb hd hx I1 r q
end
def PK(X:Cx)(kws:List Keyword)(t:TA):Prop :=
 ∀(pos:Pos) (j0:List (Addr×Obj)) (s:J5) (Y:St) (H:Hp) (Q:List V->Hp->Prop),Inv X j0 Y H s->t Y H Q->wpAny (model X.prog X.w) X.A (evalAll ((backToKw pos (keywordEach kws X.env)).map (·.2))) (AP X j0 Y Q) X.xe s
section
variable{X:Cx}{CX:CXT}{k:Nat}{f C:Addr}{fd:J8}{ps ks:List Str}{sp:Sp}{E:XK}{x m:Str}{p pos apos kpos:Pos}{e o:Expr}{es:List Expr}{kws:List Keyword}{te ta:TE}{t tk:TA}{nm:Option Str}
def aAO:PK X [] aEx:=λ_ _ _ _ H Q I h=>wpAny_evalAll_nil ⟨[],H,I,.nil,h⟩
def YV(ha:PE X e te)(hr:PK X kws t):PK X (⟨nm,e,kpos⟩::kws) (ZU te t):=by
 intro pos j0 s Y H Q I h;show wpAny _ _ (evalAll ((do let v <-eval e X.env;standAt pos;pure v)::(backToKw pos (keywordEach kws X.env)).map (·.2))) _ _ s;refine wpAny_evalAll_cons (wAq (thn (ha j0 s Y H _ I h) λu s1 ⟨x,H1,I1,r1,q1⟩=>wAq (wpAny_standAt (wBq ?_))));exact thn (hr pos j0 s1 Y H1 _ I1 q1)<|by rintro us s2 ⟨xs,H2,I2,r2,q2⟩;exact⟨x::xs,H2,I2,.cons r1 r2,q2⟩
variable{g:List Value->List Value->List Value}{gV:List V->List V->List V}
end
structure yR(N P:List Str)(sc:Scope):Prop where
 kind:sc.kind= .function
 co:sc.isCoroutine=false
 gen:sc.isGenerator=false
 nd:N.Nodup
 pre:N.take P.length=P
 par:∀x∈P,sc.names.lookup x=some .local∨sc.names.lookup x=some .cell
 nofree:∀y∈sc.names,y.2≠.free
theorem wK{kindOf:Str->Option NameKind}:∀{binds:List (Str×Value)} {m:Str->Option Value},(∀v,(x,v)∉binds)->bindL kindOf binds m x=m x
 | [],_,_=>rfl
 | (n,v)::r,m,h=>by
   unfold bindL;rw[wK λw hw=>h w (wCq _ hw)];split
   . have:x≠n:=by rintro rfl;exact h v wDq
     simp[this]
   . rfl
theorem wX{kindOf:Str->Option NameKind}:∀{binds:List (Str×Value)} {m:Str->Option Value},(∀v,(x,v)∉binds)->bindC kindOf binds m x=m x
 | [],_,_=>rfl
 | (n,v)::r,m,h=>by
   unfold bindC;rw[wX λw hw=>h w (wCq _ hw)];split
   . rfl
   . have:x≠n:=by rintro rfl;exact h v wDq
     simp[this]
theorem xD{kindOf:Str->Option NameKind}:∀{P:List Str} {vs:List Value} {i:Nat} {m:Str->Option Value},P.Nodup->P[i]? =some x->vs[i]? =some v->kindOf x=some .local->
   bindL kindOf (P.zip vs) m x=some v
 | [],_,_,_,_,h,_,_=>by simp at h
 | _::_,[],_,_,_,_,h,_=>by simp at h
 | p::P,w::vs,0,m,nd,h1,h2,hk=>by
   simp at h1 h2;subst h1;subst h2
   show bindL kindOf ((p,w)::P.zip vs) m p=_;unfold bindL;rw[wK λv hv=>(List.nodup_cons.mp nd).1 (List.of_mem_zip hv).1,ja hk];simp
 | p::P,w::vs,i+1,m,nd,h1,h2,hk=>by
   show bindL kindOf ((p,w)::P.zip vs) m x=_;unfold bindL;exact xD (i:=i) (List.nodup_cons.mp nd).2 (by simpa using h1) (by simpa using h2) hk
theorem wL{kindOf:Str->Option NameKind}:∀{P:List Str} {vs:List Value} {i:Nat} {m:Str->Option Value},P.Nodup->P[i]? =some x->vs[i]? =some v->kindOf x≠some .local->
   bindC kindOf (P.zip vs) m x=some v
 | [],_,_,_,_,h,_,_=>by simp at h
 | _::_,[],_,_,_,_,h,_=>by simp at h
 | p::P,w::vs,0,m,nd,h1,h2,hk=>by
   simp at h1 h2;subst h1;subst h2
   show bindC kindOf ((p,w)::P.zip vs) m p=_;unfold bindC;rw[wX λv hv=>(List.nodup_cons.mp nd).1 (List.of_mem_zip hv).1,j9 hk];simp
 | p::P,w::vs,i+1,m,nd,h1,h2,hk=>by
   show bindC kindOf ((p,w)::P.zip vs) m x=_;unfold bindC;exact wL (i:=i) (List.nodup_cons.mp nd).2 (by simpa using h1) (by simpa using h2) hk
noncomputable def start(N:List Str)(vs:List V):St:=vs.map some++List.replicate (N.length-vs.length) none
noncomputable def LA(CX:CXT)(P:J7)(w:World)(K:W.Frag)(mg:Str->Option Value)(base:Heap)(N:List Str)(qual:Str)(scope:Scope)(f:Addr)(cd:Value)(A:Around)(outer:List Env)(s:J5)(H:Hp)(E:XK):Cx where
 prog:=P
 w:=w
 K:=K
 mg:=mg
 base:=base
 A:=A.deeper (envOfC qual scope s.heap.objs.size f cd)
 N:=N
 s₀:=s
 H₀:=H
 env:=envOfC qual scope s.heap.objs.size f cd
 outer:=outer
 stack:=envOfC qual scope s.heap.objs.size f cd::outer
 ex:=[]
 calm:=A.handled.isNone
 fn:=λ_=>true
 pn:=[]
 xe:=λe s'=>wpAny (model P w) (A.deeper (envOfC qual scope s.heap.objs.size f cd)) (leaving (envOfC qual scope s.heap.objs.size f cd) e) (λ_ s''=>CX outer H s E e s'') (λe' s''=>CX outer H s E e' s'') s'
def uQ{sc:Scope}(h:sc.names.lookup x=some .cell):∃c,(cellsFrom n sc.names []).lookup x=some c:=by
 have q:=W.cellsFrom_some sc.names n [] (.inl h);exact Option.isSome_iff_exists.mp q
def KI{CX:CXT}{P:J7}{w:World}{K:W.Frag}{mg:Str->Option Value}{base:Heap}{N ps:List Str}{qual:Str}{scope:Scope}{f:Addr}{cd:Value}{A:Around}{outer:List Env}{s s1:J5}{H:Hp}{E:XK}{us:List Value}{vs:List V}
   (S:yR N ps scope) (e0:AG P w K mg base A outer s H) (hl:vs.length=ps.length) (r:aI vs us)
   (x:InCallC s s.heap.objs.size (bindL (envOfC qual scope s.heap.objs.size f cd).kindOf (ps.zip us) λ_=>none) (cellsFrom (s.heap.objs.size+1) scope.names []) (bindC (envOfC qual scope s.heap.objs.size f cd).kindOf (ps.zip us) λ_=>none) s1) :
   Inv (LA CX P w K mg base N qual scope f cd A outer s H E) [] (start N vs) H s1:=by
 have hpl:ps.length<=N.length:=by have:=congrArg List.length S.pre;rw[List.length_take] at this;omega
 obtain⟨h1,tk,rfl,hk⟩:=x.done;have noA:∀b:Addr,b∉(LA CX P w K mg base N qual scope f cd A outer s H E).ex:=λb z=>absurd (show b∈([]:List Addr) from z) (by simp);refine⟨⟨e0.mod,S.kind,rfl,rfl,Nat.le_refl _,λy z c h1 h2=>?_,λy hy=>?_,λy c _ h=>?_,λz=>Option.isNone_iff_eq_none.mp z,Around.frames_deeper e0.frames,.inr ⟨rfl,rfl⟩,λb z=>absurd z (noA b),e0.bs,e0.bsz,λb _ _=>noA b,λb z=>absurd z (noA b),e0.funs,e0.frf⟩,
   rfl,e0.bare,Un.kept hk,⟨_,x.toInCall.ns,λi y v h1 h2 h3=>?_⟩,λy c h=>⟨_,x.cell y c h⟩,e0.hok.fresh (Nat.le_refl _),λy c h=>?_,λp hp=>absurd (show p∈([]:List (Addr×Obj)) from hp) (by simp),e0.hok.kept hk,?_,e0.hnd⟩
 . exact name_of_addr x.apart (PySem.mem_of_lookup h1) (PySem.mem_of_lookup h2)
 . have hy:scope.names.lookup y=some .cell∨scope.names.lookup y=some .free:=hy;rcases hy with hy|hy
   . exact uQ hy
   . exact absurd rfl (S.nofree _ (PySem.mem_of_lookup hy))
 . exact Nat.le_of_lt (x.above y c (PySem.mem_of_lookup h))
 . have hi:i<vs.length:=by
     unfold start at h2;by_cases hi:i<vs.length
     . exact hi
     . rw[List.getElem?_append_right (by simpa using hi)] at h2;rw[List.getElem?_replicate] at h2;split at h2<;>cases h2
   have ha:vs[i]? =some v:=by
     unfold start at h2;rw[List.getElem?_append_left (by simpa using hi),List.getElem?_map] at h2;cases e:vs[i]? with
     | none=>rw[e] at h2;cases h2
     | some a=>rw[e] at h2;cases h2;rfl
   obtain⟨u,hu,rv⟩:=r.get ha;have hp:ps[i]? =some y:=by
     rw[<-S.pre,List.getElem?_take_of_lt ooq];exact h1
   have ndP:ps.Nodup:=by rw[<-S.pre];exact S.nd.sublist (List.take_sublist _ _)
   refine⟨u,rv,?_⟩;rcases S.par y (List.mem_of_getElem? hp) with k|k
   . exact .inl ⟨k,xD ndP hp hu k⟩
   . obtain⟨c,e⟩:=uQ (n:=s.heap.objs.size+1) k;refine .inr ⟨.inl k,c,e,?_⟩;have q:=x.cell y c e;rw[wL ndP hp hu (by show scope.names.lookup y≠_;rw[k];decide)] at q;exact q
 . exact e0.hok.fresh (Nat.le_of_lt (x.above y c (PySem.mem_of_lookup h)))
 . unfold start;show _=N.length;rw[List.length_append,List.length_map,List.length_replicate];omega
def aD5{CX:CXT}{P:J7}{w:World}{K:W.Frag}{mg:Str->Option Value}{base:Heap}{k:Nat}{f:Addr}{name qual:Str}{params:Arguments}{body:List Stmt}{scope:Scope}{dV kV doc pm cdv ct oc:Value}{an od:Option Addr}
   {osl:Array (Option Value)} {N ps:List Str} {sp:Sp} (lk:K.lookup f=some ⟨oc,od,.func (W.fnOf name qual params body scope dV kV doc pm an cdv ct),osl⟩) (hcd:W.codeIn K cdv qual=true) (S:yR N ps scope)
   (len:∀vs H Q E,sp vs H Q E->vs.length=ps.length)
   (hbody:∀(A:Around) (outer:List Env) (s:J5) (H:Hp) (vs:List V) (Q:VK) (E:XK),cJ k (A.deeper (envOfC qual scope s.heap.objs.size f cdv))->sp vs H Q E->
     ∃t,PSs (LA CX P w K mg base N qual scope f cdv A outer s H E) body t/\t {nx:=λ_ H'=>Q .non H',rt:=Q} (start N vs) H) :
   bM P w K mg base CX (k+1) f (W.fnOf name qual params body scope dV kV doc pm an cdv ct) ps sp:=by
 refine⟨len,λA outer s H args us vs Q E hr e0 hb r hsp=>?_⟩;have hl:=len _ _ _ _ hsp;have KX:K.In s.heap:=e0.mod.kin.keeps λb o e=>(e0.bs b o e).1;have lim:s.heap.NoLimit:=e0.mod.nolimit.keeps λb o e=>(e0.bs b o e).1;have hkind:∀y∈ps.zip us,scope.names.lookup y.1=some .local∨(scope.names.lookup y.1=some .cell/\((cellsFrom (s.heap.objs.size+1) scope.names []).lookup y.1).isSome=true):=by
   rintro⟨n,v⟩ hy;rcases S.par n (List.of_mem_zip hy).1 with q|q
   . exact .inl q
   . exact .inr ⟨q,W.cellsFrom_some _ _ _ (.inl q)⟩
 refine codeAny_call_function hr.depth (KX _ _ lk) rfl S.co S.gen rfl (W.codeRec_of KX hcd) (hb _ _ _ _ ?_);refine wpAny_newFunctionEnv_cells S.kind hkind λenv he s1 x=>?_;subst he;refine⟨lim.keeps x.toInCall.keep,codeAny_func ?_⟩;obtain⟨t,ht,hq⟩:=hbody A outer s H vs Q E (hr.deeper _) hsp;have I:Inv (LA CX P w K mg base N qual scope f cdv A outer s H E) [] (start N vs) H s1:=KI S e0 hl r x;refine wpAny_mono (ht [] s1 (start N vs) H _ I hq) (λfl s' hs=>?_) λe s' hs=>hs;have fin:∀{Y':St} {H':Hp} {v:V} {u:Value},Inv (LA CX P w K mg base N qual scope f cdv A outer s H E) [] Y' H' s'->aM v u->Q v H'->CE outer P w H s Q u s' :=
   λ{Y' H' v u} J rv q=>⟨v,H',J.os,J.bare,J.base,J.hok,rv,q⟩
 cases fl with
 | ret u =>
   obtain⟨v,Y',H',J,rv,q⟩:=hs;exact fin J rv q
 | next =>
   obtain⟨Y',H',J,q⟩:=hs;exact fin (v:=V.non) (u:=Value.none) J rfl q
 | brk =>
   obtain⟨_,_,_,q⟩:=hs;exact False.elim q
 | cont =>
   obtain⟨_,_,_,q⟩:=hs;exact False.elim q
section
variable{X:Cx}{x:Str}{p pos:Pos}{e:Expr}{es:List Expr}{t:TA}{id T:J6}{r:List V->Hp->VK->Prop}
def tCB(r:List V->Hp->VK->Prop)(t:TA):TE:=λY H Q=>t Y H λvs H1=>r vs H1 Q
def SX(hc:aU X (.builtin id) r)(hg:Gl X x)(hm:X.mg x=none)(hv:bootBuiltins x=some (.builtin id))(ha:PA X (e::es) t)(hn:x≠"__name__":=by decide)(hdb:(x==("__debug__":Str))=false:=by decide)
   (he:starEach (e::es) X.env=(false,eval e X.env)::starEach es X.env:=by rfl) (hpl:(backTo pos (starEach es X.env)).any (·.1)=false:=by rfl):PE X (.Call (.Name x p) (e::es) [] pos) (tCB r t):=by
 intro j0 s Y H Q I h;refine wpAny_Call_Name_kw (jA I hg hm hv ?_ hn hdb);exact PyProof.Rows.callWith_builtin1 (thn (ha pos j0 s Y H _ I h)<|by rintro us s1 ⟨vs,H1,I1,r1,q1⟩;exact hc j0 s1 Y H1 vs us Q I1 r1 q1) he hpl
def KW(hc:aU X (.type T) r)(hg:Gl X x)(hm:X.mg x=none)(hv:bootBuiltins x=some (.type T))(ha:PA X (e::es) t)(hn:x≠"__name__":=by decide)(hdb:(x==("__debug__":Str))=false:=by decide)
   (he:starEach (e::es) X.env=(false,eval e X.env)::starEach es X.env:=by rfl) (hpl:(backTo pos (starEach es X.env)).any (·.1)=false:=by rfl):PE X (.Call (.Name x p) (e::es) [] pos) (tCB r t):=by
 intro j0 s Y H Q I h;refine wpAny_Call_Name_kw (jA I hg hm hv ?_ hn hdb);exact PyProof.Rows.callWith_type1 (thn (ha pos j0 s Y H _ I h)<|by rintro us s1 ⟨vs,H1,I1,r1,q1⟩;exact hc j0 s1 Y H1 vs us Q I1 r1 q1) he hpl
end
end L2
namespace HT
open PySem PyProof.Rows
noncomputable def xE:List Int->List Int->Bool
 | [],[]=>false
 | [],_::_=>true
 | _::_,[]=>false
 | x::xs,y::ys=>if x=y then xE xs ys else decide (x<y)
theorem aBu(x y:Int)(xs ys:List Int):xE (x::xs) (y::ys)=if x=y then xE xs ys else decide (x<y):=rfl
theorem UF:xE [] []=false:=rfl
theorem NA(y:Int)(ys:List Int):xE [] (y::ys)=true:=rfl
theorem QB(x:Int)(xs:List Int):xE (x::xs) []=false:=rfl
section
open PySem.SeqAt
open PySem.AutoSeq1 (wpAny_loadPart')
open PySem.MeetsSeq PySem.MeetsSeq2 PySem.MeetsSeq3
end
section
variable{prog:J7}{w:World}{A:Around}{E:Value->J5->Prop}{s:J5}
def ZD(ht:IsTup s.heap t vs.toArray)(hb:IsTup s.heap b ws.toArray)(hv:vs≠[])
   (h1:ws=[]->Q (.ref t) s) (h2:ws≠[]->Q (.ref s.heap.objs.size) {s with heap:=s.heap.push {cls:=.type "tuple",data:=.seq (vs++ws).toArray}})
   (hsz:vs.length+ws.length<=sizeLine):wpAny (model prog w) A (binaryOp .Add (.ref t) (.ref b)) Q E s:=by
 obtain⟨⟨cls,dd,data,sl⟩,ho,hc,n,hd⟩:=id ht;obtain⟨⟨cls2,dd2,data2,sl2⟩,ho2,hc2,n2,hd2⟩:=id hb;simp only at hc hd hc2 hd2;subst hc hd hc2 hd2;have e:vs.toArray++ws.toArray=(vs++ws).toArray:=by simp
 by_cases hw:ws=[]
 . exact concat_meets ⟨_,ho,rfl⟩ ⟨_,ho2,rfl⟩ noFill_tuple_add seq_tuple_add PySem.F.slot_tuple_add PySem.F.entry_tuple_add (PySem.F.args_tuple_add_2 _ _)
     (tuple_addW1 t b vs.toArray ws.toArray n n2 dd dd2 sl sl2 (by simpa using hv) (by simp[hw])) ⟨ho,ho2,h1 hw⟩
 . refine concat_meets ⟨_,ho,rfl⟩ ⟨_,ho2,rfl⟩ noFill_tuple_add seq_tuple_add PySem.F.slot_tuple_add PySem.F.entry_tuple_add (PySem.F.args_tuple_add_2 _ _)
     (tuple_addW2 t b vs.toArray ws.toArray n n2 dd dd2 sl sl2 (by simpa using hv) (by simpa using hw) (by rw[wIq,wIq];exact hsz)) ⟨ho,ho2,?_⟩
   rw[e];exact h2 hw
noncomputable def sIx(n d:Nat):Option Int->Nat
 | none=>d
 | some v=>if v<0 then(v+(n:Int)).toNat else min v.toNat n
theorem CJ(n d:Nat):sIx n d none=d:=rfl
def GY(n d k:Nat):sIx n d (some (k:Int))=min k n:=by
 show(if (k:Int)<0 then((k:Int)+(n:Int)).toNat else min (k:Int).toNat n)=min k n;rw[j9 ooq,Int.toNat_natCast]
def aCC(n d:Nat)(hd:d<=n)(o:Option Int):sIx n d o<=n:=by
 cases o with
 | none=>exact hd
 | some v =>
   show(if v<0 then(v+(n:Int)).toNat else min v.toNat n)<=n;by_cases hv:v<0
   . rw[ja hv];omega
   . rw[j9 hv];exact Nat.min_le_right _ _
def HV(v:Int)(n d:Nat):(if v<0 then max (v+(n:Int)) 0 else min v (n:Int))=((sIx n d (some v):Nat):Int):=by
 show(if v<0 then max (v+(n:Int)) 0 else min v (n:Int))=(((if v<0 then(v+(n:Int)).toNat else min v.toNat n):Nat):Int);by_cases hv:v<0
 . simp only[ja hv];omega
 . simp only[j9 hv];omega
def EM(lo hi:Option Int)(n:Nat):Builtin.Slice.sliceAdjust lo hi 1 (n:Int)=(((sIx n 0 lo:Nat):Int),((sIx n n hi:Nat):Int)):=by
 have h1:¬((1:Int)<0):=by omega
 unfold Builtin.Slice.sliceAdjust;simp only[h1,if_false];refine Prod.ext ?_ ?_
 . cases lo with
   | none=>rfl
   | some v=>exact HV v n 0
 . cases hi with
   | none=>rfl
   | some v=>exact HV v n n
def FR(i j:Nat):Builtin.Slice.slicePlaces (i:Int) (j:Int) 1=j-i:=by
 unfold Builtin.Slice.slicePlaces;have h1:(1:Int)>0:=by omega
 simp only[h1,if_true,Int.ediv_one];split<;>omega
def lX(p:IsPart v o)(h:Q o s):wpAny (model prog w) A (Builtin.Slice.slicePartIndex v) Q E s:=by
 cases p with
 | none=>exact slicePart_none h
 | int i t=>exact slicePart_int h
def gY{lo hi:Option Int}{n:Nat}{Q:Int×Int×Nat->J5->Prop}(hs:s.heap.IsSliceOf sl vl vu .none)(pl:IsPart vl lo)(pu:IsPart vu hi)
   (h:Q (((sIx n 0 lo:Nat):Int),1,sIx n n hi-sIx n 0 lo) s):wpAny (model prog w) A (Builtin.Slice.sliceApplied (.ref sl) (pure (n:Int))) Q E s:=by
 obtain⟨os,hos,hcs,hds⟩:=id hs;unfold Builtin.Slice.sliceApplied Builtin.Slice.sliceFields;refine wAq (wAq (wpAny_field hos hds (x:=vl) rfl (wAq (wpAny_field hos hds (x:=vu) rfl (wAq (wpAny_field hos hds (x:=.none) rfl (wBq ?_)))))));refine wAq (slicePart_none ?_);show wpAny _ _ (if ((1:Int)==0)=true then _ else _) _ _ s;rw[j9 ddq];refine wAq (lX pl (wAq (lX pu (wAq (wBq ?_)))));show wpAny _ _ (match Builtin.Slice.sliceAdjust lo hi 1 (n:Int) with|(lo,hi)=>pure (lo,(1:Int),Builtin.Slice.slicePlaces lo hi 1)) _ _ s;rw[EM lo hi n];show wpAny _ _ (pure (((sIx n 0 lo:Nat):Int),(1:Int),Builtin.Slice.slicePlaces ((sIx n 0 lo:Nat):Int) ((sIx n n hi:Nat):Int) 1)) _ _ s;rw[FR];exact wBq h
def MV(xs:Array Value)(i k:Nat):((List.range k).filterMap λ(m:Nat)=>xs[((i:Int)+(m:Int)*1).toNat]?).toArray=((xs.toList.drop i).take k).toArray:=by
 have e:(λ(m:Nat)=>xs[((i:Int)+(m:Int)*1).toNat]?)=λm=>xs[i+m]? :=by
   funext m
   have:((i:Int)+(m:Int)*1).toNat=i+m:=by omega
   rw[this]
 rw[e];have:=pick_run xs i k;rw[List.filterMap_map] at this;have e2:((λx=>xs[x]?)∘λx=>i+x)=λm=>xs[i+m]? :=rfl;rw[e2] at this;rw[this]
def nP{t sl:Addr}{items:Array Value}{vl vu:Value}{lo hi:Option Int}{Q:Value->J5->Prop}(ht:IsTup s.heap t items)(hs:s.heap.IsSliceOf sl vl vu .none)(pl:IsPart vl lo)(pu:IsPart vu hi)
   (hw:¬(sIx items.size 0 lo=0/\sIx items.size items.size hi=items.size))
   (h:Q (.ref s.heap.objs.size) {s with heap:=s.heap.push {cls:=.type "tuple",data:=.seq ((items.toList.drop (sIx items.size 0 lo)).take (sIx items.size items.size hi-sIx items.size 0 lo)).toArray}})
   (hsz:items.size<=sizeLine):wpAny (model prog w) A (getItem (.ref t) (.ref sl)) Q E s:=by
 have htake:sizeOk (.seq ((items.toList.drop (sIx items.size 0 lo)).take (sIx items.size items.size hi-sIx items.size 0 lo)).toArray):=by
   show((items.toList.drop (sIx items.size 0 lo)).take (sIx items.size items.size hi-sIx items.size 0 lo)).toArray.size<=sizeLine;rw[wIq,List.length_take,List.length_drop,Array.length_toList];omega
 have hj:sIx items.size items.size hi<=items.size:=aCC _ _ (Nat.le_refl _) hi;obtain⟨os,hos,hcs,hds⟩:=id hs;have hTs:s.TypeIs (.ref sl) "slice":=⟨os,hos,hcs⟩;unfold getItem
 try with_reducible refine wpAny_holding ?_
 first|refine wAq (wBq ?_)|skip
 refine wAq (wpAny_sequenceKey ht.typeIs ddq ?_);refine wAq (wpAny_callSpecial?_slot (name:=Str.ofString "__getitem__") ht.typeIs PyProof.Rows.slot_tuple_getitem
   (wpAny_call_entry PyProof.Rows.slot_tuple_getitem ht.typeIs entry_tuple_getitem ?_ (args_tuple_getitem _ _)))
 show wpAny _ _ (Builtin.Tuple.tupleItemsOf (.ref t)>>=_) _ _ s;refine wAq (tupleItemsOf_ ht ?_);refine wAq (wpAny_typeOf hTs ?_);rw[ja ddq];refine wAq (gY hs pl pu ?_);have hno:¬((((sIx items.size 0 lo:Nat):Int)==0&&(1:Int)==1&&(sIx items.size items.size hi-sIx items.size 0 lo)==items.size)=true):=by
   intro q;rw[Bool.and_eq_true,Bool.and_eq_true] at q;have q1:((sIx items.size 0 lo:Nat):Int)=0:=eq_of_beq q.1.1;have q2:sIx items.size items.size hi-sIx items.size 0 lo=items.size:=eq_of_beq q.2;exact hw ⟨by omega,by omega⟩
 show wpAny _ _ (if (((sIx items.size 0 lo:Nat):Int)==0&&(1:Int)==1&&(sIx items.size items.size hi-sIx items.size 0 lo)==items.size)=true then _ else _) _ _ s;rw[j9 hno,MV];first
   | exact wAq (m:=Builtin.Tuple.tupleExact _) (wpAny_newObj_type (wBq ⟨_,rfl,wBq h⟩) htake)
   | exact wAq (m:=Builtin.Tuple.tupleExact _) (wpAny_newObj_type (wAq (wBq (wBq ⟨_,rfl,wBq h⟩))) htake)
   | exact wAq (wAq (m:=Builtin.Tuple.tupleExact _) (wpAny_newObj_type (wBq (wBq ⟨_,rfl,wBq h⟩)) htake))
   | exact wAq (wAq (m:=Builtin.Tuple.tupleExact _) (wpAny_newObj_type (wBq ⟨_,rfl,wBq h⟩) htake))
end
end HT
namespace L2
open PySem PySem.Spec PyProof.Rows
abbrev TO:=St->Hp->(Option Int->Hp->Prop)->Prop
def PO(X:Cx)(e:Option Expr)(t:TO):Prop :=
 ∀(j0:List (Addr×Obj)) (s:J5) (Y:St) (H:Hp) (Q:Option Int->Hp->Prop),Inv X j0 Y H s->t Y H Q->
   wpAny (model X.prog X.w) X.A (evalPart e X.env) (λu s'=>∃o H',Inv X j0 Y H' s'/\IsPart u o/\Q o H') X.xe s
noncomputable def WD:TO:=λ_ H Q=>Q none H
noncomputable def aDX(t:TE):TO:=λY H Q=>t Y H λx H1=>∃i,x= .int i/\Q (some i) H1
def iF:∀{us:List Value},aI (ns.map V.int) us->IntsAre us ns:=by
 induction ns with
 | nil=>intro us r;rw[List.map_nil] at r;cases r;exact .nil
 | cons n ns ih =>
   intro us r;rw[List.map_cons] at r;cases r with
   | cons r1 r2 =>
     obtain⟨t,e⟩:=r1;subst e;exact .cons n t (ih r2)
section
variable{X:Cx}{e:Expr}{te:TE}{lo hi:Option Expr}{tl th:TO}{pos p2:Pos}
def WW:PO X none WD:=by
 intro j0 s Y H Q I h;rw[evalPart_none];exact wBq ⟨none,H,I,.none,h⟩
def GZ(h:PE X e te):PO X (some e) (aDX te):=by
 intro j0 s Y H Q I hw;rw[evalPart_some];refine thn (h j0 s Y H _ I hw) λu s1 zz=>?_;obtain⟨x,H1,I1,r1,q1⟩:=zz;obtain⟨i,rfl,q⟩:=q1;obtain⟨t,rfl⟩:=r1;exact⟨some i,H1,I1,.int i t,q⟩
def SlR(X:Cx)(r:V->Option Int->Option Int->Hp->VK->Prop):Prop :=
 ∀(j0:List (Addr×Obj)) (s:J5) (Y:St) (H:Hp) (x:V) (v vl vu:Value) (lo hi:Option Int) (sl:Addr) (Q:VK),Inv X j0 Y H s->aM x v->s.heap.IsSliceOf sl vl vu .none->IsPart vl lo->IsPart vu hi->r x lo hi H Q->
   ∃T id,typeLookup (.type T) "__getitem__"=pure (some (.builtin id))/\s.TypeIs v T/\wpAny (model X.prog X.w) X.A (getItem v (.ref sl)) (EP X j0 Y Q) X.xe s
def SlR.or(h:SlR X r)(h':SlR X r'):SlR X (λx lo hi H Q=>r x lo hi H Q∨r' x lo hi H Q):=by
 intro j0 s Y H x v vl vu lo hi sl Q I rx hs pl pu q;rcases q with q|q
 . exact h j0 s Y H x v vl vu lo hi sl Q I rx hs pl pu q
 . exact h' j0 s Y H x v vl vu lo hi sl Q I rx hs pl pu q
def tSl(r:V->Option Int->Option Int->Hp->VK->Prop)(te:TE)(tl th:TO):TE:=λY H Q=>te Y H λx H1=>tl Y H1 λl H2=>th Y H2 λu H3=>r x l u H3 Q
def QW(hr:SlR X r)(he:PE X e te)(hl:PO X lo tl)(hu:PO X hi th):PE X (.Subscript e (.Slice lo hi none p2) pos) (tSl r te tl th):=by
 intro j0 s Y H Q I h;refine Subscript_ (thn (he j0 s Y H _ I h) λv s1 zz=>?_);obtain⟨x,H1,I1,r1,q1⟩:=zz;refine wpAny_Slice (thn (hl j0 s1 Y H1 _ I1 q1) λvl s2 ⟨l,H2,I2,pl,q2⟩=>thn (hu j0 s2 Y H2 _ I2 q2) λvu s3 zz=>?_);obtain⟨u,H3,I3,pu,q3⟩:=zz;rw[evalPart_none];refine wBq ?_;have I4:Inv X j0 Y H3 {s3 with heap:=s3.heap.push {cls:=.type "slice",data:=.fields #[vl,vu,.none]}}:=I3.kept (t':=s3.toks) λb ob q=>wEq _ q;obtain⟨T,id,hT,ht,hg⟩:=hr j0 {s3 with heap:=s3.heap.push {cls:=.type "slice",data:=.fields #[vl,vu,.none]}} Y H3 x v vl vu l u s3.heap.objs.size Q I4 r1 (Heap.IsSliceOf.new ..) pl pu q3;show wpAny (model X.prog X.w) X.A (subscriptTail e (.Slice lo hi none p2) v (.ref s3.heap.objs.size)) (EP X j0 Y Q) X.xe {s3 with heap:=s3.heap.push {cls:=.type "slice",data:=.fields #[vl,vu,.none]}};exact tail_any (ops:=[.ref s3.heap.objs.size,v]) ht hT hg (by with_unfolding_all rfl)
def AL(xs:List V)(lo hi:Option Int):List V:=(xs.drop (HT.sIx xs.length 0 lo)).take (HT.sIx xs.length xs.length hi-HT.sIx xs.length 0 lo)
def pO(xs:List V)(lo hi:Option Int):(AL xs lo hi).length<=xs.length:=by
 unfold AL;rw[List.length_take,List.length_drop];omega
def aFS(K:W.Frag):V->Option Int->Option Int->Hp->VK->Prop:=λx lo hi H Q=>∃a xs,x= .ref a/\SqT K H a xs/\
 ¬(HT.sIx xs.length 0 lo=0/\HT.sIx xs.length xs.length hi=xs.length)/\∀p,H p=none->Q (.ref p) (upd H p (.tup (AL xs lo hi)))
def aAt:SlR X (aFS X.K):=by
 intro j0 s Y H x v vl vu lo hi sl Q I rx hs pl pu h;obtain⟨a,xs,rfl,hx,hw,q⟩:=h;cases rx;obtain⟨its,r,ht,hz⟩:=I.tuple hx;have hlen:its.toArray.size=xs.length:=by rw[wIq];exact r.length.symm
 refine⟨"tuple",_,PyProof.Rows.slot_tuple_getitem.lookup,ht.typeIs,?_⟩;refine HT.nP ht hs pl pu (by rw[hlen];exact hw) ?_ (by rw[hlen];exact hz);rw[hlen];refine⟨.ref s.heap.objs.size,_,I.laid (t':=s.toks) (o:=.tup (AL xs lo hi)) (λb ob q=>wEq _ q) (Nat.le_refl _) ?_,rfl,q _ (I.hok.fresh (Nat.le_refl _))⟩;exact⟨Nat.le_trans (pO xs lo hi) hz,_,(r.drop (HT.sIx xs.length 0 lo)).take (HT.sIx xs.length xs.length hi-HT.sIx xs.length 0 lo),dB.new _ _⟩
def aER(K:W.Frag):R2:=λx y H Q=>∃a b xs ys,x= .ref a/\y= .ref b/\SqT K H a xs/\SqT K H b ys/\xs≠[]/\xs.length+ys.length<=sizeLine/\
 (ys=[]->Q (.ref a) H)/\(ys≠[]->∀p,H p=none->Q (.ref p) (upd H p (.tup (xs++ys))))
def aI.nil_iff(r:aI xs us):us=[]↔xs=[]:=by
 cases r with
 | nil=>simp
 | cons _ _=>simp
def YD:OpR X (binaryOp .Add) (aER X.K):=by
 intro j0 s Y H x y v u Q I rx ry h;obtain⟨a,b,xs,ys,rfl,rfl,ha,hb,hx,hz,q1,q2⟩:=h;cases rx;cases ry;obtain⟨its,r1,p1,_⟩:=I.tuple ha;obtain⟨its2,r2,p2,_⟩:=I.tuple hb;refine HT.ZD p1 p2 (λz=>hx (r1.nil_iff.mp z)) (λz=>⟨.ref a,H,I,rfl,q1 (r2.nil_iff.mp z)⟩) (λz=>?_) (by rw[<-r1.length,<-r2.length];exact hz);refine⟨.ref s.heap.objs.size,_,I.laid (t':=s.toks) (o:=.tup (xs++ys)) (λb ob q=>wEq _ q) (Nat.le_refl _) ?_,rfl,q2 (λw=>z (r2.nil_iff.mpr w)) _ (I.hok.fresh (Nat.le_refl _))⟩;exact⟨by rw[List.length_append];exact hz,_,r1.append r2,dB.new _ _⟩
end
noncomputable def ixN(n:Nat)(i:Int):Option Nat:=if 0<=i then(if i<n then some i.toNat else none) else if -(n:Int)<=i then some (i+n).toNat else none
def atI{α:Type}(xs:List α)(i:Int):Option α:=(ixN xs.length i).bind λj=>xs[j]?
def GF(h:ixN n i=some j):seqIndex? i n=some j/\j<n/\-(n:Int)<=i/\i<n:=by
 unfold ixN at h;by_cases h0:0<=i
 . rw[ja h0] at h;by_cases h1:i<n
   . rw[ja h1] at h;have e:i.toNat=j:=Option.some.inj h;exact⟨by rw[seqIndex_of h0 h1,e],by omega,by omega,h1⟩
   . rw[j9 h1] at h;cases h
 . rw[j9 h0] at h;by_cases h1: -(n:Int)<=i
   . rw[ja h1] at h;have e:(i+n).toNat=j:=Option.some.inj h;exact⟨by rw[seqIndex_neg ooq h1,e],by omega,h1,by omega⟩
   . rw[j9 h1] at h;cases h
def sB{α:Type}{xs:List α}{v:α}(h:atI xs i=some v):∃j,seqIndex? i xs.length=some j/\xs[j]? =some v/\j<xs.length/\-(xs.length:Int)<=i/\i<xs.length:=by
 unfold atI at h;cases e:ixN xs.length i with
 | none=>rw[e] at h;cases h
 | some j =>
   rw[e] at h;obtain⟨h1,h2,h3,h4⟩:=GF e;exact⟨j,h1,h,h2,h3,h4⟩
def cU{α:Type}{xs:List α}{j:Nat}{v:α}(h:xs[j]? =some v):atI xs (j:Int)=some v:=by
 have hj:j<xs.length:=(List.getElem?_eq_some_iff.mp h).1;have e:ixN xs.length (j:Int)=some j:=by
   unfold ixN;rw[ja ooq,ja ooq];simp
 unfold atI;rw[e];exact h
def yV(b:Expr):Prop:= ∀o i,subscripted b false o i=operate [o,i] (getItem o i)
def IxR(X:Cx)(r:R2):Prop :=
 ∀(value slice:Expr) (j0:List (Addr×Obj)) (s:J5) (Y:St) (H:Hp) (x y:V) (v u:Value) (Q:VK),Inv X j0 Y H s->aM x v->aM y u->r x y H Q->
   subscripted slice false v u=operate [v,u] (getItem v u)->wpAny (model X.prog X.w) X.A (subscriptTail value slice v u) (EP X j0 Y Q) X.xe s
def MtR(X:Cx)(id:J6)(r:V->List V->Hp->VK->Prop):Prop :=
 ∀(j0:List (Addr×Obj)) (s:J5) (Y:St) (H:Hp) (x:V) (xs:List V) (v:Value) (us:List Value) (Q:VK),Inv X j0 Y H s->aM x v->aI xs us->r x xs H Q->
   wpAny (model X.prog X.w) X.A (call (.builtin id) (v::us)) (EP X j0 Y Q) X.xe s
section
variable{X:Cx}{a b:Expr}{ta tb:TE}{pos:Pos}
def IxR.or(h:IxR X r)(h':IxR X r'):IxR X (λx y H Q=>r x y H Q∨r' x y H Q):=by
 intro value slice j0 s Y H x y v u Q I rx ry q hs;rcases q with q|q
 . exact h value slice j0 s Y H x y v u Q I rx ry q hs
 . exact h' value slice j0 s Y H x y v u Q I rx ry q hs
def aD4(hr:IxR X r)(ha:PE X a ta)(hb:PE X b tb)(hs:yV b):PE X (.Subscript a b pos) (tOp r ta tb):=by
 intro j0 s Y H Q I h;exact Subscript_ (aBn ha hb I h λv u s2 x y H2 I2 rx ry q=>hr a b j0 s2 Y H2 x y v u Q I2 rx ry q (hs _ _))
def aEe(K:W.Frag):R2:=λx y H Q=>∃p xs i v,x= .ref p/\y= .int i/\SqL K H p xs/\atI xs i=some v/\Q v H
def aEc(K:W.Frag):R2:=λx y H Q=>∃p xs i v,x= .ref p/\y= .int i/\SqT K H p xs/\atI xs i=some v/\Q v H
def aEp:R2:=λx y H Q=>∃z i c,x= .str z/\y= .int i/\z.length<=sizeLine/\atI z.cps.toList i=some c/\Q (.str ⟨#[c]⟩) H
def UH:IxR X (aEe X.K):=by
 intro value slice j0 s Y H x y v u Q I rx ry h hs;obtain⟨p,xs,i,z,rfl,rfl,hq,he,q⟩:=h;cases rx;obtain⟨t,rfl⟩:=ry;obtain⟨its,r,pl,hz⟩:=I.list hq;obtain⟨j,h1,h2,h3,h4,h5⟩:=sB he;obtain⟨w,ew,rw'⟩:=r.get h2;have hl:=r.length;have hn:=jF;have fin:EP X j0 Y Q w s:=⟨z,H,I,rw',q⟩;by_cases h0:0<=i
 . have hj:i.toNat=j:=by
     rw[seqIndex_of h0 h5] at h1;exact Option.some.inj h1
   exact item_listR pl.isList h0 ooq (by rw[hj];simpa using ew) fin hs
 . have hj:(i+(its.toArray.size:Int)).toNat=j:=by
     rw[seqIndex_neg ooq h4] at h1;rw[wIq,<-hl];exact Option.some.inj h1
   exact subscriptTail_builtinR (x:=w) pl.isList.typeIs slot_list_getitem.lookup
     (wpAny_getItem_list_neg (Q:=λr s'=>r=w/\EP X j0 Y Q r s') pl.isList ooq (by rw[wIq]<;>omega) ooq (by rw[hj];simpa using ew) ⟨rfl,fin⟩) hs
def aCF:IxR X (aEc X.K):=by
 intro value slice j0 s Y H x y v u Q I rx ry h hs;obtain⟨p,xs,i,z,rfl,rfl,hq,he,q⟩:=h;cases rx;obtain⟨t,rfl⟩:=ry;obtain⟨its,r,pl,hz⟩:=I.tuple hq;obtain⟨j,h1,h2,h3,h4,h5⟩:=sB he;obtain⟨w,ew,rw'⟩:=r.get h2;have hl:=r.length;have hn:=jF;have fin:EP X j0 Y Q w s:=⟨z,H,I,rw',q⟩;exact subscriptTail_builtinR (x:=w) pl.typeIs slot_tuple_getitem.lookup
   (getItem_tuple (j:=j) (Q:=λr s'=>r=w/\EP X j0 Y Q r s') pl ooq ooq (by rw[wIq,<-hl];exact h1) (by simpa using ew) ⟨rfl,fin⟩) hs
def aA8:IxR X aEp:=by
 intro value slice j0 s Y H x y v u Q I rx ry h hs;obtain⟨z,i,c,rfl,rfl,hz,he,q⟩:=h;obtain⟨t,rfl⟩:=rx;obtain⟨t',rfl⟩:=ry;obtain⟨j,h1,h2,h3,h4,h5⟩:=sB he;have hl:z.cps.toList.length=z.length:=by simp[Str.length]
 rw[hl] at h1 h4 h5;have hn:=jF;exact tail_any (typeIs_str s z t) slot_str_getitem.lookup (getItem_str (c:=c) (by
   have e1:decide (i < -(2^63:Int))=false:=decide_eq_false ooq;have e2:decide (i≥2^63)=false:=decide_eq_false ooq;rw[e1,e2,Bool.or_false]) (by rw[h1];simpa using h2) ⟨.str ⟨#[c]⟩,H,I.tok _,⟨_,rfl⟩,q⟩) hs
def rIx(K:W.Frag):R2:=λx y H Q=>aEe K x y H Q∨aEc K x y H Q∨aEp x y H Q
def aDa:IxR X (rIx X.K):=UH.or (aCF.or aA8)
def ER(its:List Value)(n j:Nat)(u:Value):Obj.mapSeq (·.setIfInBounds j u) {cls:=.type "list",data:=.seq its.toArray n}={cls:=.type "list",data:=.seq (its.set j u).toArray n}:=by
 simp[Obj.mapSeq]
def Inv.lst{j0:List (Addr×Obj)}{Y:St}{H:Hp}{s:J5}{p:Addr}{xs:List V}(I:Inv X j0 Y H s)(h:H p=some (.lst xs)) :
   ∃(its:List Value) (n:Nat),aI xs its/\s.heap.get? p=some {cls:=.type "list",data:=.seq its.toArray n}/\xs.length<=sizeLine:=by
 obtain⟨z,its,n,r,e⟩:=I.hok p _ h;exact⟨its,n,r,e,z⟩
def Inv.lstUpd{j0:List (Addr×Obj)}{Y:St}{H:Hp}{s:J5}{p:Addr}{xs ys:List V}{its its':List Value}{n n':Nat}{f:Obj->Obj}(I:Inv X j0 Y H s)(h:H p=some (.lst xs))
   (ho:s.heap.get? p=some {cls:=.type "list",data:=.seq its.toArray n}) (hf:f {cls:=.type "list",data:=.seq its.toArray n}={cls:=.type "list",data:=.seq its'.toArray n'}) (r:aI ys its') (hz:ys.length<=sizeLine) (t:Nat) :
   Inv X j0 Y (upd H p (.lst ys)) {s with heap:=s.heap.update p f,toks:=t}:=by
 have e:(s.heap.update p f).get? p=some {cls:=.type "list",data:=.seq its'.toArray n'}:=by
   rw[Heap.get?_update_self f ho (by rw[hf]<;>rfl),hf]
 refine I.write (x:=p) (e:=p) (by rw[h];trivial) (.inl rfl) (λb u hb q=>(Heap.get?_update_other _ _ (Ne.symm hb)).trans q) ⟨_,e⟩ ?_;exact⟨hz,its',n',r,e⟩
def aEU:V->V->V->Hp->(Hp->Prop)->Prop:=λo i v H Q=>∃p xs k j,o= .ref p/\i= .int k/\H p=some (.lst xs)/\ixN xs.length k=some j/\Q (upd H p (.lst (xs.set j v)))
def QG:UK X aEU:=by
 intro j0 s Y H o i v ov iv u Q I ro ri rv h;obtain⟨p,xs,k,j,rfl,rfl,hp,hj,q⟩:=h;cases ro;obtain⟨t,rfl⟩:=ri;obtain⟨its,n,r,ho,hz⟩:=I.lst hp;obtain⟨h1,h2,h3,h4⟩:=GF hj;have hl:=r.length;have hn:=jF;have I':Inv X j0 Y (upd H p (.lst (xs.set j v))) {s with heap:=s.heap.update p (Obj.mapSeq (·.setIfInBounds j u))} :=
   I.lstUpd hp ho (ER its n j u) (r.set rv j) (by rw[List.length_set];exact hz) s.toks
 by_cases h0:0<=k
 . have hk:k.toNat=j:=by
     rw[seqIndex_of h0 h4] at h1;exact Option.some.inj h1
   exact W.ki_setAt ho h0 ooq (by rw[wIq,<-hl];exact h4) (by rw[hk];exact⟨_,I',q⟩)
 . have hk:(k+(its.toArray.size:Int)).toNat=j:=by
     rw[seqIndex_neg ooq h3] at h1;rw[wIq,<-hl];exact Option.some.inj h1
   exact W.ki_setBack ho ooq (by rw[wIq,<-hl];exact h3) ooq (by rw[hk];exact⟨_,I',q⟩)
def yQ(lo hi:Option Int)(n:Nat):(sliceBounds lo hi none n).1=((HT.sIx n 0 lo:Nat):Int)/\(sliceBounds lo hi none n).2.1=((HT.sIx n n hi:Nat):Int)/\(sliceBounds lo hi none n).2.2=1:=by
 refine⟨?_,?_,rfl⟩
 . cases lo with
   | none=>simp[sliceBounds,HT.sIx]
   | some i =>
     simp only[sliceBounds,HT.sIx,Option.getD_none,show(1:Int)>0 by decide,if_true];by_cases h:i<0
     . simp only[h,if_true]<;>omega
     . simp only[h,if_false]<;>omega
 . cases hi with
   | none=>simp[sliceBounds,HT.sIx]
   | some i =>
     simp only[sliceBounds,HT.sIx,Option.getD_none,show(1:Int)>0 by decide,if_true];by_cases h:i<0
     . simp only[h,if_true]<;>omega
     . simp only[h,if_false]<;>omega
def wC(its:List Value)(lo hi:Option Int):slicePick its.toArray lo hi none=((its.drop (HT.sIx its.length 0 lo)).take (HT.sIx its.length its.length hi-HT.sIx its.length 0 lo)).toArray:=by
 obtain⟨h1,h2,h3⟩:=yQ lo hi its.toArray.size;unfold slicePick;rw[h1,h2,h3];simp only[sliceRange_one,pick_run,wIq]<;>rfl
def aFE(K:W.Frag):V->Option Int->Option Int->Hp->VK->Prop:=λx lo hi H Q=>∃a xs,x= .ref a/\SqL K H a xs/\∀p,H p=none->Q (.ref p) (upd H p (.lst (AL xs lo hi)))
def XZ:SlR X (aFE X.K):=by
 intro j0 s Y H x v vl vu lo hi sl Q I rx hs pl pu h;obtain⟨a,xs,rfl,hx,q⟩:=h;cases rx;obtain⟨its,r,ht,hz⟩:=I.list hx;have hlen:=r.length;refine⟨"list",_,slot_list_getitem.lookup,ht.isList.typeIs,?_⟩;refine wpAny_getItem_list_slice ht.isList hs pl pu .none (by simp) ?_ (by rw[wIq]<;>omega);rw[wC,<-hlen];refine⟨.ref s.heap.objs.size,_,I.laid (t':=s.toks) (o:=.lst (AL xs lo hi)) (λb ob q=>wEq _ q) (Nat.le_refl _) ?_,rfl,q _ (I.hok.fresh (Nat.le_refl _))⟩;exact⟨Nat.le_trans (pO xs lo hi) hz,_,0,(r.drop (HT.sIx xs.length 0 lo)).take (HT.sIx xs.length xs.length hi-HT.sIx xs.length 0 lo),wGq _ rfl⟩
noncomputable def lF:V->Bool
 | .non=>true
 | .bl _=>true
 | .int _=>true
 | .str _=>true
 | _=>false
noncomputable def eqV:V->V->Bool
 | .non,.non=>true
 | .bl a,.bl b=>a==b
 | .bl a,.int b=>(if a then 1 else 0)==b
 | .int a,.bl b=>a==(if b then 1 else 0)
 | .int a,.int b=>a==b
 | .str a,.str b=>a==b
 | _,_=>false
def aBW(ry:aM y u)(rx:aM x v)(fy:lF y=true)(fx:lF x=true):SeqAt.EqAt A s u v (eqV y x):=by
 cases y with
 | non =>
   cases ry;cases x with
   | non=>cases rx;exact SeqAt.EqAt.same _
   | bl b=>cases rx;exact SeqAt.EqAt.none_bool b
   | int b=>obtain⟨t,rfl⟩:=rx;exact SeqAt.EqAt.none_int b t
   | str b=>obtain⟨t,rfl⟩:=rx;exact SeqAt.EqAt.none_str b t
   | _=>exact absurd (show false=true from fx) Bool.false_ne_true
 | bl a =>
   cases ry;cases x with
   | non=>cases rx;exact SeqAt.EqAt.bool_none a
   | bl b=>cases rx;exact SeqAt.EqAt.bool_bool a b
   | int b=>obtain⟨t,rfl⟩:=rx;exact SeqAt.EqAt.bool_int a b t
   | str b=>obtain⟨t,rfl⟩:=rx;exact SeqAt.EqAt.bool_str a b t
   | _=>exact absurd (show false=true from fx) Bool.false_ne_true
 | int a =>
   obtain⟨t',rfl⟩:=ry;cases x with
   | non=>cases rx;exact SeqAt.EqAt.int_none a t'
   | bl b=>cases rx;exact SeqAt.EqAt.int_bool a t' b
   | int b=>obtain⟨t,rfl⟩:=rx;exact SeqAt.EqAt.int_int a t' b t
   | str b=>obtain⟨t,rfl⟩:=rx;exact SeqAt.EqAt.int_str a t' b t
   | _=>exact absurd (show false=true from fx) Bool.false_ne_true
 | str a =>
   obtain⟨t',rfl⟩:=ry;cases x with
   | non=>cases rx;exact SeqAt.EqAt.str_none a t'
   | bl b=>cases rx;exact SeqAt.EqAt.str_bool a t' b
   | int b=>obtain⟨t,rfl⟩:=rx;exact SeqAt.EqAt.str_int a t' b t
   | str b=>obtain⟨t,rfl⟩:=rx;exact SeqAt.EqAt.str_str a t' b t
   | _=>exact absurd (show false=true from fx) Bool.false_ne_true
 | _=>exact absurd (show false=true from fy) Bool.false_ne_true
def eqU(x:V)(u:Value):Bool:=match u with
 | .none=>eqV .non x
 | .bool b=>eqV (.bl b) x
 | .int i _=>eqV (.int i) x
 | .str z _=>eqV (.str z) x
 | _=>false
def NT(r:aM y u)(f:lF y=true):eqU x u=eqV y x:=by
 cases y with
 | non=>cases r;rfl
 | bl b=>cases r;rfl
 | int i=>obtain⟨t,rfl⟩:=r;rfl
 | str z=>obtain⟨t,rfl⟩:=r;rfl
 | _=>exact absurd (show false=true from f) Bool.false_ne_true
theorem mR:∀{xs:List V} {us:List Value},aI xs us->xs.all lF=true->us.any (eqU x)=xs.any λy=>eqV y x
 | _,_,.nil,_=>rfl
 | y::xs,u::us,.cons r t,f=>by
   rw[List.all_cons,Bool.and_eq_true] at f;rw[List.any_cons,List.any_cons,NT r f.1,mR t f.2]
theorem jB(rx:aM x v)(fx:lF x=true):∀{xs:List V} {us:List Value},aI xs us->xs.all lF=true->∀u∈us,SeqAt.EqAt A s u v (eqU x u)
 | _,_,.nil,_=>λu hu=>by cases hu
 | y::xs,u::us,.cons r t,f=>λu' hu=>by
   rw[List.all_cons,Bool.and_eq_true] at f;rcases List.mem_cons.mp hu with rfl|hu
   . rw[NT r f.1];exact aBW r rx f.1 fx
   . exact jB rx fx t f.2 u' hu
def inV(x:V)(xs:List V):Bool:=xs.any λy=>eqV y x
def rIn(K:W.Frag)(neg:Bool):R2:=λx y H Q=>∃p xs,y= .ref p/\(SqL K H p xs∨SqT K H p xs)/\lF x=true/\xs.all lF=true/\Q (.bl (if neg then !inV x xs else inV x xs)) H
def IN:OpR X (compareOp .In) (rIn X.K false):=by
 intro j0 s Y H x y v u Q I rx ry h;obtain⟨p,xs,rfl,hq,fx,fs,q⟩:=h;cases ry;rcases hq with hq|hq
 . obtain⟨its,r,pl,hz⟩:=I.list hq;refine SeqAt.in_listAt (eqU x) pl.isList (λw hw=>jB rx fx r fs w (by simpa using hw)) ⟨.bl _,H,I,rfl,?_⟩;rw[show its.toArray.any (eqU x)=its.any (eqU x) by simp,mR r fs];exact q
 . obtain⟨its,r,pl,hz⟩:=I.tuple hq;refine SeqAt.in_tupleAt (eqU x) pl (λw hw=>jB rx fx r fs w (by simpa using hw)) ⟨.bl _,H,I,rfl,?_⟩;rw[show its.toArray.any (eqU x)=its.any (eqU x) by simp,mR r fs];exact q
def zP:OpR X (compareOp .NotIn) (rIn X.K true):=by
 intro j0 s Y H x y v u Q I rx ry h;obtain⟨p,xs,rfl,hq,fx,fs,q⟩:=h;cases ry;rcases hq with hq|hq
 . obtain⟨its,r,pl,hz⟩:=I.list hq;refine SeqAt.notIn_listAt (eqU x) pl.isList (λw hw=>jB rx fx r fs w (by simpa using hw)) ⟨.bl _,H,I,rfl,?_⟩;rw[show its.toArray.any (eqU x)=its.any (eqU x) by simp,mR r fs];exact q
 . obtain⟨its,r,pl,hz⟩:=I.tuple hq;refine SeqAt.notIn_tupleAt (eqU x) pl (λw hw=>jB rx fx r fs w (by simpa using hw)) ⟨.bl _,H,I,rfl,?_⟩;rw[show its.toArray.any (eqU x)=its.any (eqU x) by simp,mR r fs];exact q
def zE:aU X (.builtin "len") (λxs H Q=>∃p ys,xs=[.ref p]/\(SqL X.K H p ys∨SqT X.K H p ys)/\Q (.int ys.length) H):=by
 intro j0 s Y H xs us Q I r h;obtain⟨p,ys,rfl,hq,q⟩:=h;obtain⟨u,rfl,rx⟩:=dI r;cases rx;have hn:=jF;rcases hq with hq|hq
 . obtain⟨its,r',pl,hz⟩:=I.list hq;have hlen:=r'.length;exact Calls.call_len_list pl.isList (by simp only[wIq]<;>omega) ⟨.int ys.length,H,I.tok _,⟨s.toks+1,by rw[wIq,hlen]⟩,q⟩
 . obtain⟨its,r',pl,hz⟩:=I.tuple hq;have hlen:=r'.length;exact len_tuple pl (by simp only[wIq]<;>omega) ⟨.int ys.length,H,I.tok _,⟨s.toks+1,by rw[wIq,hlen]⟩,q⟩
def xY:aU X (.builtin "len") (λxs H Q=>∃z,xs=[.str z]/\z.length<=sizeLine/\Q (.int z.length) H):=by
 intro j0 s Y H xs us Q I r h;obtain⟨z,rfl,hz,q⟩:=h;obtain⟨u,rfl,t,rfl⟩:=dI r;have hn:=jF;exact len_str ooq ⟨.int z.length,H,I.tok _,⟨_,rfl⟩,q⟩
def aU.or(h:aU X f r)(h':aU X f r'):aU X f (λxs H Q=>r xs H Q∨r' xs H Q):=by
 intro j0 s Y H xs us Q I rs q;rcases q with q|q
 . exact h j0 s Y H xs us Q I rs q
 . exact h' j0 s Y H xs us Q I rs q
def yC:aU X (.type "list") (λxs H Q=>∃p ys,xs=[.ref p]/\(SqL X.K H p ys∨SqT X.K H p ys)/\∀l,H l=none->Q (.ref l) (upd H l (.lst ys))):=by
 intro j0 s Y H xs us Q I r h;obtain⟨p,ys,rfl,hq,q⟩:=h;obtain⟨u,rfl,rx⟩:=dI r;cases rx;have fin:∀(its:List Value),aI ys its->ys.length<=sizeLine->∀(h':Heap) (c':Nat),(∀b o',s.heap.get? b=some o'->h'.get? b=some o')->
     h'.get? s.heap.objs.size=some {cls:=.type "list",dict:=none,data:=.seq its.toArray c',slots:= #[]}->EP X j0 Y Q (.ref s.heap.objs.size) {s with heap:=h'}:=λits r' hz h' c' kp e =>
   ⟨.ref s.heap.objs.size,_,I.laid (t':=s.toks) kp (Nat.le_refl _) (show cA X.prog X.w _ h' _ (.lst ys) from⟨hz,its,c',r',e⟩),rfl,q _ (I.hok.fresh (Nat.le_refl _))⟩
 rcases hq with hq|hq
 . obtain⟨its,r',pl,hz⟩:=I.list hq;have hlen:=r'.length;obtain⟨o,ho,hc,n,hd⟩:=pl.isList;exact call_list_seq p (.inl rfl) ho hc hd (λh' c' kp e=>fin its r' hz h' c' kp e) (by simp only[wIq]<;>omega)
 . obtain⟨its,r',pl,hz⟩:=I.tuple hq;have hlen:=r'.length;obtain⟨o,ho,hc,n,hd⟩:=pl;exact call_list_seq p (.inr rfl) ho hc hd (λh' c' kp e=>fin its r' hz h' c' kp e) (by simp only[wIq]<;>omega)
def wE:aU X (.type "tuple") (λxs H Q=>∃p ys,xs=[.ref p]/\((SqL X.K H p ys/\∀l,H l=none->Q (.ref l) (upd H l (.tup ys)))∨(SqT X.K H p ys/\Q (.ref p) H))):=by
 intro j0 s Y H xs us Q I r h;obtain⟨p,ys,rfl,h⟩:=h;obtain⟨u,rfl,rx⟩:=dI r;cases rx;rcases h with ⟨hq,q⟩|⟨hq,q⟩
 . obtain⟨its,r',pl,hz⟩:=I.list hq;have hlen:=r'.length;refine call_tuple_list pl.isList (λh' kp=>?_) (by simp only[wIq]<;>omega);have I1:Inv X j0 Y H {s with heap:=h'}:=I.kept (t':=s.toks) kp;have I2:Inv X j0 Y (upd H h'.objs.size (.tup ys)) {s with heap:=h'.push {cls:=.type "tuple",data:=.seq its.toArray}} :=
     I1.laid (t':=s.toks) (λb o e=>wEq _ e) (Nat.le_refl _) (show cA X.prog X.w _ _ _ (.tup ys) from⟨hz,its,r',dB.new _ _⟩)
   exact⟨.ref h'.objs.size,_,I2,rfl,q _ (I1.hok.fresh (Nat.le_refl _))⟩
 . obtain⟨its,r',pl,hz⟩:=I.tuple hq;exact call_tuple_same pl ⟨.ref p,H,I,rfl,q⟩
def tyV(K:W.Frag)(T:J6)(x:V)(H:Hp):Prop:=match x with
 | .str _=>T="str"
 | .int _=>T="int"
 | .ref p=>(T="list"/\∃xs,SqL K H p xs)∨(T="tuple"/\∃o,K.lookup p=some o/\o.cls= .type "tuple"/\o.dict=none)∨
     (T="dict"/\((∃kvs,H p=some (.dK kvs))∨∃kvs,H p=some (.dT kvs)))∨(T="set"/\∃S n,H p=some (.set S n))
 | _=>False
def aCN{j0:List (Addr×Obj)}{Y:St}{H:Hp}{s:J5}{T:J6}{x:V}{v:Value}(I:Inv X j0 Y H s)(r:aM x v)(ty:tyV X.K T x H) :
   s.TypeIs v T/\∀a,v= .ref a->∃ob,s.heap.get? a=some ob/\ob.dict=none:=by
 cases x with
 | str z =>
   obtain⟨t,rfl⟩:=r;cases(show T="str" from ty);exact⟨typeIs_str s z t,λ_ e=>nomatch e⟩
 | int i =>
   obtain⟨t,rfl⟩:=r;cases(show T="int" from ty);exact⟨typeIs_int s i t,λ_ e=>nomatch e⟩
 | ref p =>
   cases r;rcases ty with ⟨rfl,xs,hq⟩|⟨rfl,o,hk,hc,hd⟩|⟨rfl,hk⟩|⟨rfl,S,n,hk⟩
   . obtain⟨its,_,pl,_⟩:=I.list hq;refine⟨pl.isList.typeIs,λa e=>?_⟩;cases e;obtain⟨o,n,e,c,hd,_⟩:=pl;exact⟨o,e,hd⟩
   . refine⟨⟨o,I.kIn p o hk,hc⟩,λa e=>?_⟩;cases e;exact⟨o,I.kIn _ o hk,hd⟩
   . have z:∃o,s.heap.get? p=some o/\o.ExactDict:=by
       rcases hk with ⟨kvs,hk⟩|⟨kvs,hk⟩
       . obtain⟨_,_,_,_,o,_,_,e,ex,_⟩:=I.hok p _ hk;exact⟨o,e,ex⟩
       . obtain⟨_,_,_,_,o,_,_,e,ex,_⟩:=I.hok p _ hk;exact⟨o,e,ex⟩
     obtain⟨o,e,ex⟩:=z;refine⟨⟨o,e,ex.1⟩,λa e2=>?_⟩;cases e2;exact⟨o,e,ex.2.1⟩
   . obtain⟨o,_,_,_,e,ex,_⟩:=I.hok p _ hk;refine⟨⟨o,e,ex.1⟩,λa e2=>?_⟩;cases e2;exact⟨o,e,ex.2.1⟩
 | _=>exact False.elim ty
def tBM(K:W.Frag)(T:J6)(r:V->List V->Hp->VK->Prop)(to:TE)(t:TA):TE:=λY H Q=>to Y H λx H1=>tyV K T x H1/\t Y H1 λxs H2=>r x xs H2 Q
variable{o e:Expr}{es:List Expr}{to:TE}{t:TA}{name:Str}{apos cpos:Pos}{T id:J6}{r:V->List V->Hp->VK->Prop}
def aEW(pa:PlainAttrs T)(slot:Slot T name id)(hty:typeOf (.builtin id)=pure (.type "method_descriptor"))(hm:MtR X id r)(ho:PE X o to)(ha:PA X (e::es) t)
   (hbase:attributeBase o name X.env (eval o X.env)=eval o X.env:=by rfl)
   (hfew:((backTo cpos (starEach (e::es) X.env)).all (λx=> !x.1)&&(backToKw cpos (keywordEach [] X.env)).all (λx=>x.1.isSome)
     && decide ((e::es).length+([]:List Keyword).length+(if ([]:List Keyword).isEmpty then 0 else 1)<30))=true:=by rfl)
   (hline:(apos.endLine==cpos.line)=true:=by rfl) (hs:starEach (e::es) X.env=(false,eval e X.env)::starEach es X.env:=by rfl) (hplain:(backTo cpos (starEach es X.env)).any (·.1)=false:=by rfl) :
   PE X (.Call (.Attribute o name apos) (e::es) [] cpos) (tBM X.K T r to t):=by
 intro j0 s Y H Q I h;refine wpAny_Call_method_late hbase hfew hline rfl (thn (ho j0 s Y H _ I h) λv s1 zz=>?_);obtain⟨x,H1,I1,r1,ty,q1⟩:=zz;obtain⟨h1,h2⟩:=aCN I1 r1 ty;refine⟨T,id,pa,slot,hty,h1,h2,?_⟩;have hA:=ha cpos j0 s1 Y H1 _ I1 q1;rw[hs] at hA ⊢;refine Calls.callWith_builtin (by show(false||(backTo cpos (starEach es X.env)).any (·.1))=false;rw[hplain]<;>rfl) (Calls.evalArgs_plain ?_);exact thn hA<|by rintro us s2 ⟨vs,H2,I2,r2,q2⟩;exact hm j0 s2 Y H2 x vs v us Q I2 r1 r2 q2
end
def MtM(X:Cx)(id:J6)(r:V->List V->Hp->VK->Prop):Prop :=
 ∀(j0:List (Addr×Obj)) (s:J5) (Y:St) (H:Hp) (x:V) (xs:List V) (v:Value) (us:List Value) (Q:VK),Inv X j0 Y H s->aM x v->aI xs us->r x xs H Q->
   wpAny (model X.prog X.w) X.A (call (.builtin id) (v::us)) (EP X j0 Y Q) X.xe s
theorem aI.one:∀{x:V} {us:List Value},aI [x] us->∃u,us=[u]/\aM x u
 | _,_,.cons r .nil=>⟨_,rfl,r⟩
def aI.reverse(h:aI xs us):aI xs.reverse us.reverse:=by
 induction h with
 | nil=>exact .nil
 | cons r t ih=>rw[List.reverse_cons,List.reverse_cons];exact aI.append ih (.cons r .nil)
theorem aI.rep(h:aI xs us):∀k:Nat,aI (List.replicate k xs).flatten (List.replicate k us).flatten
 | 0=>.nil
 | k+1=>by
   rw[List.replicate_succ,List.replicate_succ,List.flatten_cons,List.flatten_cons];exact aI.append h (aI.rep h k)
theorem oU(its:List Value):∀(k:Nat) (acc:List Value),
   List.foldl (λx1 x2=>x1++x2) acc.toArray (List.replicate k its.toArray)=(acc++(List.replicate k its).flatten).toArray
 | 0,acc=>by simp
 | k+1,acc=>by
   have e:acc.toArray++its.toArray=(acc++its).toArray:=by simp
   have e2:(acc++its)++(List.replicate k its).flatten=acc++(List.replicate (k+1) its).flatten:=by
     rw[List.replicate_succ,List.flatten_cons,List.append_assoc]
   rw[<-e2,<-oU its k (acc++its),<-e,List.replicate_succ,List.foldl_cons]
section
variable{X:Cx}{j0:List (Addr×Obj)}{Y:St}{H:Hp}{s:J5}{l b:Addr}{xs ys zs:List V}
def Inv.lset{its its':List Value}(I:Inv X j0 Y H s)(hH:H l=some (.lst xs))
   (e:s.heap.get? l=some {cls:=.type "list",data:=.seq its.toArray n}) (hf:f its.toArray=its'.toArray) (hv:aI ys its') (hz:ys.length<=sizeLine) :
   Inv X j0 Y (upd H l (.lst ys)) {s with heap:=s.heap.update l (Obj.mapSeq f),toks:=t'}:=by
 have q:=PySem.IsL.update e f;rw[hf] at q;refine I.write (x:=l) (e:=l) (by rw[hH];exact trivial) (.inl rfl) (λb' u hb hu=>(Heap.get?_update_other s.heap (Obj.mapSeq f) (Ne.symm hb)).trans hu) ⟨_,q⟩ ?_;exact⟨hz,its',_,hv,q⟩
def Inv.lnew(I:Inv X j0 Y H s)(hv:aI ys its)(hz:ys.length<=sizeLine) :
   Inv X j0 Y (upd H s.heap.objs.size (.lst ys)) {s with heap:=s.heap.push {cls:=.type "list",data:=.seq its.toArray},toks:=t'} :=
 I.laid (λ_ _ q=>wEq _ q) (Nat.le_refl _) ⟨hz,its,0,hv,wGq _ rfl⟩
def Inv.fresh(I:Inv X j0 Y H s):H s.heap.objs.size=none:=I.hok.fresh (Nat.le_refl _)
def Inv.lstM(I:Inv X j0 Y H s)(hH:H l=some (.lst xs)):xs.length<=sizeLine/\∃(its:List Value) (n:Nat),aI xs its/\xs.length=its.length/\s.heap.get? l=some {cls:=.type "list",data:=.seq its.toArray n}:=by
 obtain⟨z,its,n,r,e⟩:=I.hok l _ hH;exact⟨z,its,n,r,r.length,e⟩
def PN(h:n<=sizeLine):Builtin.List.listTooLong n=false:=by
 unfold Builtin.List.listTooLong;exact decide_eq_false ooq
end
section
variable{X:Cx}
def VS:V->List V->Hp->VK->Prop:=λx vs H Q=>∃l xs y,x= .ref l/\vs=[y]/\H l=some (.lst xs)/\xs.length<sizeLine/\Q .non (upd H l (.lst (xs++[y])))
def oY:MtM X "list.append" VS:=by
 intro j0 s Y H x vs v us Q I rx rv h;obtain⟨l,xs,y,rfl,rfl,hH,hz,q⟩:=h;cases rx;obtain⟨u,rfl,ru⟩:=rv.one;obtain⟨z,its,n,r,hl,e⟩:=I.lstM hH;refine call_meets F.slot_list_append ⟨_,e,rfl⟩ F.entry_list_append (F.args_list_append_2 _ _) (PySem.list_append l its.toArray n u (by rw[wIq];omega)) ⟨e,?_⟩;refine⟨.non,_,I.lset (its':=its++[u]) hH e (by simp) (r.append (.cons ru .nil)) ?_,rfl,q⟩;rw[List.length_append,List.length_singleton];omega
def aE1:R2:=λx y H Q=>∃l b xs zs,x= .ref l/\y= .ref b/\H l=some (.lst xs)/\H b=some (.lst zs)/\xs.length+zs.length<=sizeLine/\∀p,H p=none->Q (.ref p) (upd H p (.lst (xs++zs)))
def SJ:OpR X (binaryOp .Add) aE1:=by
 intro j0 s Y H x y v u Q I rx ry h;obtain⟨l,b,xs,zs,rfl,rfl,hH,hB,hz,q⟩:=h;cases rx;cases ry;obtain⟨z,its,n,r,hl,e⟩:=I.lstM hH;obtain⟨z2,its2,n2,r2,hl2,e2⟩:=I.lstM hB;refine PySem.P.add_list e e2 ?_ (by rw[wIq,wIq];omega);have ea:its.toArray++its2.toArray=(its++its2).toArray:=by simp
 rw[ea];exact⟨.ref _,_,I.lnew (t':=s.toks) (r.append r2) (by rw[List.length_append];omega),rfl,q _ I.fresh⟩
def aFA:R2:=λx y H Q=>∃l k xs,x= .ref l/\y= .int k/\H l=some (.lst xs)/\-(2^63)<=k/\k<2^63/\xs.length*k.toNat<=sizeLine/\
 ∀p,H p=none->Q (.ref p) (upd H p (.lst (List.replicate k.toNat xs).flatten))
def zI{α:Type}(xs:List α)(k:Nat):(List.replicate k xs).flatten.length=k*xs.length:=by
 induction k with
 | zero=>simp
 | succ k ih=>rw[List.replicate_succ,List.flatten_cons,List.length_append,ih,Nat.succ_mul,Nat.add_comm]
def aAH:OpR X (binaryOp .Mult) aFA:=by
 intro j0 s Y H x y v u Q I rx ry h;obtain⟨l,k,xs,rfl,rfl,hH,h1,h2,hz,q⟩:=h;cases rx;obtain⟨t,rfl⟩:=ry;obtain⟨z,its,n,r,hl,e⟩:=I.lstM hH;have hlen:its.toArray.size*k.toNat<=sizeLine:=by rw[wIq,<-hl];exact hz
 have hcap:¬its.toArray.size*k.toNat>(2^63-1)/8:=by
   have:(sizeLine:Nat)<=(2^63-1)/8:=by decide
   omega
 have hfit:¬(!Builtin.List.listFitsIndex k)=true:=by
   rw[fitsIndex_both h1 h2];exact Bool.false_ne_true
 have hlong:¬Builtin.List.listTooLong (its.toArray.size*k.toNat)=true:=by
   rw[PN hlen];exact Bool.false_ne_true
 have hnew:List.foldl (λx1 x2=>x1++x2) #[] (List.replicate (if its.toArray.isEmpty=true then 0 else k.toNat) its.toArray)=(List.replicate k.toNat its).flatten.toArray:=by
   have f0:∀m:Nat,List.foldl (λx1 x2=>x1++x2) #[] (List.replicate m its.toArray)=(List.replicate m its).flatten.toArray:=λm=>by
     have:=oU its m [];rw[List.nil_append] at this;exact this
   rw[f0];cases its with
   | nil=>simp
   | cons a r'=>rw[j9 (by simp)]
 refine wpAny_binaryOp_repeat_ref (T:="list") (U:="int") ddq ⟨_,e,rfl⟩ (λs'=>typeIs_int s' k t) noFill_list_mul F.fills_int_mul F.slot_int_rmul repeat_list F.slot_int_index.lookup
   (call_meets F.slot_int_rmul (typeIs_int s k t) F.entry_int_rmul (F.args_int_rmul_2 _ _) (int___rmul___int_list k t l its.toArray n)
     ⟨e,rfl,⟨_,e,rfl⟩,call_meets F.slot_list_mul ⟨_,e,rfl⟩ F.entry_list_mul (F.args_list_mul_2 _ _) (AutoListH.list___mul___list_int_3 l its.toArray n k t hfit hcap hlong) ⟨e,?_⟩⟩)
 rw[hnew];exact⟨.ref _,_,I.lnew (t':=s.toks) (r.rep k.toNat) (by rw[zI,Nat.mul_comm];exact hz),rfl,q _ I.fresh⟩
end
section
variable{prog:J7}{w:World}{A:Around}{E:Value->J5->Prop}{s:J5}
end
section
variable{X:Cx}
end
end L2
namespace Att
open PySem PySem.W PySem.Calls PyProof.Rows
def rP:∀(ns:List Int) (vs:List Value),WellAll P h vs (ns.map WData.int)->IntsAre vs ns:=by
 intro ns;induction ns with
 | nil =>
   intro vs w;rw[List.map_nil] at w;cases w;exact .nil
 | cons n ns ih =>
   intro vs w;rw[List.map_cons] at w;cases w with
   | cons a b =>
     cases a;exact .cons _ _ (ih _ b)
def IF{l:OpenLaw}(hn:l.most=some n){h:Heap}
   (hpre:l.row.toRowW.claim.pre args=true) (hwl:WellAll P h vals args) :
   ∃a vs ns,vals=[Value.ref a]/\args=[WData.list (ns.map WData.int)]/\h.get? a=some {cls:=.type "list",data:=.seq vs.toArray}/\IntsAre vs ns/\ns.length<=n:=by
 have hsh:WShape.hasAll [] args [.list .int]=true:=(pre_splitW hpre).1;have hc:l.pre.holds [] {args:=args}=true:=(pre_splitW hpre).2;obtain⟨d,r,rfl,h1,h2⟩:=hasAllW_cons hsh;obtain rfl:=hasAllW_nil h2;obtain⟨xs,rfl,h3⟩:=hasW_list h1;obtain⟨ns,rfl⟩:=items_int h3;have hlen:ns.length<=n:=by
   unfold OpenLaw.pre at hc;have h4:(WTm.not (.lt (.lit (.int (n:Int))) (.len (.arg 0)))).holds [] {args:=[.list (ns.map .int)]}=true:=by
     have h4:=(holds_andW hc).1;rw[hn] at h4;exact h4
   have h5:=condW_of h4 (w_not (w_lt w_lit (w_len_list (w_arg rfl))));rw[List.length_map] at h5;refine Nat.le_of_not_lt λq=>?_;have q':(n:Int)<((ns.length:Nat):Int):=by omega
   first
     | (rw[decide_eq_true q'] at h5;exact absurd h5 ddq)
     | (simp at h5;omega)
 cases hwl with
 | cons w1 w2 =>
   cases w2;cases w1 with
   | list ho hall=>exact⟨_,_,ns,rfl,rfl,ho,rP ns _ hall,hlen⟩
def IU(l:OpenLaw)(args:List WData):l.row.toRowW.claim.post args (.bool true) args=true :=
 postW_of (r:=l.row.toRowW) (X:=(true==true))
   (show WShape.has [] (.bool true) .bool=true by first|rfl|decide|simp[WShape.has,WShape.arms,WShape.armsAll])
   (show(WTm.eq .res (.lit (.bool true))).value [] {args:=args,res:=some (.bool true),after:=args}=some (.bool (true==true)) from w_eq_bool (w_res rfl) w_lit) rfl
def zZ{l:OpenLaw}{d:DefRec}
   (hn:l.most=some n) (hdf:d.params.defaults=[])
   (call:∀(w:World) (s₀ s₁:J5) (mg mb:Str->Option Value) (fa:Addr) (o:Obj) (pm cd doc:Value) (a:Addr) (vs:List Value) (ns:List Int),
     Ground q loose [] XP w s₀ mg mb s₁.heap->YP w s₁.heap->
     s₁.heap.get? fa=some o->o.data= .func (docDef d.name d.params d.body d.scope pm cd doc)->s₁.heap.CodeRec cd d.name->mg d.name=some (.ref fa)->
     s₁.heap.get? a=some {cls:=.type "list",data:=.seq vs.toArray}->IntsAre vs ns->ns.length<=n->s₁.gens= #[]->
     codeAny (model l.prog w) callerA (.call (.ref fa) ⟨[.ref a],[]⟩) (λr s'=>r= .ok (.ret (.bool true))/\OldK s₁.heap s'.heap/\s'.os=s₁.os/\AllBare s'.gens) s₁) :
   WalkO q loose XP YP l.row.toRowW d [] (λf vs=>PySem.call f vs):=by
 intro w s₀ s₁ mg mb G Y fa o pm cd doc dV kV ho hd hcd hD hmg hg args vals as hpre hlay hrd hwl hlo;obtain rfl:dV= .none:=Dflts.none hD hdf;obtain rfl:kV= .none:=Dflts.noKw hD;obtain⟨a,vs,ns,rfl,rfl,hobj,hints,hlen⟩:=IF hn hpre hwl;refine enter_call (codeAny_mono (call w s₀ s₁ mg mb fa o pm cd doc a vs ns G Y ho (fd_plain hd) hcd hmg hobj hints hlen hg) λr s' hq=>?_);obtain⟨rfl,h2,h3,h4⟩:=hq;exact⟨.inl ⟨.bool true,.bool true,[],rfl,λ_=>rfl,.bool true,IU l _,λ_=>⟨List.Pairwise.nil,λ_ hm=>(nomatch hm)⟩⟩,h2,h3,h4⟩
section
variable{prog:J7}{w:World}{A:Around}{E:Value->J5->Prop}{s:J5}{K:Frag}
end
end Att
namespace L2
open PySem PySem.Spec PyProof.Rows
theorem wQ:∀{vs:List Value} {ns:List Int},IntsAre vs ns->aI (ns.map V.int) vs
 | _,_,.nil=>.nil
 | _,_,.cons n t h=>.cons ⟨t,rfl⟩ (wQ h)
def RX(H:Hp):Prop:= ∀b,H b=none∨∃o xs,H b=some (.frz o (.lst xs))
def OK{K:W.Frag}{s₁:J5}{vs:List Value}{ns:List Int}
   (KX:K.In s₁.heap) (hns:s₁.heap.Ns mainGlobals mg) (hb:s₁.heap.Ns builtinsNs mb) (hbb:∀x:Str,x≠"__name__"->mb x=bootBuiltins x) (hlim:s₁.heap.NoLimit) (hg:s₁.gens= #[])
   (ha:s₁.heap.get? a=some {cls:=.type "list",data:=.seq vs.toArray}) (hi:IntsAre vs ns) (hl:ns.length<=sizeLine) (hr:cJ k callerA)
   (F:∀base:Heap,K.In base->base.Ns mainGlobals mg->bM P w K mg base CX k fa fd [x] sp) (hbind:∀(s:J5) (u:Value),BindsTo s fd ⟨[u],[]⟩ [(x,u)])
   (hsp:∀H:Hp,RX H->SqL K H a (ns.map V.int)->sp [.ref a] H (λv _=>v= .bl true) λ_ _ _=>False)
   (hCX:∀H e s',CX [] H s₁ (λ_ _ _=>False) e s'->False) :
   codeAny (model P w) callerA (.call (.ref fa) ⟨[.ref a],[]⟩) (λr s'=>r= .ok (.ret (.bool true))/\OldK s₁.heap s'.heap/\s'.os=s₁.os/\AllBare s'.gens) s₁:=by
 have rv:=wQ hi;have lenV:=hi.length;have core :∀H:Hp,RX H->SqL K H a (ns.map V.int)->HOk P w H s₁.heap->(∀b,H b≠none->b=a)->(H a≠none->K.lookup a=none)->
     codeAny (model P w) callerA (.call (.ref fa) ⟨[.ref a],[]⟩) (λr s'=>r= .ok (.ret (.bool true))/\OldK s₁.heap s'.heap/\s'.os=s₁.os/\AllBare s'.gens) s₁:=by
   intro H hO hS hok hA hK;have base_of:∀{b:Addr} {o:Obj},s₁.heap.get? b=some o->H b=none->(yU s₁.heap H).get? b=some o:=λe n=>SR e n;have noA:∀{b:Addr} {o:Obj} {es:Array DictEntry} {ep:Nat},s₁.heap.get? b=some o->o.data= .dict es ep->H b=none:=λ{b o es ep} e d=>by
     cases q:H b with
     | none=>rfl
     | some u =>
       have e':b=a:=hA b (by rw[q];simp);subst e';rw[ha] at e;cases e;have d':Data.seq vs.toArray _=Data.dict es ep:=d;cases d'
   have nsK:∀{b:Addr} {m:Str->Option Value},s₁.heap.Ns b m->(yU s₁.heap H).Ns b m:=λ{b m} ⟨o,es,ep,e,d,r⟩=>⟨o,es,ep,base_of e (noA e d),d,r⟩;have hKb:K.In (yU s₁.heap H):=λb o e=>base_of (KX b o e) (by
     cases q:H b with
     | none=>rfl
     | some u =>
       have e':b=a:=hA b (by rw[q];simp);subst e';rw[hK (by rw[q];simp)] at e;cases e)
   have hM:Mod K mg (yU s₁.heap H):=⟨hKb,nsK hns,⟨mb,nsK hb,hbb⟩,let ⟨mc,h1,h2⟩:=hlim;⟨mc,nsK h1,h2⟩⟩;have e0:AG P w K mg (yU s₁.heap H) callerA [] s₁ H:=⟨rfl,hM,λb o e=>XF e,Nat.le_of_eq (LO _ _),trivial,λb hb=>absurd (show b∈([]:List Addr) from hb) (by simp),hok,.of_eq hg,.inl rfl⟩;refine codeAny_mono ((F _ hKb (nsK hns)).run callerA [] s₁ H ⟨[.ref a],[]⟩ [.ref a] [.ref a] _ _ hr e0 (hbind s₁ (.ref a)) (.cons rfl .nil) (hsp H hO hS)) λr s' h=>?_;cases r with
   | error e=>exact(hCX H e s' h).elim
   | ok fl =>
     cases fl with
     | next=>exact False.elim h
     | brk=>exact False.elim h
     | cont=>exact False.elim h
     | ret u =>
       obtain⟨v,H',os,bare,un,hok',r',q⟩:=h;have q':v= .bl true:=q;subst q';obtain rfl:u=Value.bool true:=r';refine⟨rfl,OldK.of_keep λb o e=>?_,os,bare⟩;cases q:H b with
       | none=>exact un.keep b o e q (by intro z;exact absurd (show b∈([]:List Addr) from z) (by simp)) (by simp)
       | some u =>
         rcases hO b with z|⟨ob,xs,z⟩
         . rw[q] at z;cases z
         . have z2:=un.frzs b ob _ z;obtain⟨e1,_⟩:=hok b _ z;obtain⟨e2,_⟩:=hok' b _ z2;rw[e] at e1;cases e1;exact e2
 cases hk:K.lookup a with
 | some o =>
   have e:=KX a o hk;rw[ha] at e;cases e;refine core (λ_=>none) (λ_=>.inl rfl) (.inr ⟨_,vs.toArray,_,hk,rfl,rfl,rfl,by rw[wIq,lenV];exact hl,by simpa using rv⟩) (λb u z=>by have z':(none:Option HO)=some u:=z;cases z') (λb z=>absurd rfl z) λz=>absurd rfl z
 | none =>
   refine core (λb=>if b=a then some (.frz {cls:=.type "list",data:=.seq vs.toArray} (.lst (ns.map V.int))) else none) (λb=>?_) (.inl (.inr ⟨{cls:=.type "list",data:=.seq vs.toArray},ja rfl⟩)) (λb u z=>?_) (λb z=>?_) λ_=>hk
   . by_cases hb:b=a
     . exact .inr ⟨_,_,ja hb⟩
     . exact .inl (j9 hb)
   . by_cases hb:b=a
     . have z':=(ja hb).symm.trans z;cases z';subst hb;exact⟨ha,by rw[List.length_map];exact hl,vs,_,rv,ha⟩
     . have z':=(j9 hb).symm.trans z;cases z'
   . by_cases hb:b=a
     . exact hb
     . exact absurd (j9 hb) z
def UV{l:W.OpenLaw}{XP:(Str->Option Value)->Heap->Prop}{YP:World->Heap->Prop}{d:DefRec}{K:Params->W.Frag}{CX:World->CXT}{sp:World->Sp}{x:Str}
   (hn:l.most=some n) (hn2:n<=sizeLine) (hdf:d.params.defaults=[]) (hr:cJ k callerA)
   (hY:∀(w:World) (h:Heap),YP w h->(K w.params).In h)
   (F : ∀(w:World) (mg:Str->Option Value) (fa:Addr) (h:Heap),(K w.params).In h->h.Ns mainGlobals mg->mg d.name=some (.ref fa)->
     ∃fd:J8,(∀(s:J5) (u:Value),BindsTo s fd ⟨[u],[]⟩ [(x,u)])/\
       ∀base:Heap,(K w.params).In base->base.Ns mainGlobals mg->bM l.prog w (K w.params) mg base (CX w) k fa fd [x] (sp w))
   (hsp:∀(w:World) (H:Hp) (a:Addr) (ns:List Int),ns.length<=n->RX H->SqL (K w.params) H a (ns.map V.int)->sp w [.ref a] H (λv _=>v= .bl true) λ_ _ _=>False)
   (hCX:∀(w:World) (H:Hp) (s:J5) (e:Value) (s':J5),CX w [] H s (λ_ _ _=>False) e s'->False) :
   W.WalkO q loose XP YP l.row.toRowW d [] (λf vs=>PySem.call f vs):=by
 refine Att.zZ hn hdf λw s₀ s₁ mg mb fa o pm cd doc a vs ns G Y ho hd hcd hmg hobj hints hlen hg=>?_;have KX:=hY w _ Y;obtain⟨fd,hb,hF⟩:=F w mg fa _ KX G.T.g hmg;exact OK KX G.T.g G.T.b G.T.builtins G.T.nolimit hg hobj hints (Nat.le_trans hlen hn2) hr hF hb (λH hO hS=>hsp w H a ns hlen hO hS) λH e s'=>hCX w H s₁ e s'
def TV{l:W.OpenLaw}{XP:(Str->Option Value)->Heap->Prop}{YP:World->Heap->Prop}{d:DefRec}{K:Params->W.Frag}{sp:W.Frag->Sp}{x:Str}
   (hn:l.most=some n) (hn2:n<=sizeLine) (hdf:d.params.defaults=[]) (hr:cJ k callerA)
   (hY:∀(w:World) (h:Heap),YP w h->(K w.params).In h)
   (F : ∀(w:World) (mg:Str->Option Value) (fa:Addr) (h:Heap),(K w.params).In h->h.Ns mainGlobals mg->mg d.name=some (.ref fa)->
     ∃fd:J8,(∀(s:J5) (u:Value),BindsTo s fd ⟨[u],[]⟩ [(x,u)])/\
       ∀base:Heap,(K w.params).In base->base.Ns mainGlobals mg->bM l.prog w (K w.params) mg base CX k fa fd [x] (sp (K w.params)))
   (hsp:∀(K:W.Frag) (H:Hp) (a:Addr) (ns:List Int),ns.length<=n->RX H->SqL K H a (ns.map V.int)->sp K [.ref a] H (λv _=>v= .bl true) λ_ _ _=>False)
   (hCX:∀(H:Hp) (s:J5) (e:Value) (s':J5),CX [] H s (λ_ _ _=>False) e s'->False) :
   W.WalkO q loose XP YP l.row.toRowW d [] (λf vs=>PySem.call f vs) :=
 UV (K:=K) (CX:=λ_=>CX) (sp:=λw=>sp (K w.params)) hn hn2 hdf hr hY F (λw H a ns h1 h2 h3=>hsp (K w.params) H a ns h1 h2 h3) λ_ H s e s'=>hCX H s e s'
noncomputable def gK(s:Stmt):Arguments:=match s with
 | .FunctionDef _ a _ _ _ _ _ _ _ _=>a
 | _=>{posonlyargs:=[],args:=[],vararg:=none,kwonlyargs:=[],kw_defaults:=[],kwarg:=none,defaults:=[]}
noncomputable def dC(s:Stmt):List Stmt:=match s with
 | .FunctionDef _ _ b _ _ _ _ _ _ _=>b
 | _=>[]
noncomputable def bZ(s:Stmt):Scope:=match s with
 | .FunctionDef _ _ _ _ _ _ sc _ _ _=>sc
 | _=>{kind:=.function,names:=[],isGenerator:=false,isCoroutine:=false}
noncomputable abbrev CX0:CXT:=λ_ _ _ _ _ _=>False
noncomputable abbrev E0:XK:=λ_ _ _=>False
def aEi:jU CX0 X E0:=λ_ _ _ _ _ _ _ h=>h.elim
section
variable{P:J7}{w:World}{K:W.Frag}{mg:Str->Option Value}{base:Heap}
end
section
variable{X:Cx}
def pv(i:Nat)(hN:X.N[i]? =some x:=by rfl)(hv:Vis X.env.scope x:=by first|exact Or.inl rfl|exact Or.inr (Or.inl rfl)|exact Or.inr (Or.inr rfl))(hd:(x==("__debug__":Str))=false:=by decide)
   (hcd:(x==("__classdict__":Str))=false:=by decide):PE X (.Name x pos) (aDE i):=MW hN hv hd hcd
end
def aP(H H':Hp):Prop:= ∀b o,H b=some o->H' b=some o
def aP.refl(H:Hp):aP H H:=λ_ _ h=>h
def aP.trans(a:aP H H1)(b:aP H1 H2):aP H H2:=λc o h=>b c o (a c o h)
def aP.seq{K:W.Frag}{H H':Hp}(e:aP H H')(h:SqL K H a xs):SqL K H' a xs:=by
 rcases h with (h|⟨o,h⟩)|h
 . exact .inl (.inl (e _ _ h))
 . exact .inl (.inr ⟨o,e _ _ h⟩)
 . exact .inr h
def Sm(k:Nat)(x:Int):Prop:=x.natAbs<2^k
def Sm.mono{k l:Nat}{x:Int}(h:Sm k x)(q:k<=l):Sm l x:=wFq h (Nat.pow_le_pow_right ddq q)
def Sm.mul(h:Sm k x)(q:Sm l y):Sm (k+l) (x*y):=by
 unfold Sm at *;rw[Int.natAbs_mul,Nat.pow_add];exact Nat.mul_lt_mul'' h q
def Sm.add(h:Sm k x)(q:Sm k y)(e:k+1<=l):Sm l (x+y):=by
 have a:(x+y).natAbs<=x.natAbs+y.natAbs:=Int.natAbs_add_le x y;have b:2^k+2^k<=2^l:=by
   have:=Nat.pow_le_pow_right (show 0<2 by decide) e;rw[Nat.pow_succ] at this;omega
 unfold Sm at *;omega
def Sm.neg(h:Sm k x):Sm k (-x):=by unfold Sm at *;rw[Int.natAbs_neg];exact h
def Sm.sub(h:Sm k x)(q:Sm k y)(e:k+1<=l):Sm l (x-y):=by
 rw[Int.sub_eq_add_neg];exact h.add q.neg e
def Sm.le(h:Sm k y)(a:0<=x)(b:x<=y):Sm k x:=by unfold Sm at *;omega
def Sm.div(h:Sm k x)(hy:0<y):Sm k (x/y):=by
 rcases Int.le_total 0 x with z|z
 . exact h.le (Int.ediv_nonneg z ooq) (Int.ediv_le_self _ z)
 . have a:x<=x/y:=Int.le_ediv_of_mul_le hy (by
     have:=Int.mul_le_mul_of_nonpos_left z (show 1<=y by omega);omega)
   have b:x/y<=0:=by
     have:=Int.ediv_le_ediv hy z;rw[Int.zero_ediv] at this;exact this
   unfold Sm at *;omega
def Sm.bits(h:Sm k x):Builtin.Int.intBits x<=k:=by
 unfold Builtin.Int.intBits;split
 . exact Nat.zero_le _
 . rename_i z;have hz:x.natAbs≠0:=λe=>z (by rw[Int.natAbs_eq_zero.mp e];rfl);exact(Nat.log2_lt hz).mpr h
def Sm.mulOk(h:Sm k x)(q:Sm l y)(e:k+l<=100000000):IntMulOk x y:=by
 have b1:=h.bits;have b2:=q.bits;unfold IntMulOk;have z:Builtin.Int.intTooBig (((Builtin.Int.intBits x+Builtin.Int.intBits y:Nat):Int))=false:=by
   unfold Builtin.Int.intTooBig;refine decide_eq_false ?_;have:bitsLine=134217728:=by decide
   rw[this];omega
 have z':Builtin.Int.intTooBig ((Builtin.Int.intBits x:Int)+(Builtin.Int.intBits y:Int))=false:=by
   rw[<-z];congr 1
 rw[z'];simp
def Sm.log(h:Sm k x)(e:k<=9000)(hk:0<k):x.natAbs.log2<9000:=by
 by_cases hz:x.natAbs=0
 . rw[hz];decide
 . exact wFq ((Nat.log2_lt hz).mpr h) e
section
variable{X:Cx}
def mZ(i j:Int):Prop:=IntMulOk i j
def RV(h:Sm 64 i):mZ i j:=IntMulOk.of_left h.bits
def aDv(h:Sm 64 j):mZ i j:=IntMulOk.of_right h.bits
def bY(h:Sm k i)(q:Sm l j)(e:k+l<=100000000:=by decide):mZ i j:=h.mulOk q e
def rA(_i j:Int):Prop:=0<j/\∃k,Sm k j/\0<k/\k<=9000
def FF(h:0<j)(q:Sm k j)(e:0<k:=by decide)(e':k<=9000:=by decide):rA i j:=⟨h,k,q,e,e'⟩
def WL:OpR X (binaryOp .Mult) (rI mZ λi j=>.int (i*j)):=opI λ_ _ _ _ _ _ _ hc q=>by
 exact mul_int q hc
def ND:OpR X (binaryOp .FloorDiv) (rI rA λi j=>.int (i/j)):=opI λi j _ _ _ _ _ hc q=>by
 obtain⟨h1,k,a,hk,e⟩:=hc;exact floordiv_int ooq (by rw[Int.fdiv_eq_ediv_of_nonneg i ooq];exact q) (.inl (PyProof.noPylong_of_log2 (a.log e hk)))
end
section
variable{X:Cx}{CX:CXT}{k:Nat}{f C:Addr}{fd:J8}{ps ks:List Str}{sp:Sp}{E:XK}{x m:Str}{p pos apos kpos:Pos}{kws:List Keyword}{tk:TA}
variable{g:List Value->List Value->List Value}{gV:List V->List V->List V}
end
def dB.at(e:h.get? a=some {cls:=.type "tuple",data:=.seq items n}):dB h a items:=⟨⟨_,e,rfl,n,rfl⟩,λo q=>by rw[e] at q;cases q;rfl⟩
end L2
namespace LE
open PySem PyProof.Rows
open AutoSeq1 (wpAny_loadPart')
open Builtin
variable{prog:J7}{w:World}{A:Around}{E:Value->J5->Prop}{s:J5}
def ZP(a:s.heap.IsTupleIter it l i)(b:s.heap.IsTuple l xs)(c:xs[i]? =some x)
   (q:∀h',h'.IsTupleIter it l (i+1)->Heap.SameBut it s.heap h'->Q x {s with heap:=h'}):wpAny (model prog w) A (Builtin.SmallTypes.nextOf (.ref it)) Q E s:=by
 obtain⟨o,ho,hc,hd⟩:=id a;obtain⟨p,hp,_,n,hn⟩:=b;unfold Builtin.SmallTypes.nextOf;refine wAq (wpAny_callSpecial?_slot (name:=Str.ofString "__next__") a.typeIs F.slot_tuple_iterator_next (wpAny_call_entry F.slot_tuple_iterator_next a.typeIs F.entry_tuple_iterator_next ?_ (F.args_tuple_iterator_next_1 _)));show wpAny _ _ (field (.ref it) 0>>=_) _ _ _;refine wAq (wpAny_field ho hd (x:=.ref l) rfl ?_);show wpAny _ _ (if (Value.ref l==Value.none)=true then _ else _) _ _ _;rw[j9 (show ¬((Value.ref l==Value.none)=true) from nofun)];show wpAny _ _ (field (.ref it) 1>>=_) _ _ _;refine wAq (wpAny_field ho hd (x:=.int i 0) rfl ?_);show wpAny _ _ (seqItems? (.ref l)>>=_) _ _ _;refine wAq (wpAny_seqItems hp hn ?_);simp only[Int.toNat_natCast,c];exact wAq (wpAny_setField ho hd (by simp) (wBq ⟨x,rfl,wBq (q _ ⟨_,Heap.get?_update_self _ ho (Obj.isFreed_of_fields (Obj.data_mapFields hd _)),(Obj.cls_mapFields ..).trans hc,by rw[Obj.data_mapFields hd];simp[rawInt]⟩ (Heap.SameBut.update ..))⟩))
def aBA(hh:A.handled=none)(a:s.heap.IsTupleIter it l i)(b:s.heap.IsTuple l xs)(c:xs[i]? =none)
   (q:∀h' e,Heap.ExtBut it s.heap h'->(∃o,h'.get? e=some o/\o.cls= .type "StopIteration")->E (.ref e) {s with heap:=h'}):wpAny (model prog w) A (Builtin.SmallTypes.nextOf (.ref it)) Q E s:=by
 obtain⟨o,ho,hc,hd⟩:=id a;obtain⟨p,hp,_,n,hn⟩:=b;unfold Builtin.SmallTypes.nextOf;refine wAq (wpAny_callSpecial?_slot (name:=Str.ofString "__next__") a.typeIs F.slot_tuple_iterator_next (wpAny_call_entry F.slot_tuple_iterator_next a.typeIs F.entry_tuple_iterator_next ?_ (F.args_tuple_iterator_next_1 _)));show wpAny _ _ (field (.ref it) 0>>=_) _ _ _;refine wAq (wpAny_field ho hd (x:=.ref l) rfl ?_);show wpAny _ _ (if (Value.ref l==Value.none)=true then _ else _) _ _ _;rw[j9 (show ¬((Value.ref l==Value.none)=true) from nofun)];show wpAny _ _ (field (.ref it) 1>>=_) _ _ _;refine wAq (wpAny_field ho hd (x:=.int i 0) rfl ?_);show wpAny _ _ (seqItems? (.ref l)>>=_) _ _ _;refine wAq (wpAny_seqItems hp hn ?_);simp only[Int.toNat_natCast,c];refine wAq (wpAny_rule (wAq (wpAny_setField ho hd (by simp) ?_)));show wpAny _ _ (newExc (.type "StopIteration") []>>=_) _ _ _;refine wAq ?_;simp only[newExc,newTuple];refine wAq (wpAny_newObj_type ?_ (by size_fits));refine wAq (m:=firstArgMember _ _) (wpAny_of_eq (a:=Value.none) (by first|rfl|(simp only[firstArgMember];rfl)) (wpAny_newObj_type ?_ (by size_fits)));simp only[raiseNew];refine wAq (wpAny_handled ?_);first|rw[show A.in1.handled=none from hh]|rw[hh]
 exact wAq (wBq (wpAny_throw (q _ _ (((Heap.SameBut.update ..).extBut.push _).push _) ⟨_,wGq _ rfl,rfl⟩)))
def aAo(hh:A.handled=none)(it l:Addr)(hne:l≠it)(xs:Array Value):Draws prog w A it [it,l] xs.size (λi v=>xs[i]? =some v) (λi h=>h.IsTupleIter it l i/\h.IsTuple l xs) where
 live:=λ_ _ st=>let ⟨o,ho,_⟩:=st.1;⟨o,ho⟩
 frame:=λ_ _ _ st hk=>⟨st.1.at λo e=>hk it (by simp) o e,let ⟨o,e,r⟩:=st.2;⟨o,hk l (by simp) o e,r⟩⟩
 item:=λi s Q E hi st hQ=>ZP st.1 st.2 (x:=xs[i]) (by simp[hi]) λh' a b=>hQ _ h' s.toks (by simp[hi]) ⟨a,st.2.extBut b.extBut hne⟩ b
 done:=λs Q E st hE=>aBA hh st.1 st.2 (by simp) hE
def aCx(hh:A.handled=none)(it l:Addr)(i:Nat)(xs:Array Value)(hx:xs[i]? =none):Draws prog w A it [it,l] i (λ_ _=>True) (λj h=>j=i/\h.IsTupleIter it l j/\h.IsTuple l xs) where
 live:=λ_ _ st=>let ⟨o,ho,_⟩:=st.2.1;⟨o,ho⟩
 frame:=λ_ _ _ st hk=>⟨st.1,st.2.1.at λo e=>hk it (by simp) o e,let ⟨o,e,r⟩:=st.2.2;⟨o,hk l (by simp) o e,r⟩⟩
 item:=λj s Q E hi st hQ=>absurd st.1 (Nat.ne_of_lt hi)
 done:=λs Q E st hE=>aBA hh st.2.1 st.2.2 hx hE
def XR(l:Addr)(items:Array Value)(o:Obj)(ho:o.cls= .type "tuple")(n:Nat)(hd:o.data= .seq items n) :
   Meets (Builtin.«enumerate.__new__» ⟨[.type "enumerate",.ref l],[]⟩) (λ_ R s=>s.heap.get? l=some o/\
     R (.ok (.ret (.ref (s.heap.push {cls:=.type "tuple_iterator",data:=.fields #[.ref l,.int 0 0]}).objs.size)))
       {s with heap:=(s.heap.push {cls:=.type "tuple_iterator",data:=.fields #[.ref l,.int 0 0]}).push {cls:=.type "enumerate",data:=.fields #[.none,.bool false,.ref s.heap.objs.size,rawInt 0,.none,.none]}}) :=
 .of_wp λprog w A R s h=>by
   obtain⟨hp,g,d,tk,os⟩:=s;obtain⟨oc,od,dt,sl⟩:=o
   replace ho:oc= .type "tuple":=ho
   replace hd:dt= .seq items n:=hd
   subst ho hd;obtain⟨hl,h⟩:=h;have hsub:=sub_enumerate;have hL:Heap.IsTuple (Shared.heap ⟨hp,g,d,tk,os⟩) l items:=⟨_,hl,rfl,n,rfl⟩
   wp_walk using wpAny_loadPart' hl
   refine wpAny_stack_any λst=>wBq ?_;split
   . rename_i c _ _ _ _ _;cases(c==Value.type "enumerate")<;>(wp_walk using wpAny_loadPart' hl,wpAny_pyIter_tuple hL)<;>exact⟨_,rfl,h⟩
   . wp_walk using wpAny_loadPart' hl,wpAny_pyIter_tuple hL
     exact⟨_,rfl,h⟩
def JJ(hL:s.heap.IsTuple l items)
   (h :∀h',IsEnum h' (s.heap.objs.size+1) s.heap.objs.size 0 .none->h'.IsTupleIter s.heap.objs.size l 0->h'.objs.size=s.heap.objs.size+2->
     (∀b o,s.heap.get? b=some o->h'.get? b=some o)->Q (.ref (s.heap.objs.size+1)) {s with heap:=h'}) :
   wpAny (model prog w) A (call (.type "enumerate") [.ref l]) Q E s:=by
 obtain⟨o,hl,hc,n,hd⟩:=hL;refine callType_new F.called_enumerate ddq (F.typeCall_enumerate_1 _) (F.newCall_enumerate_1 _) (λobj=>F.args_object_init_2 obj _) F.entry_enumerate_new (XR l items o hc n hd) ⟨hl,?_⟩;have hz:(s.heap.push {cls:=.type "tuple_iterator",data:=.fields #[.ref l,.int 0 0]}).objs.size=s.heap.objs.size+1:=Heap.size_push ..;show _/\_;rw[hz];have he:IsEnum ((s.heap.push {cls:=.type "tuple_iterator",data:=.fields #[.ref l,.int 0 0]}).push
     {cls:=.type "enumerate",data:=.fields #[.none,.bool false,.ref s.heap.objs.size,rawInt 0,.none,.none]}) (s.heap.objs.size+1) s.heap.objs.size 0 .none:=by
   have:=wGq (s.heap.push {cls:=.type "tuple_iterator",data:=.fields #[.ref l,.int 0 0]})
     (o:={cls:=.type "enumerate",data:=.fields #[.none,.bool false,.ref s.heap.objs.size,rawInt 0,.none,.none]}) rfl
   rw[hz] at this;exact this
 exact⟨⟨_,he,rfl⟩,h _ he ⟨_,wEq _ (wGq _ rfl),rfl,rfl⟩ (by rw[Heap.size_push,hz]) λb o x=>wEq _ (wEq _ x)⟩
end LE
namespace L2
open PySem PySem.Spec PyProof.Rows
section
variable{X:Cx}{j0:List (Addr×Obj)}{Y:St}{H:Hp}{s:J5}{h':Heap}
def Inv.turnNew{t':Nat}{ch:List Addr}{T:Addr}{u:HO}(I:Inv X j0 Y H s)
   (hch:∀b∈ch,(b∈X.ex∨X.s₀.heap.objs.size<=b)/\b≠X.env.locals/\(∀x c,X.env.cells.lookup x=some c->c≠b)/\∀p∈X.pn++j0,p.1≠b) (hn:∀b∈ch,H b=none)
   (k:∀b o,b∉ch->s.heap.get? b=some o->h'.get? b=some o) (hT:s.heap.objs.size<=T) (new:cA X.prog X.w (upd H T u) h' T u):Inv X j0 Y (upd H T u) {s with heap:=h',toks:=t'}:=by
 have fT:H T=none:=I.hok.fresh hT;have nT:∀{b o},s.heap.get? b=some o->b≠T:=λq=>Nat.ne_of_lt (wFq (Heap.lt_size q) hT);have nit:∀b u,H b=some u->b∉ch:=λb u e z=>by rw[hn b z] at e;cases e
 refine I.step (g':=s.gens) (d':=s.drawn) (ch:=ch) hch (λb o _ _ hc e _=>k b o hc e) (λb o _ _ hc e _=>⟨o.slots,k b o hc e⟩) (λb o _ q n=>by rw[aF (nT q)];exact n)
   (λb o hc e=>⟨o,k b o hc e⟩) (λb xs e=>by rw[aF (aL e fT)];exact e) (λb o v e=>by rw[aF (aL e fT)];exact e) (λb _ ps e=>⟨#[],by rw[aF (aL e fT),e];simp,.nil⟩) (λm hm=>?_) (λb v e=>?_) I.bare
 . obtain⟨o,es,ep,ho,r⟩:=hm;exact⟨o,es,ep,k _ o (λz=>(hch _ z).2.1 rfl) ho,r⟩
 . by_cases hb:b=T
   . subst hb;rw[aS] at e;cases e;exact new
   . rw[aF hb] at e;refine(I.hok b v e).stay (λc v hc q=>k c v ?_ q) (λc q=>by rw[aF (aL q fT)];exact q) λc xs q=>by rw[aF (aL q fT)];exact q
     rcases hc with z|z
     . rw[z];exact nit b _ e
     . exact nit c _ z
def Ite(K:W.Frag)(a:Addr):It :=
 ⟨λi H=>∃xs x,SqT K H a xs/\xs[i]? =some x,λi H x H'=>∃T v,x= .ref T/\H T=none/\H'=upd H T (.tup [.int i,v])/\∀xs,SqT K H a xs->xs[i]? =some v,λi H=>∃xs,SqT K H a xs/\xs.length<=i,false⟩
def KN{P:J7}{K:W.Frag}{x1}{tp:Pos}(a e it:Addr)(hei:e≠it)(hai:a≠it)(hae:a≠e) :
   vV P w K (.Tuple es x1 tp) (Ite K a) [e,it] e (λi h=>(∃old,IsEnum h e it ((i:Nat):Int) old)/\h.IsTupleIter it a i) where
 mem:=by simp
 obj :=λi h st b hb=>by
   obtain⟨⟨old,h1⟩,o,h2,c,d⟩:=st;rcases List.mem_cons.mp hb with rfl|hb
   . exact⟨_,h1,λv z=>by have z':Data.fields _=Data.cell v:=z;cases z'⟩
   . have e':b=it:=by simpa using hb
     subst e';exact⟨o,h2,λv z=>by rw[d] at z;cases z⟩
 keep:=λi h h' st k=>⟨let ⟨old,q⟩:=st.1;⟨old,k e (by simp) _ q⟩,st.2.at λo q=>k it (by simp) o q⟩
 item := by
   intro X hP hw hK hc i j0 s Y H E I hf st hg;subst hP hw hK;obtain⟨xs,x,hq,hx⟩:=hg;obtain⟨its,rv,p,hz⟩:=I.tuple hq;obtain⟨u,hu,ru⟩:=rv.get hx;obtain⟨⟨old,he⟩,hit⟩:=st;have hi:i<its.toArray.size:=by
     have:=(List.getElem?_eq_some_iff.mp hu).1;simpa using this
   have D:=LE.aAo (prog:=X.prog) (w:=X.w) (A:=X.A.in1) (I.ok.hd (hc rfl)) it a hai its.toArray;refine wpAny_pyNext_enum_itemD (A:=X.A) D he ⟨hit,(show s.heap.IsTuple a its.toArray from p)⟩ hi hei (by simp[hei,Ne.symm hae]) λy h1 tk hy ho hs' hT hsz hk=>?_;refine⟨_,rfl,wpAny_letOwnedTupleGo_enum ho λh2 he2 sb=>?_⟩;have hy':y=u:=by
     have z:its.toArray[i]? =some u:=by simpa using hu
     exact Option.some.inj (hy.symm.trans z)
   subst hy';have hTe:s.heap.objs.size≠e:=Nat.ne_of_gt (Heap.lt_size he);have gT:h2.get? s.heap.objs.size=some {cls:=.type "tuple",data:=.seq #[.int i tk,y]}:=(sb.2 _ hTe).trans hT;refine⟨.ref s.heap.objs.size,upd H s.heap.objs.size (.tup [.int i,x]),I.turnNew (ch:=[e,it]) (h':=h2) (λb hb=>?_) (λb hb=>(hf b hb).1) (λb o hb q=>?_) (Nat.le_refl _) ?_,rfl,⟨_,x,rfl,I.hok.fresh (Nat.le_refl _),rfl,λys hy=>by rw[I.tuple_inj hy hq];exact hx⟩,⟨⟨_,by simpa using he2⟩,?_⟩,λb hb=>?_⟩
   . obtain⟨f0,f1,f2,f3,f4,f5⟩:=hf b hb;exact⟨f3,f1,f4,f5⟩
   . simp only[List.mem_cons,List.not_mem_nil,or_false,not_or] at hb;exact(sb.2 b hb.1).trans (hk b o hb.1 hb.2 q)
   . exact⟨by show 2<=sizeLine;decide,[.int i tk,y],.cons ⟨tk,rfl⟩ (.cons ru .nil),dB.at gT⟩
   . exact hs'.1.at λo q=>(sb.2 it (Ne.symm hei)).trans q
   . have hl:∀b,b∈[e,it]->b≠s.heap.objs.size:=λb hb z=>by
       rcases List.mem_cons.mp hb with r|r
       . exact hTe (z▸r)
       . obtain⟨o,q,_⟩:=hit;have r':b=it:=by simpa using r
         have l:=Heap.lt_size q;rw[<-r',z] at l;exact absurd l (Nat.lt_irrefl _)
     rw[aF (hl b hb)];exact(hf b hb).1
 done:=by
   intro X hP hw hK hc i j0 s Y H E I hf st hg;subst hP hw hK;obtain⟨xs,hq,hx⟩:=hg;obtain⟨its,rv,p,hz⟩:=I.tuple hq;obtain⟨⟨old,he⟩,hit⟩:=st;obtain⟨f0,f1,f2,f3,f4,f5⟩:=hf it (by simp);have hl:=rv.length;have hx':its.toArray[i]? =none:=by simp;omega
   refine wpAny_pyNext_enum_endD (A:=X.A) (LE.aCx (prog:=X.prog) (w:=X.w) (A:=X.A.in1) (I.ok.hd (hc rfl)) it a i its.toArray hx') he ⟨rfl,hit,(show s.heap.IsTuple a its.toArray from p)⟩ λh' eb=>⟨rfl,I.turned (t':=s.toks) (λb o hb e=>eb b o hb e) f0 f1 f3 f4 f5⟩
 self:=λ_ _ _ _ _ st h=>let ⟨_,q⟩:=st.1;wpAny_pyIter_enum q h
def aDu(K:W.Frag)(ta:TA):TI:=λY H R=>ta Y H λvs H1=>∃a,vs=[.ref a]/\(∃xs,SqT K H1 a xs)/\R (Ite K a) H1
def YU(hg:Gl X "enumerate")(hm:X.mg "enumerate"=none)(ha:PA X [e] ta)(hs:starEach [e] X.env=[(false,eval e X.env)]:=by rfl) :
   PI X (.Tuple es x1 tp) (.Call (.Name "enumerate" p) [e] [] pos) (aDu X.K ta):=by
 intro j0 s Y H R I h;refine Call_ (jA I hg hm boot_enumerate (PyProof.Rows.callWith_type1 (thn (ha pos j0 s Y H _ I h) λus s1 zz=>?_) hs rfl));obtain⟨vs,H1,I1,r1,q1⟩:=zz;obtain⟨a,e,⟨xs,hq⟩,q⟩:=q1;subst e;obtain⟨u,rfl,r⟩:=dI r1;cases r;obtain⟨its,rv,ht,hz⟩:=I1.tuple hq;have ht':s1.heap.IsTuple a its.toArray:=ht;have hl:a<s1.heap.objs.size:=let ⟨o,e,_⟩:=ht';Heap.lt_size e
 refine LE.JJ ht' λh' he hit hsz k=>?_;have I2:Inv X j0 Y H1 {s1 with heap:=h'}:=I1.kept (t':=s1.toks) k;refine wpAny_pyIter_enum (s:={s1 with heap:=h'}) he ?_;refine⟨s1.heap.objs.size+1,[s1.heap.objs.size+1,s1.heap.objs.size],_,_,H1,rfl,I2,KN a _ _ (Nat.succ_ne_self _) (Nat.ne_of_lt hl) (Nat.ne_of_lt (Nat.lt_succ_of_lt hl)),⟨⟨_,he⟩,hit⟩,λb hb=>?_,q⟩;have hb':s1.heap.objs.size<=b:=by
   rcases List.mem_cons.mp hb with z|z
   . rw[z];exact Nat.le_succ _
   . have z':b=s1.heap.objs.size:=by simpa using z
     exact Nat.le_of_eq z'.symm
 exact I1.fpOk hb' (I1.hok.fresh hb')
end
section
variable{X:Cx}
def IxR.imp{r r':R2}(h:IxR X r)(f:∀x y H Q,r' x y H Q->r x y H Q):IxR X r':=λvalue slice j0 s Y H x y v u Q I rx ry q hs=>h value slice j0 s Y H x y v u Q I rx ry (f _ _ _ _ q) hs
def aU.imp{g:Value}{r r':List V->Hp->VK->Prop}(h:aU X g r)(f:∀x H Q,r' x H Q->r x H Q):aU X g r':=λj0 s Y H xs us Q I rs q=>h j0 s Y H xs us Q I rs (f _ _ _ q)
def PG.imp{e:Expr}{t t':TG}(h:PG X e t)(f:∀v Y H Q,t' v Y H Q->t v Y H Q):PG X e t':=λj0 s Y H v u Q I r q=>h j0 s Y H v u Q I r (f _ _ _ _ q)
def PI.imp{tg it:Expr}{t t':TI}(h:PI X tg it t)(f:∀Y H R,t' Y H R->t Y H R):PI X tg it t':=λj0 s Y H R I q=>h j0 s Y H R I (f _ _ _ q)
end
def aEH:ixN (n+1) 0=some 0:=by unfold ixN;rw[ja ddq,ja ooq];rfl
def aEF:ixN (n+2) 1=some 1:=by unfold ixN;rw[ja ddq,ja ooq];rfl
def aEA:ixN (n+3) 2=some 2:=by unfold ixN;rw[ja ddq,ja ooq];rfl
def fY(h:H q=some u)(n:H p=none):upd H p o q=some u:=by rw[aF (aL h n)];exact h
def aV(h:H p=none)(o:HO):aP H (upd H p o):=λb u q=>fY q h
noncomputable def tyN(H:Hp):V->Option J6
 | .non=>some "NoneType"
 | .bl _=>some "bool"
 | .int _=>some "int"
 | .str _=>some "str"
 | .ref a=>match H a with
   | some (.lst _)=>some "list"
   | some (.tup _)=>some "tuple"
   | some (.dK _)=>some "dict"
   | _=>none
 | _=>none
noncomputable def AH(n T:J6):Bool:=n==T||(n=="bool"&&T=="int")
noncomputable def pB:List J6:=["int","bool","tuple","str","list","dict"]
noncomputable def OI:List J6:=["NoneType","bool","int","str","list","tuple","dict"]
def aAY{K:W.Frag}{x:V}(h:tyN H x=some n):oV K H x (.type n):=by
 unfold tyN at h;split at h
 . cases h;exact .non
 . cases h;exact .bl _
 . cases h;exact .int _
 . cases h;exact .str _
 . split at h
   . rename_i e;cases h;exact .lst e
   . rename_i e;cases h;exact .tup e
   . rename_i e;cases h;exact .dK e
   . cases h
 . cases h
def aBt(K:W.Frag):∀n∈OI,∀T∈pB,W.kitOne K (.type n) (.type T)=some (AH n T):=by
 intro n hn T hT;simp only[OI,pB,List.mem_cons,List.not_mem_nil,or_false] at hn hT;rcases hn with rfl|rfl|rfl|rfl|rfl|rfl|rfl<;>rcases hT with rfl|rfl|rfl|rfl|rfl|rfl<;>rfl
def OpR.imp{X:Cx}{f:Value->Value->Sem Value}{r r':R2}(h:OpR X f r)(g:∀x y H Q,r' x y H Q->r x y H Q):OpR X f r':=λj0 s Y H x y v u Q I rx ry q=>h j0 s Y H x y v u Q I rx ry (g _ _ _ _ q)
def aFG(i:Int):(if i<0 then -i else i)=(i.natAbs:Int):=by split<;>omega
def KH:aU X (.builtin "abs") (λxs H Q=>∃i,xs=[.int i]/\Q (.int (i.natAbs:Int)) H):=TY.imp<|by rintro _ _ _ ⟨i,a,q⟩;exact⟨i,a,by rw[aFG];exact q⟩
theorem UA:((0:Nat):Int)=0:=rfl
theorem GC:((1:Nat):Int)=1:=rfl
theorem HX:((2:Nat):Int)=2:=rfl
theorem GT:((3:Nat):Int)=3:=rfl
section
variable{prog:J7}{w:World}{A:Around}{R:Result->J5->Prop}{s:J5}
noncomputable abbrev NoE:Value->J5->Prop:=λ_ _=>False
def ML(I:Nat->J5->Prop)
   (turn : ∀n s,I n s->wpAny (model prog w) A (pyNext it) (λr s₁=>match r with
     | none=>R (.ok .next) s₁
     | some v=>wpAny (model prog w) A (letOwnedTupleGo target it v) (λ_ s₁'=>wpAny (model prog w) A (assign target env v) (λ_ s₂ =>
         wpAny (model prog w) A (forIn ifs true λc r=>if r=true then do let ok <-isTrue c env (eval c env);pure (ForInStep.yield ok) else pure (ForInStep.yield r)) (λok s₃ =>
           if ok=true then wpAny (model prog w) A (eval elt env) (λx s₄=>wpAny (model prog w) A (call (.builtin "list.append") [acc,x]) (λ_ s₅=>∃m,m<n/\I m s₅) NoE s₄) NoE s₃
           else ∃m,m<n/\I m s₃) NoE s₂) NoE s₁') NoE s₁) NoE s) (n:Nat) (h:I n s) :
   codeAny (model prog w) A (.compLoop (.ListComp elt [⟨target,j3,ifs,0⟩] scope pos) 0 it acc env) R s:=by
 refine codeAny_loop rfl I (λn s hI=>?_) n h;refine wpAny_noted (m:=compTurn (.ListComp elt [⟨target,j3,ifs,0⟩] scope pos) 0 it acc env) ?_;rw[compTurn_list];refine wAq (wpAny_standAt (wAq (wpAny_mono (turn n s hI) (λr s₁ h₁=>?_) λ_ _ f=>f.elim)));cases r with
 | none=>exact wBq h₁
 | some v =>
   refine wAq (wpAny_mono h₁ (λ_ s₁' h₁'=>?_) λ_ _ f=>f.elim);refine wAq (wpAny_mono h₁' (λ_ s₂ h₂=>wAq (wpAny_mono h₂ (λok s₃ h₃=>?_) λ_ _ f=>f.elim)) λ_ _ f=>f.elim);cases ok with
   | false=>exact wBq ⟨rfl,h₃⟩
   | true =>
     exact wAq (wAq (wpAny_mono h₃ (λx s₄ h₄=>wAq (wpAny_mono h₄ (λ_ s₅ h₅=>wBq (wBq ⟨rfl,h₅⟩)) λ_ _ f=>f.elim)) λ_ _ f=>f.elim))
end
noncomputable def lU(cl cells:List (Str×Addr)):List (Str×NameKind)->Prop
 | []=>True
 | (n,k)::r=>(k= .free->∃c,cl.lookup n=some c/\cells.lookup n=some c)/\lU cl cells r
noncomputable def vS(cells:List (Str×Addr)):List (Str×Addr)->Prop
 | []=>True
 | (n,c)::r=>cells.lookup n=some c/\vS cells r
theorem vS.look:∀{cl:List (Str×Addr)} {x:Str} {c:Addr},vS cells cl->cl.lookup x=some c->cells.lookup x=some c
 | [],_,_,_,h=>by cases h
 | (n,c')::r,x,c,ok,h=>by
   cases hx:x==n with
   | true =>
     rw[List.lookup_cons,hx] at h;cases h;rw[beq_iff_eq.mp hx];exact ok.1
   | false =>
     rw[List.lookup_cons,hx] at h;exact vS.look ok.2 h
theorem lU.look{cl cells:List (Str×Addr)}{f:Str×NameKind->Str×NameKind}(hf:∀y,(f y).1=y.1/\((f y).2= .cell∨(f y).2= .free->y.2= .cell∨y.2= .free)):∀{names:List (Str×NameKind)} {x:Str},lU cl cells names->
   ((names.map f).lookup x=some .cell∨(names.map f).lookup x=some .free)->(∃c,cl.lookup x=some c)∨(x,NameKind.cell)∈names
 | [],_,_,h=>by rcases h with h|h<;>cases h
 | (n,k)::r,x,ok,h=>by
   have h1:=hf (n,k);rw[List.map_cons] at h;cases hx:x==(f (n,k)).1 with
   | true =>
     have e:List.lookup x (f (n,k)::r.map f)=some (f (n,k)).2:=by rw[List.lookup_cons,hx]
     rw[e] at h;have hk:k= .cell∨k= .free:=h1.2 (h.imp Option.some.inj Option.some.inj);rcases hk with hk|hk
     . subst hk;rw[beq_iff_eq.mp hx,h1.1];exact .inr (wDq ..)
     . obtain⟨c,q,_⟩:=ok.1 hk;rw[beq_iff_eq.mp hx,h1.1];exact .inl ⟨c,q⟩
   | false =>
     have e:List.lookup x (f (n,k)::r.map f)=List.lookup x (r.map f):=by rw[List.lookup_cons,hx]
     rw[e] at h;exact(lU.look hf ok.2 h).imp_right λz=>wCq _ z
theorem cC:∀(names:List (Str×NameKind)) (n:Nat) (acc:List (Str×Addr)),cellsFrom n names acc=cellsFrom n names []++acc
 | [],_,_=>rfl
 | (y,k)::r,n,acc=>by
   unfold cellsFrom;split
   . rw[cC r (n+1) ((y,n)::acc),cC r (n+1) [(y,n)],List.append_assoc];rfl
   . exact cC r n acc
theorem cT:∀{names:List (Str×NameKind)} {n:Nat} {acc:List (Str×Addr)} {x:Str} {c:Addr},(x,c)∈cellsFrom n names acc->(x,c)∈acc∨((x,NameKind.cell)∈names/\n<=c)
 | [],_,_,_,_,h=>.inl h
 | (y,k)::r,n,acc,x,c,h=>by
   unfold cellsFrom at h;split at h
   . rename_i hk;rcases cT h with z|⟨z,l⟩
     . rcases List.mem_cons.mp z with e|z
       . cases e;rw[beq_iff_eq.mp hk];exact .inr ⟨wDq ..,Nat.le_refl _⟩
       . exact .inl z
     . exact .inr ⟨wCq _ z,Nat.le_of_succ_le l⟩
   . rcases cT h with z|⟨z,l⟩
     . exact .inl z
     . exact .inr ⟨wCq _ z,l⟩
theorem gP:∀{names:List (Str×NameKind)} {n:Nat} {acc:List (Str×Addr)} {x:Str},(x,NameKind.cell)∈names∨(∃c,(x,c)∈acc)->∃c,(x,c)∈cellsFrom n names acc
 | [],_,_,_,h=>by
   rcases h with h|h
   . cases h
   . exact h
 | (y,k)::r,n,acc,x,h=>by
   unfold cellsFrom;split
   . refine gP ?_;rcases h with h|⟨c,h⟩
     . rcases List.mem_cons.mp h with e|h
       . cases e;exact .inr ⟨n,wDq ..⟩
       . exact .inl h
     . exact .inr ⟨c,wCq _ h⟩
   . rename_i hk;refine gP (h.imp_left λh=>?_);rcases List.mem_cons.mp h with e|h
     . cases e;exact absurd rfl hk
     . exact h
def AJ{l:List (Str×Addr)}:(∃c,(x,c)∈l)->∃c,l.lookup x=some c:=by
 induction l with
 | nil=>rintro⟨_,h⟩;cases h
 | cons p r ih =>
   rintro⟨c,h⟩;rw[List.lookup_cons];cases hb:x==p.1 with
   | true=>exact⟨p.2,rfl⟩
   | false =>
     rcases List.mem_cons.mp h with e|h
     . rw[<-e] at hb;rw[beq_self_eq_true] at hb;cases hb
     . exact ih ⟨c,h⟩
def cM(h:(cellsFrom n names cl).lookup x=some c):((x,c)∈cellsFrom n names []/\(x,NameKind.cell)∈names/\n<=c)∨cl.lookup x=some c:=by
 rw[cC,List.lookup_append] at h;cases e:(cellsFrom n names []).lookup x with
 | none=>rw[e] at h;exact .inr h
 | some d =>
   rw[e] at h;cases h;have m:=PySem.mem_of_lookup e;rcases cT m with z|z
   . cases z
   . exact .inl ⟨m,z⟩
def pK(hx:(x,NameKind.cell)∉names)(h:cl.lookup x=some c):(cellsFrom n names cl).lookup x=some c:=by
 rw[cC,List.lookup_append];cases e:(cellsFrom n names []).lookup x with
 | none=>exact h
 | some d =>
   rcases cT (PySem.mem_of_lookup e) with z|z
   . cases z
   . exact absurd z.1 hx
def wM(h:(x,NameKind.cell)∈names):∃c,(cellsFrom n names cl).lookup x=some c/\n<=c:=by
 obtain⟨c,e⟩:=AJ (gP (n:=n) (acc:=[]) (.inl h));refine⟨c,by rw[cC,List.lookup_append,e];rfl,?_⟩;rcases cT (PySem.mem_of_lookup e) with z|z
 . cases z
 . exact z.2
noncomputable def aGj(scope:Scope)(x:Str):Bool:=scope.names.contains (x,NameKind.cell)
def pN
   (hQ:Q (newEnv scope s.heap.objs.size globals (cellsFrom (s.heap.objs.size+1) scope.names cl) qual none .none (some env) builtinsNs) {s with heap:=pushCells (s.heap.push {cls:=.type "dict",data:=.dict #[]}) scope.names}) :
   wpAny M A (newFunctionEnv scope globals cl [] qual none .none (some env)) Q E s:=by
 simp only[newFunctionEnv,Option.isSome_some,if_true];refine wAq (wpAny_alloc ?_);refine wAq (wpAny_layCells _ (λname kind cells=>by cases hkc:kind==NameKind.cell<;>simp[hkc]) _ _ _ _ ?_);rw[show({s with heap:=s.heap.push {cls:=.type "dict",data:=.dict #[]}}:J5).heap.objs.size=s.heap.objs.size+1 from Heap.size_push ..];rw[List.forIn_nil];exact wAq (wBq (wBq hQ))
def cxC(X:Cx)(N:List Str)(scope:Scope)(cl:List (Str×Addr))(C:Addr)(s₀:J5)(H₀:Hp)(ex:List Addr):Cx :=
 {X with N:=N,s₀:=s₀,H₀:=H₀,env:=compEnvC scope (cellsFrom (C+1) scope.names cl) C X.env,outer:=X.stack,stack:=X.stack,ex:=ex,fn:=aGj scope,pn:=[],xe:=NoE}
noncomputable def AI(js:List (Option Nat))(Y:St):St:=js.map λo=>match o with|none=>none|some j=>(Y[j]?).getD none
noncomputable def fZ(X:Cx)(scope:Scope)(cl:List (Str×Addr)):List Str->List (Option Nat)->Prop
 | [],[]=>True
 | _::N,none::J=>fZ X scope cl N J
 | x::N,some j::J=>(X.N[j]? =some x/\X.env.kindOf x=some .cell/\(relabel scope X.env).names.lookup x=some .cell/\∃c,cl.lookup x=some c/\X.env.cells.lookup x=some c)/\fZ X scope cl N J
 | _,_=>False
theorem fZ.len:∀{N:List Str} {J:List (Option Nat)},fZ X scope cl N J->N.length=J.length
 | [],[],_=>rfl
 | _::_,none::_,h=>congrArg (· + 1) (fZ.len (show fZ X scope cl _ _ from h))
 | _::_,some _::_,h=>congrArg (· + 1) (fZ.len h.2)
 | [],_::_,h=>h.elim
 | _::_,[],h=>h.elim
theorem fZ.at:∀{N:List Str} {J:List (Option Nat)} {i:Nat} {x:Str} {Y:St} {v:V},fZ X scope cl N J->N[i]? =some x->(AI J Y)[i]? =some (some v)->
   ∃(j:Nat),Y[j]? =some (some v)/\X.N[j]? =some x/\X.env.kindOf x=some .cell/\(relabel scope X.env).names.lookup x=some .cell/\∃c,cl.lookup x=some c/\X.env.cells.lookup x=some c
 | [],[],_,_,_,_,_,h,_=>by cases h
 | y::N,none::J,i,x,Y,v,ok,h,q=>by
   cases i with
   | zero=>cases q
   | succ i=>exact fZ.at (show fZ X scope cl N J from ok) h q
 | y::N,some j::J,i,x,Y,v,ok,h,q=>by
   cases i with
   | zero =>
     cases h;refine⟨j,?_,ok.1⟩;have q':some ((Y[j]?).getD none)=some (some v):=q;have q2:=Option.some.inj q';cases e:Y[j]? with
     | none=>rw[e] at q2;cases q2
     | some o=>rw[e] at q2;exact congrArg some q2
   | succ i=>exact fZ.at ok.2 h q
 | [],_::_,_,_,_,_,ok,_,_=>ok.elim
 | _::_,[],_,_,_,_,ok,_,_=>ok.elim
section
variable{X:Cx}{j0:List (Addr×Obj)}{Y:St}{H:Hp}{s:J5}{N:List Str}{scope:Scope}{cl:List (Str×Addr)}{js:List (Option Nat)}{fp:List Addr}
structure cG(X:Cx)(N:List Str)(scope:Scope)(cl:List (Str×Addr))(js:List (Option Nat)):Prop where
 clos:closureFor scope X.env=pure cl
 own:∀x,(x,NameKind.cell)∈scope.names->cl.lookup x=none
 kind:scope.kind= .function
 names:∀y∈scope.names,y.2= .local->scope.names.lookup y.1=some .local
 free:lU cl X.env.cells scope.names
 cls:vS X.env.cells cl
 cap:fZ X scope cl N js
def pS(S:cG X N scope cl js)(I:Inv X j0 Y H s)(hf:∀b∈fp,lV X j0 H b)(he:∀b∈fp,b<s.heap.objs.size)(hn:h'.Ns s.heap.objs.size m)
   (k:∀b o,s.heap.get? b=some o->h'.get? b=some o) (hc:CellsOk h' (s.heap.objs.size+1) (cellsFrom (s.heap.objs.size+1) scope.names [])):Inv (cxC X N scope cl s.heap.objs.size s H fp) [] (AI js Y) H {s with heap:=h',toks:=t'}:=by
 have hcl:∀x c,cl.lookup x=some c->X.env.cells.lookup x=some c:=λx c h=>S.cls.look h;have lo:∀x c,cl.lookup x=some c->c<s.heap.objs.size:=λx c h=>let ⟨_,q⟩:=I.cell x c (hcl x c h);q.lt
 refine⟨⟨I.mod,?_,I.ok.glob,I.ok.blt,Nat.le_refl _,λx y c a b=>?_,λx hx=>?_,λx c z e=>?_,I.ok.hd,I.ok.frames,.inl rfl,λb hb=>⟨Nat.ne_of_lt (he b hb),λx c e=>?_⟩,
   I.bs,Nat.le_trans I.ok.bsz I.sz,λb o e hb=>?_,λb hb z=>?_,I.stack,I.stkFree⟩,rfl,I.bare,⟨λb o q _ _ _=>k b o q,λb o q _ _ _=>⟨o.slots,k b o q⟩,λ_ _ _ n _=>n,λb o q _=>⟨o,k b o q⟩,λ_ _ q=>q,λ_ _ _ q=>q,λb _ ps q=>⟨#[],by rw[show H b=_ from q];simp,.nil⟩⟩,?_,λx c e=>?_,?_,λx c e=>?_,(λp hp=>nomatch hp),I.hok.kept k,?_,I.hnd⟩
 . exact S.kind
 . rcases cM a with ⟨m1,_,l1⟩|a1<;>rcases cM b with ⟨m2,_,l2⟩|b1
   . exact name_of_addr hc.apart m1 m2
   . exact absurd (wFq (lo y c b1) (Nat.le_of_succ_le l1)) (Nat.lt_irrefl _)
   . exact absurd (wFq (lo x c a1) (Nat.le_of_succ_le l2)) (Nat.lt_irrefl _)
   . exact I.ok.inj x y c (hcl x c a1) (hcl y c b1)
 . have q:=lU.look (f:=λy=>if (y.2==.free&&X.env.scope.kind==.function&&X.env.kindOf y.1==some .cell) then(y.1,.cell) else(y.1,y.2)) (λy=>by
     by_cases hc:(y.2==.free&&X.env.scope.kind==.function&&X.env.kindOf y.1==some .cell)=true
     . rw[ja hc];refine⟨rfl,λ_=>.inr ?_⟩;rw[Bool.and_eq_true,Bool.and_eq_true] at hc;exact beq_iff_eq.mp hc.1.1
     . rw[j9 hc];exact⟨rfl,λz=>z⟩) S.free hx
   rcases q with ⟨c,q⟩|q
   . refine⟨c,pK (λz=>?_) q⟩;rw[S.own x z] at q;cases q
   . obtain⟨c,e,_⟩:=wM (n:=s.heap.objs.size+1) (cl:=cl) q;exact⟨c,e⟩
 . have z':(x,NameKind.cell)∈scope.names:=List.contains_iff_mem.mp z;rcases cM e with ⟨_,_,l⟩|q
   . exact Nat.le_of_succ_le l
   . rw[S.own x z'] at q;cases q
 . rcases cM e with ⟨_,_,l⟩|q
   . exact Nat.ne_of_gt (wFq (he b hb) (Nat.le_of_succ_le l))
   . exact(hf b hb).2.2.2.2.1 x c (hcl x c q)
 . obtain⟨_,n2⟩:=I.bs b o e;rcases(hf b hb).2.2.2.1 with z|z
   . exact I.ok.noex b o e z
   . exact absurd (wFq (Heap.lt_size (I.ok.bs b o e).1) z) (Nat.lt_irrefl _)
 . obtain⟨_,f1,f2,_⟩:=hf b hb;exact(List.mem_cons.mp (I.stkSub b z)).elim f1 f2
 . obtain⟨mX,hnX,hl⟩:=I.loc;refine⟨m,hn,λi x v e1 e2 e3=>?_⟩;obtain⟨j,q1,q2,q3,q4,c,q5,q6⟩:=S.cap.at e1 e2;obtain⟨u,r,l⟩:=hl j x v q2 q1 (.inr (.inl q3));refine⟨u,r,.inr ⟨.inl q4,c,pK (λz=>?_) q5,?_⟩⟩
   . rw[S.own x z] at q5;cases q5
   rcases l with ⟨l,_⟩|⟨_,c',e',z⟩
   . rw[q3] at l;cases l
   . rw[q6] at e';cases e';obtain⟨o,ho,hd⟩:=z;exact⟨o,k _ _ ho,hd⟩
 . rcases cM e with ⟨m1,_,_⟩|q
   . exact⟨none,(hc.empty x c m1).1⟩
   . obtain⟨v,o,ho,hd⟩:=I.cell x c (hcl x c q);exact⟨v,o,k _ _ ho,hd⟩
 . exact I.hok.fresh (Nat.le_refl _)
 . rcases cM e with ⟨_,_,l⟩|q
   . exact I.hok.fresh (Nat.le_of_succ_le l)
   . exact I.freeC x c (hcl x c q)
 . show(js.map _).length=N.length;rw[List.length_map];exact S.cap.len.symm
end
def PTs(X:Cx)(ifs:List Expr)(t:TT):Prop :=
 ∀(j0:List (Addr×Obj)) (s:J5) (Y:St) (H:Hp) (Q:Bool->Hp->Prop),Inv X j0 Y H s->t Y H Q->
   wpAny (model X.prog X.w) X.A (forIn ifs true λc r=>if r=true then do let ok <-isTrue c X.env (eval c X.env);pure (ForInStep.yield ok) else pure (ForInStep.yield r)) (TP X j0 Y Q) X.xe s
def VA:PTs X [] (λ_ H Q=>Q true H):=λj0 s Y H Q I h=>wpAny_tests_nil ⟨H,I,h⟩
def VG(h:PT X c t):PTs X [c] t:=λj0 s Y H Q I q=>wpAny_tests_one (h j0 s Y H Q I q)
def HN(J:It)(D:Addr)(g:TG)(ts:TT)(te:TE)(Q:VK)(Y:St)(H:Hp):Prop:= ∃W:Nat->Nat->St->Hp->Prop,(∃m,W 0 m Y H)/\∀i m Y' H',W i m Y' H'->
 (J.stop i H'/\Q (.ref D) H')∨(J.go i H'/\∃N:St->Hp->Prop,(∀Y2 H2,N Y2 H2->∃m',m'<m/\W (i+1) m' Y2 H2)/\∀x H2,J.yld i H' x H2->g x Y' H2 λY3 H3=>ts Y3 H3 λok H4=>if ok=true then te Y3 H4 λy H5 =>
   ∃ys,H5 D=some (.lst ys)/\ys.length<sizeLine/\N Y3 (upd H5 D (.lst (ys++[y]))) else N Y3 H4)
def HB(wi:TI)(g:TG)(ts:TT)(te:TE)(js:List (Option Nat)):TE:=λY H Q=>wi Y H λJ H1=>∀D,H1 D=none->HN J D g ts te Q (AI js Y) (upd H1 D (.lst []))
section
variable{X:Cx}{j0:List (Addr×Obj)}{Y:St}{H:Hp}{s:J5}{N:List Str}{scope:Scope}{cl:List (Str×Addr)}{js:List (Option Nat)}{fp:List Addr}{tg elt j3:Expr}{ifs:List Expr}{pos:Pos}{J:It}{it:Addr}{tn:Nat->Heap->Prop}
 {g:TG} {ts:TT} {te:TE}
structure OP(X:Cx)(j0:List (Addr×Obj))(Y:St)(Q:VK)(D C:Addr)(s':J5):Prop where
 ex:∃H' m,Inv X j0 Y H' s'/\s'.heap.Ns C m/\H' C=none/\C≠X.env.locals/\C∉X.fs/\X.s₀.heap.objs.size<=C/\(∀x c,X.env.cells.lookup x=some c->c≠C)/\(∀p∈X.pn++j0,p.1≠C)/\Q (.ref D) H'
def uC(S:cG X N scope cl js)(hc:J.rg=false->X.calm=true)(I:Inv X j0 Y H s)(T:vV X.prog X.w X.K tg J fp it tn)(st:tn 0 s.heap)(hf:∀b∈fp,lV X j0 H b)
   (hg:∀C s₀ H₀ ex,PG (cxC X N scope cl C s₀ H₀ ex) tg g) (ht:∀C s₀ H₀ ex,PTs (cxC X N scope cl C s₀ H₀ ex) ifs ts) (he:∀C s₀ H₀ ex,PE (cxC X N scope cl C s₀ H₀ ex) elt te)
   (q:∀D,H D=none->HN J D g ts te Q (AI js Y) (upd H D (.lst [])))
   {RR:Value->Addr->Result->J5->Prop} (hR:∀D C s',OP X j0 Y Q D C s'->RR (.ref D) C (.ok .next) s') {E:Value->J5->Prop} :
   wpAny (model X.prog X.w) X.A (newList []) (λacc s₃=>wpAny (model X.prog X.w) X.A (newFunctionEnv scope X.env.globals cl [] X.env.qual none .none (some X.env)) (λcenv s₄ =>
     codeAny (model X.prog X.w) X.A (.compStart (.ListComp elt [⟨tg,j3,ifs,0⟩] scope pos) 0 (.ref it) acc {cenv with scope:=relabel scope X.env}) (RR acc cenv.locals) s₄) E s₃) E s:=by
 refine wpAny_newObj_type (pN ?_);have fD:H s.heap.objs.size=none:=I.hok.fresh (Nat.le_refl _);have I3:Inv X j0 Y (upd H s.heap.objs.size (.lst [])) {s with heap:=s.heap.push {cls:=.type "list",dict:=none,data:=.seq ([]:List Value).toArray},toks:=s.toks} :=
   I.laid (t':=s.toks) (λb u e=>wEq _ e) (Nat.le_refl _) ⟨Nat.zero_le _,[],0,.nil,wGq _ rfl⟩
 have lt:∀b∈fp,b<s.heap.objs.size:=λb hb=>let ⟨o,e,_⟩:=T.obj _ _ st b hb;Heap.lt_size e
 have hf3:∀b∈fp,lV X j0 (upd H s.heap.objs.size (.lst [])) b:=λb hb=>⟨by rw[aF (Nat.ne_of_lt (lt b hb))];exact(hf b hb).1,(hf b hb).2⟩;dsimp only;generalize hH2:s.heap.push {cls:=.type "list",dict:=none,data:=.seq ([]:List Value).toArray}=H2 at I3 ⊢;have hns₁:(pushCells (H2.push {cls:=.type "dict",data:=.dict #[]}) scope.names).Ns H2.objs.size (λ_=>none):=(Heap.Ns.new H2 (.type "dict")).keeps (pushCells_keeps _ _);have hco:CellsOk (pushCells (H2.push {cls:=.type "dict",data:=.dict #[]}) scope.names) (H2.objs.size+1) (cellsFrom (H2.objs.size+1) scope.names []):=by
   have ok:=cellsFrom_ok scope.names (H2.push {cls:=.type "dict",data:=.dict #[]}) (H2.objs.size+1) [] ⟨λ_ _ hm=>(nomatch hm),List.Pairwise.nil⟩ (by rw[Heap.size_push];exact Nat.le_refl _);rw[Heap.size_push] at ok;exact ok
 have keep:∀b o,H2.get? b=some o->(pushCells (H2.push {cls:=.type "dict",data:=.dict #[]}) scope.names).get? b=some o:=λb o e=>pushCells_keeps _ _ b o (wEq _ e);generalize pushCells (H2.push {cls:=.type "dict",data:=.dict #[]}) scope.names=h₁ at hns₁ hco keep ⊢;have hC:H2.objs.size=s.heap.objs.size+1:=by rw[<-hH2,Heap.size_push]
 have Ic:=pS (t':=s.toks) S I3 hf3 (λb hb=>by show b<H2.objs.size;rw[hC];exact Nat.lt_succ_of_lt (lt b hb)) hns₁ keep hco;obtain⟨W,⟨m0,w0⟩,turn⟩:=q _ fD;have stat:∀{H':Hp},(∀b∈fp,H' b=none)->∀b∈fp,lV (cxC X N scope cl H2.objs.size {s with heap:=H2,toks:=s.toks} (upd H s.heap.objs.size (.lst [])) fp) [] H' b:=λhn b hb =>
   ⟨hn b hb,Nat.ne_of_lt (by rw[hC];exact Nat.lt_succ_of_lt (lt b hb)),λz=>(List.mem_cons.mp (I.stkSub b z)).elim (hf b hb).2.1 (hf b hb).2.2.1,.inl hb,λx c e=>(cM e).elim (λz=>Nat.ne_of_gt (wFq (lt b hb) (Nat.le_trans (by rw[hC];omega) z.2.2))) λq=>(hf b hb).2.2.2.2.1 x c (S.cls.look q),(λp hp=>nomatch hp)⟩
 have st1:tn 0 h₁:=T.keep _ _ _ st λb hb o e=>keep b o (by rw[<-hH2];exact wEq _ e);have loop:codeAny (model X.prog X.w) X.A (.compLoop (.ListComp elt [⟨tg,j3,ifs,0⟩] scope pos) 0 (.ref it) (.ref s.heap.objs.size) (compEnvC scope (cellsFrom (H2.objs.size+1) scope.names cl) H2.objs.size X.env)) (RR (.ref s.heap.objs.size) H2.objs.size)
     {s with heap:=h₁,toks:=s.toks}:=by
   refine ML (λn s'=>∃i Y' H',Inv (cxC X N scope cl H2.objs.size {s with heap:=H2,toks:=s.toks} (upd H s.heap.objs.size (.lst [])) fp) [] Y' H' s'/\tn i s'.heap/\(∀b∈fp,H' b=none)/\W i n Y' H') ?_ m0
     ⟨0,_,_,Ic,st1,λb hb=>(hf3 b hb).1,w0⟩
   rintro n s3 ⟨i,Y3,H3,I3',st3,fr3,w3⟩;rcases turn i n Y3 H3 w3 with ⟨stop,qn⟩|⟨go,Nx,hN,step⟩
   . refine thn (T.done (cxC X N scope cl H2.objs.size {s with heap:=H2,toks:=s.toks} (upd H s.heap.objs.size (.lst [])) fp) rfl rfl rfl hc i [] s3 Y3 H3 NoE I3' (stat fr3) st3 stop) λr s4 zz=>?_;obtain⟨hr,I4⟩:=zz;subst hr;obtain⟨mC,hnC,_⟩:=I4.loc;have IX:Inv X j0 Y H3 s4:=I3.call' (ch:=fp) I4.os I4.base I4.hok I4.bare λb hb=>by
       obtain⟨_,f1,_,f3,f4,f5⟩:=hf3 b hb;exact⟨f3,f1,f4,f5⟩
     have up:s.heap.objs.size<=H2.objs.size:=by rw[hC];exact Nat.le_succ _
     have fp0:=I.fpOk (H':=H3) up I4.free;exact hR _ _ s4 ⟨⟨H3,mC,IX,hnC,I4.free,fp0.2.1,fp0.2.2.1,Nat.le_trans I.sz up,fp0.2.2.2.2.1,fp0.2.2.2.2.2,qn⟩⟩
   . refine thn (T.item (cxC X N scope cl H2.objs.size {s with heap:=H2,toks:=s.toks} (upd H s.heap.objs.size (.lst [])) fp) rfl rfl rfl hc i [] s3 Y3 H3 NoE I3' (stat fr3) st3 go) λr s4 zz=>?_;obtain⟨u,hr,h4⟩:=zz;subst hr;refine thn h4 λ_ s5 zz=>?_;obtain⟨x,H5,I5,r5,y5,st5,fr5⟩:=zz;have I5':=I5.pinned (stat fr5) (T.obj _ _ st5);refine thn (hg _ _ _ _ _ s5 Y3 H5 x u _ I5' r5 (step x H5 y5)) λ_ s6 zz=>?_;obtain⟨Y6,H6,I6,q6⟩:=zz;refine thn (ht _ _ _ _ _ s6 Y6 H6 _ I6 q6) λok s7 zz=>?_;obtain⟨H7,I7,q7⟩:=zz;have again:∀{Y8:St} {H8:Hp} {s8:J5},Inv (cxC X N scope cl H2.objs.size {s with heap:=H2,toks:=s.toks} (upd H s.heap.objs.size (.lst [])) fp) ([]++pE fp s5.heap) Y8 H8 s8->Nx Y8 H8->
         ∃m,m<n/\∃i Y' H',Inv (cxC X N scope cl H2.objs.size {s with heap:=H2,toks:=s.toks} (upd H s.heap.objs.size (.lst [])) fp) [] Y' H' s8/\tn i s8.heap/\(∀b∈fp,H' b=none)/\W i m Y' H':=λ{Y8 H8 s8} I8 n8=>by
       obtain⟨m',hm,w8⟩:=hN Y8 H8 n8;refine⟨m',hm,i+1,Y8,H8,I8.unpinned,T.keep _ _ _ st5 λb hb o e=>(I8.pin (b,o) (List.mem_append_right _ (List.mem_append_right _ (dR hb e)))).1,λb hb=>?_,w8⟩;obtain⟨o,e,d⟩:=T.obj _ _ st5 b hb;exact(I8.pin (b,o) (List.mem_append_right _ (List.mem_append_right _ (dR hb e)))).2.1
     cases ok with
     | false=>exact again I7 q7
     | true =>
       refine thn (he _ _ _ _ _ s7 Y6 H7 _ I7 q7) λv s8 zz=>?_;obtain⟨y,H8,I8,r8,ys,e8,l8,q8⟩:=zz;exact thn (oY _ s8 Y6 H8 (.ref s.heap.objs.size) [y] (.ref s.heap.objs.size) [v] (λ_ H9=>Nx Y6 H9) I8 rfl (.cons r8 .nil) ⟨_,ys,y,rfl,rfl,e8,l8,q8⟩)<|by rintro _ s9 ⟨_,H9,I9,_,q9⟩;exact again I9 q9
 exact codeAny_compStart_list loop (T.self _ 0 _ _ _ st1 loop)
def YE(S:cG X N scope cl js)(hc:X.calm=true)(hi:PI X tg j3 wi)(hg:∀C s₀ H₀ ex,PG (cxC X N scope cl C s₀ H₀ ex) tg g)(ht:∀C s₀ H₀ ex,PTs (cxC X N scope cl C s₀ H₀ ex) ifs ts)(he:∀C s₀ H₀ ex,PE (cxC X N scope cl C s₀ H₀ ex) elt te)
   (hs:∀x,foldedSetIterable j3 X.env x=pure x:=by intro _;rfl):PE X (.ListComp elt [⟨tg,j3,ifs,0⟩] scope pos) (HB wi g ts te js):=by
 intro j0 s Y H Q I h;rw[eval_ListComp];refine wpAny_comprehension_free (use:=none) (g:=⟨tg,j3,ifs,0⟩) (gs:=[]) rfl hs S.clos S.kind S.names (thn (hi j0 s Y H _ I h) λv s1 h1=>thn h1 λitv s2 h2=>?_);obtain⟨it,fp,tn,J,H2,e,I2,T,st2,f2,q⟩:=h2;subst e;refine uC (RR:=λacc C=>compPost (model X.prog X.w) X.A X.xe none (EP X j0 Y Q) acc C) S (λ_=>hc) I2 T st2 f2 hg ht he q ?_;rintro D C s' ⟨H',m,I',hn,f0,f1,_,f3,f4,f5,q'⟩;exact⟨m,hn,λh' sb=>⟨.ref D,H',I'.turned (t':=s'.toks) (λb o hb e=>(sb.2 b hb).trans e) f0 f1 (.inr f3) f4 f5,rfl,q'⟩⟩
def rgI(wi:TI):TI:=λY H R=>wi Y H λJ H1=>J.rg=true->R J H1
def SV(S:cG X N scope cl js)(mono:∀{Y H R R'},(∀J H1,R J H1->R' J H1)->wi Y H R->wi Y H R')(hi:PI X tg j3 (rgI wi))(hg:∀C s₀ H₀ ex,PG (cxC X N scope cl C s₀ H₀ ex) tg g)(ht:∀C s₀ H₀ ex,PTs (cxC X N scope cl C s₀ H₀ ex) ifs ts)(he:∀C s₀ H₀ ex,PE (cxC X N scope cl C s₀ H₀ ex) elt te)
   (hs:∀x,foldedSetIterable j3 X.env x=pure x:=by intro _;rfl):PE X (.ListComp elt [⟨tg,j3,ifs,0⟩] scope pos) (HB (rgI wi) g ts te js):=by
 intro j0 s Y H Q I h;rw[eval_ListComp];refine wpAny_comprehension_free (use:=none) (g:=⟨tg,j3,ifs,0⟩) (gs:=[]) rfl hs S.clos S.kind S.names (thn (hi j0 s Y H (λJ H1=>J.rg=true/\∀D,H1 D=none->HN J D g ts te Q (AI js Y) (upd H1 D (.lst []))) I (mono (λJ H1 z hr=>⟨hr,z hr⟩) h)) λv s1 h1=>thn h1 λitv s2 h2=>?_);obtain⟨it,fp,tn,J,H2,e,I2,T,st2,f2,hr,q⟩:=h2;subst e;refine uC (RR:=λacc C=>compPost (model X.prog X.w) X.A X.xe none (EP X j0 Y Q) acc C) S (λz=>by rw[hr] at z;cases z) I2 T st2 f2 hg ht he q ?_;rintro D C s' ⟨H',m,I',hn,f0,f1,_,f3,f4,f5,q'⟩;exact⟨m,hn,λh' sb=>⟨.ref D,H',I'.turned (t':=s'.toks) (λb o hb e=>(sb.2 b hb).trans e) f0 f1 (.inr f3) f4 f5,rfl,q'⟩⟩
def UG(S:cG X N scope cl js)(hc:X.calm=true)(hN:X.N.Nodup)(hi':X.N[i]? =some y)(hy:X.env.scope.names.lookup y=some .local)(hi:PI X tg j3 wi)
   (hg:∀C s₀ H₀ ex,PG (cxC X N scope cl C s₀ H₀ ex) tg g) (ht:∀C s₀ H₀ ex,PTs (cxC X N scope cl C s₀ H₀ ex) ifs ts) (he:∀C s₀ H₀ ex,PE (cxC X N scope cl C s₀ H₀ ex) elt te)
   (hsw:swapsWith (.ListComp elt [⟨tg,j3,ifs,0⟩] scope pos) (some (.Name y py)) spos.line X.env=pure true:=by rfl)
   (hs:∀x,foldedSetIterable j3 X.env x=pure x:=by intro _;rfl):PS X (.Assign [.Name y py] (.ListComp elt [⟨tg,j3,ifs,0⟩] scope pos) spos) (JQ (HB wi g ts te js) (zW i)):=by
 intro j0 s Y H D' I h;rw[exec_Assign_Name_used _ _ _ _ hsw];refine wAq (wpAny_standAt (wAq ?_));show wpAny _ X.A (do let _ <-comprehension (.ListComp elt [⟨tg,j3,ifs,0⟩] scope pos) scope X.env _ (newList []) false (eval j3 X.env) (some (assign (.Name y py) X.env))) _ _ s;refine wAq (wpAny_mono (wpAny_comprehension_free (use:=some (assign (.Name y py) X.env)) (g:=⟨tg,j3,ifs,0⟩) (gs:=[]) (Q:=λ_ s'=>SP X j0 D' .next s') rfl hs S.clos S.kind S.names
   (thn (hi j0 s Y H _ I h) λv s1 h1=>thn h1 λitv s2 h2=>?_)) (λ_ s' hq=>wBq (wBq hq)) λ_ _ e=>e)
 obtain⟨it,fp,tn,J,H2,e,I2,T,st2,f2,q⟩:=h2;subst e;refine uC (Q:=λx H1=>zW i x Y H1 D'.nx) (RR:=λacc C=>compPost (model X.prog X.w) X.A X.xe (some (assign (.Name y py) X.env)) (λ_ s'=>SP X j0 D' .next s') acc C) S (λ_=>hc) I2 T st2 f2 hg ht he q ?_;rintro D C s' ⟨H',m,I',hn,f0,f1,f2',f3,f4,f5,q'⟩;obtain⟨oC,es,ep,hoC,hdC,hrC⟩:=hn;have Ip:Inv X (j0++[(C,oC)]) Y H' s':=I'.pins_of λp hp=>(List.mem_append.mp hp).elim (λz=>I'.pin p (List.mem_append_right _ z)) λz=>by
   rw[List.mem_singleton.mp z];exact⟨hoC,f0,f1,f2',λv z=>by rw[hdC] at z;cases z⟩
 show wpAny _ X.A (assign (.Name y py) X.env (.ref D)) _ _ _;refine thn (yM (i:=i) hN hi' (.inl hy) (.inr hy) _ s' Y H' (.ref D) (.ref D) _ Ip rfl q') λ_ s'' zz=>?_;obtain⟨Y',H'',I'',q''⟩:=zz;have pc:=I''.pin (C,oC) (List.mem_append_right _ (List.mem_append_right _ (List.mem_singleton.mpr rfl)));refine⟨m,⟨oC,es,ep,pc.1,hdC,hrC⟩,λh' sb=>⟨Y',H'',?_,q''⟩⟩;exact(I''.unpinned).turned (t':=s''.toks) (λb o hb e=>(sb.2 b hb).trans e) pc.2.1 f1 (.inr f3) f4 f5
end
mutual
inductive RdD(H:Hp):V->PyData->Prop
 | non:RdD H .non .none
 | bl (b:Bool):RdD H (.bl b) (.bool b)
 | int (i:Int):RdD H (.int i) (.int i)
 | str (x:Str):RdD H (.str x) (.str x)
 | tup {a:Addr} {xs:List V} {ds:List PyData}:H a=some (.tup xs)->RdDs H xs ds->RdD H (.ref a) (.tuple ds)
 | lst {a:Addr} {xs:List V} {ds:List PyData}:H a=some (.lst xs)->RdDs H xs ds->RdD H (.ref a) (.list ds)
inductive RdDs(H:Hp):List V->List PyData->Prop
 | nil:RdDs H [] []
 | cons {x:V} {xs:List V} {d:PyData} {ds:List PyData}:RdD H x d->RdDs H xs ds->RdDs H (x::xs) (d::ds)
end
section
variable{P:J7}{w:World}{H H':Hp}{h:Heap}
mutual
theorem RdD.reads(ok:HOk P w H h):∀{x:V} {d:PyData} {u:Value},RdD H x d->aM x u->∃as,Reads h u d as
 | _,_,_,.non,r=>⟨[],by cases r;exact .none⟩
 | _,_,_,.bl b,r=>⟨[],by cases r;exact .bool b⟩
 | _,_,_,.int i,r=>⟨[],by obtain⟨t,rfl⟩:=r;exact .int i t⟩
 | _,_,_,.str x,r=>⟨[],by obtain⟨t,rfl⟩:=r;exact .str x t⟩
 | _,_,_,.tup e rs,r=>by
   cases r;obtain⟨_,its,rv,⟨o,ho,hc,n,hd⟩,_⟩:=ok _ _ e;obtain⟨as,q⟩:=RdDs.reads ok rs rv;exact⟨as,.tuple ho hc hd (by simpa using q)⟩
 | _,_,_,.lst e rs,r=>by
   cases r;obtain⟨_,its,n,rv,ho⟩:=ok _ _ e;obtain⟨as,q⟩:=RdDs.reads ok rs rv;exact⟨_::as,.list ho rfl rfl (by simpa using q)⟩
theorem RdDs.reads(ok:HOk P w H h):∀{xs:List V} {ds:List PyData} {us:List Value},RdDs H xs ds->aI xs us->∃as,ReadsAll h us ds as
 | _,_,_,.nil,r=>⟨[],by cases r;exact .nil⟩
 | _,_,_,.cons a b,r=>by
   cases r with
   | cons r1 r2 =>
     obtain⟨as,q⟩:=RdD.reads ok a r1;obtain⟨bs,q2⟩:=RdDs.reads ok b r2;exact⟨as++bs,.cons q q2⟩
end
mutual
theorem RdD.same(s:aP H H'):∀{x:V} {d:PyData},RdD H x d->RdD H' x d
 | _,_,.non=>.non
 | _,_,.bl b=>.bl b
 | _,_,.int i=>.int i
 | _,_,.str x=>.str x
 | _,_,.tup e rs=>.tup (s _ _ e) (RdDs.same s rs)
 | _,_,.lst e rs=>.lst (s _ _ e) (RdDs.same s rs)
theorem RdDs.same(s:aP H H'):∀{xs:List V} {ds:List PyData},RdDs H xs ds->RdDs H' xs ds
 | _,_,.nil=>.nil
 | _,_,.cons a b=>.cons (RdD.same s a) (RdDs.same s b)
end
end
section
variable{X:Cx}
end
section
variable{X:Cx}{CX:CXT}{k:Nat}{f C:Addr}{fd:J8}{ps ks:List Str}{sp:Sp}{E:XK}{j0:List (Addr×Obj)}{Y:St}{H:Hp}{s:J5}{Q:VK}{us:List Value}{vs:List V}{dvs:List V}{ds:List Value}
end
structure VC(K:W.Frag)(C:Addr):Prop where
 cl:Cls K C
 ha:W.findIn K (.ref C) "__class__"=some (some (.builtin "object.__class__"))
 hn:W.specialIn K (.builtin "object.__class__") "__get__"=some (some (.builtin "getset_descriptor.__get__"))
 htk:W.takesIn K (.builtin "object.__class__")=some true
 hm:W.mroIn K C (.type "object")=some true
def VJ{X:Cx}{Y:St}{s:J5}{p C dx:Addr}(I:Inv X j0 Y H s)(e:H p=some (.ins C dx fs)):∃od,W.InstAt s.heap p (W.instObj C dx) C (some od):=by
 obtain⟨mA,O,_⟩:=rT I.hok e;obtain⟨od,J,_⟩:=O.look;exact⟨od,J⟩
section
variable{X:Cx}{CX:CXT}{k:Nat}{f C:Addr}{fd:J8}{sp:Sp}
end
section
variable{X:Cx}{e:Expr}{es:List Expr}{te:TE}{pos:Pos}
theorem uM{α β:Type}{f g:α->Option β}:∀(l:List α),(∀x∈l,f x=g x)->l.filterMap f=l.filterMap g
 | [],_=>rfl
 | x::r,h=>by
   rw[List.filterMap_cons,List.filterMap_cons,h x (wDq ..),uM r λy hy=>h y (wCq _ hy)]
theorem mD{α:Type}:∀m:List α,(List.range m.length).filterMap (λk=>m[k]?)=m
 | []=>rfl
 | x::r=>by
   rw[List.length_cons,List.range_succ_eq_map,List.filterMap_cons];simp only[List.getElem?_cons_zero,List.filterMap_map];have e:((λk=>(x::r)[k]?)∘Nat.succ)=λk=>r[k]? :=by funext k;rfl
   rw[e,mD r]
def QH(its:List Value):slicePick its.toArray none none (some (-1))=its.reverse.toArray:=by
 unfold slicePick
 congr 1
 have e:sliceRange (sliceBounds none none (some (-1)) its.toArray.size).1 (sliceBounds none none (some (-1)) its.toArray.size).2.1 (sliceBounds none none (some (-1)) its.toArray.size).2.2=(List.range its.length).map λk=>its.length-1-k:=by
   simp only[sliceBounds,Option.getD_some,wIq];rw[j9 ddq,j9 ddq];unfold sliceRange;dsimp only;rw[j9 ddq];have c:(if (its.length:Int)-1 > -1 then((its.length:Int)-1 - -1 - -1-1)/(- -1) else 0).toNat=its.length:=by
     rw[show(- -1:Int)=1 from rfl,Int.ediv_one];split<;>omega
   rw[c];refine List.map_congr_left λk hk=>?_;omega
 rw[e,List.filterMap_map];have e2:(List.range its.length).filterMap ((λx=>its.toArray[x]?)∘λk=>its.length-1-k)=(List.range its.reverse.length).filterMap (λk=>its.reverse[k]?):=by
   rw[List.length_reverse];refine uM _ λk hk=>?_;have hk':k<its.length:=List.mem_range.mp hk;show its.toArray[its.length-1-k]? =_;rw[List.getElem?_reverse hk'];simp
 rw[e2,mD]
end
end L2
namespace LE
open PySem PyProof.Rows
open AutoSeq1 (wpAny_loadPart')
def KJ(l:Addr)(o:Obj)(items:Array Value)(n:Nat)(hc:o.cls= .type "tuple")(hd:o.data= .seq items n)(k:Int)(u:Tok)(h1:¬(decide (k < -(2^63))||decide (k≥2^63))=true)(h2:¬(items.isEmpty||k==1)=true)(h3:¬(decide (k<=0)||items.isEmpty)=true)
   (h4:¬(items.size*k>(2^63-1)/8)) (h5:¬Builtin.Tuple.tupleTooMany (items.size*k)=true) (h6:(List.foldl (λx1 x2=>x1++x2) #[] (List.replicate k.toNat items)).size<=sizeLine) :
   Meets (Builtin.«tuple.__mul__» ⟨[.ref l,.int k u],[]⟩) (λ_ R s=>s.heap.get? l=some o/\
     R (.ok (.ret (.ref s.heap.objs.size))) {s with heap:=s.heap.push {cls:=.type "tuple",data:=.seq (List.foldl (λx1 x2=>x1++x2) #[] (List.replicate k.toNat items))}}) :=
 .of_wp λprog w A R s h=>by
   obtain⟨hp,g,d,tk,os⟩:=s;obtain⟨oc,od,dt,sl⟩:=o
   replace hc:oc= .type "tuple":=hc
   replace hd:dt= .seq items n:=hd
   subst hc hd;obtain⟨hl,h⟩:=h
   wp_walk using wpAny_loadPart' hl
   rw[j9 h1]
   wp_walk using wpAny_loadPart' hl
   rw[j9 h4];dsimp only;rw[j9 h5]
   wp_walk
   exact⟨_,rfl,h⟩
def jT(a:Int)(t:Tok)(l:Addr)(o:Obj)(hc:o.cls= .type "tuple")(hd:o.data= .seq items n) :
   Meets (Builtin.«int.__rmul__» ⟨[.int a t,.ref l],[]⟩) (λ_ R s=>s.heap.get? l=some o/\R (.ok (.ret Value.notImplemented)) s) :=
 .of_wp λprog w A R s h=>by
   obtain⟨hp,g,d,tk,os⟩:=s;obtain⟨oc,od,dt,sl⟩:=o
   replace hc:oc= .type "tuple":=hc
   replace hd:dt= .seq items n:=hd
   subst hc hd;obtain⟨hl,h⟩:=h
   wp_walk
   exact⟨_,rfl,h⟩
def hZ:fillsNumberSlot (.type "tuple") "mul"=pure false :=
 PySem.fillsNumberSlot_seq (id:="tuple.__mul__") (r:=some (.builtin "tuple.__rmul__")) F.slot_tuple_mul.lookup (by decide +kernel) F.slot_tuple_rmul.lookup (by decide +kernel)
def mO:seqRepeat? (.type "tuple")=pure (some (.builtin "tuple.__mul__")):=by
 unfold seqRepeat?;rw[PySem.seqSlot_of (T:="tuple") (name:="__mul__") (id:="tuple.__mul__") F.slot_tuple_mul.lookup (by decide +kernel),PySem.seqSlot_of (T:="tuple") (name:="__rmul__") (id:="tuple.__rmul__") F.slot_tuple_rmul.lookup (by decide +kernel)];rfl
end LE
namespace L2
open PySem PySem.Spec PyProof.Rows
section
variable{X:Cx}{CX:CXT}{k:Nat}{f C:Addr}{fd:J8}{ps ks:List Str}{sp:Sp}{E:XK}{x:Str}{p pos:Pos}{kws:List Keyword}{tk:TA}{g:List Value->List Value->List Value}{gV:List V->List V->List V}
end
section
variable{X:Cx}{C:Addr}{f x:Str}{pos pos':Pos}{e o value:Expr}{ta tv:TE}{i:Int}
def PE.imp{t t':TE}(h:PE X e t)(g:∀Y H Q,t' Y H Q->t Y H Q):PE X e t':=λj0 s Y H Q I q=>h j0 s Y H Q I (g _ _ _ q)
def PS.imp{st:Stmt}{t t':TS}(h:PS X st t)(g:∀D Y H,t' D Y H->t D Y H):PS X st t':=λj0 s Y H D I q=>h j0 s Y H D I (g _ _ _ q)
end
section
variable{X:Cx}{es:List Expr}{te:TE}{t:TA}{pos:Pos}
end
end L2
namespace LZ
open PySem PyProof.Rows
open AutoSeq1 (wpAny_loadPart')
open Builtin
structure Zr where
 it:Addr
 l:Addr
 b:Bool
 xs:Array Value
def ZIt(h:Heap)(r:Zr)(k:Nat):Prop:=if r.b=true then h.IsTupleIter r.it r.l k else h.IsListIter r.it r.l k
def ZAt(h:Heap)(r:Zr):Prop:=if r.b=true then h.IsTuple r.l r.xs else h.IsList r.l r.xs
def ZIt.keep(a:ZIt h r k)(q:∀o,h.get? r.it=some o->h'.get? r.it=some o):ZIt h' r k:=by
 unfold ZIt at *;split
 . rename_i e;rw[ja e] at a;exact a.at λo z=>q o z
 . rename_i e;rw[j9 e] at a;exact a.at λo z=>q o z
def ZAt.keep(a:ZAt h r)(q:∀o,h.get? r.l=some o->h'.get? r.l=some o):ZAt h' r:=by
 unfold ZAt at *;split
 . rename_i e;rw[ja e] at a;obtain⟨o,z,t⟩:=a;exact⟨o,q o z,t⟩
 . rename_i e;rw[j9 e] at a;obtain⟨o,z,t⟩:=a;exact⟨o,q o z,t⟩
def ZIt.lt(a:ZIt h r k):∃o,h.get? r.it=some o:=by
 unfold ZIt at a;split at a
 . obtain⟨o,z,_⟩:=a;exact⟨o,z⟩
 . obtain⟨o,z,_⟩:=a;exact⟨o,z⟩
section
variable{prog:J7}{w:World}{A:Around}{E:Value->J5->Prop}{s:J5}
def ZN(a:ZIt s.heap r k)(b:ZAt s.heap r)(c:r.xs[k]? =some x)(q:∀h',ZIt h' r (k+1)->Heap.SameBut r.it s.heap h'->Q x {s with heap:=h'}) :
   wpAny (model prog w) A (SmallTypes.nextOf (.ref r.it)) Q E s:=by
 unfold ZIt at a q;unfold ZAt at b;cases e:r.b with
 | true =>
   rw[e,ja rfl] at a b;exact LE.ZP a b c λh' z t=>q h' (by rw[e,ja rfl];exact z) t
 | false =>
   rw[e,j9 ddq] at a b;exact wpAny_nextOf_list_item a b c λh' z t=>q h' (by rw[e,j9 ddq];exact z) t
def aFe(hh:A.handled=none)(a:ZIt s.heap r k)(b:ZAt s.heap r)(c:r.xs[k]? =none)
   (q:∀h' e,Heap.ExtBut r.it s.heap h'->(∃o,h'.get? e=some o/\o.cls= .type "StopIteration")->E (.ref e) {s with heap:=h'}):wpAny (model prog w) A (SmallTypes.nextOf (.ref r.it)) Q E s:=by
 unfold ZIt at a;unfold ZAt at b;cases e:r.b with
 | true=>rw[e,ja rfl] at a b;exact LE.aBA hh a b c q
 | false=>rw[e,j9 ddq] at a b;exact wpAny_nextOf_list_end hh a b c q
def aEo(b:ZAt s.heap r)(q:∀h',ZIt h' {r with it:=s.heap.objs.size} 0->h'.objs.size=s.heap.objs.size+1->(∀c o,s.heap.get? c=some o->h'.get? c=some o)->Q (.ref s.heap.objs.size) {s with heap:=h'}) :
   wpAny (model prog w) A (pyIter (.ref r.l)) Q E s:=by
 unfold ZIt at q;unfold ZAt at b;cases e:r.b with
 | true =>
   rw[e,ja rfl] at b;refine wpAny_pyIter_tuple b (q _ ?_ (Heap.size_push ..) λc o z=>wEq _ z);rw[ja e];exact⟨_,wGq _ rfl,rfl,rfl⟩
 | false =>
   rw[e,j9 ddq] at b;refine wpAny_pyIter_list b (q _ ?_ (Heap.size_push ..) λc o z=>wEq _ z);rw[j9 (by rw[e];decide)];exact⟨_,wGq _ rfl,rfl,rfl⟩
end
theorem wZ{M:Model}{A:Around}{E:Value->J5->Prop}{α β:Type}{f:α×Nat->β->Sem (ForInStep β)}{u:β}(I:Nat->J5->Prop):∀(xs:List α) (j:Nat) (s:J5) (Q:β->J5->Prop),I j s->
   (∀i x s,xs[i]? =some x->I (j+i) s->wpAny M A (f (x,j+i) u) (λst s'=>st= .yield u/\I (j+i+1) s') E s)->(∀s',I (j+xs.length) s'->Q u s')->wpAny M A (forIn (xs.zipIdx j) u f) Q E s
 | [],j,s,Q,h,_,q=>by
   rw[List.zipIdx_nil,List.forIn_nil];exact wBq (q s h)
 | x::r,j,s,Q,h,hs,q=>by
   rw[List.zipIdx_cons,List.forIn_cons];refine wAq (wpAny_mono (hs 0 x s rfl h) (λst s' zz=>?_) λ_ _ z=>z);obtain⟨e,h'⟩:=zz;subst e;exact wZ I r (j+1) s' Q h' (λi y s hy hi=>by
     have:=hs (i+1) y s hy (by rw[show j+(i+1)=j+1+i by omega];exact hi);rw[show j+(i+1)=j+1+i by omega] at this;exact this) λs' z=>q s' (by rw[List.length_cons,show j+(r.length+1)=j+1+r.length by omega];exact z)
structure Ap(z TI TO:Addr)(rs:List Zr):Prop where
 nd:(rs.map Zr.it).Nodup
 zi:∀r∈rs,r.it≠z/\r.it≠TO/\r.it≠TI
 zl:∀r∈rs,r.l≠z/\r.l≠TO
 li:∀r∈rs,∀t∈rs,r.l≠t.it
 zo:TO≠z
 zt:TI≠z
 ot:TI≠TO
def IsT(h:Heap)(a:Addr)(ys:Array Value):Prop:=h.get? a=some {cls:=.type "tuple",data:=.seq ys}
structure Zs(h:Heap)(z TI TO:Addr)(rs:List Zr)(k:Nat):Prop where
 z:IsZip h z TI TO .none
 ti:IsT h TI (rs.map λr=>Value.ref r.it).toArray
 to_:∃ys,ys.size=rs.length/\IsT h TO ys
 it:∀r∈rs,ZIt h r k
end LZ
namespace LZ
open PySem PyProof.Rows
open Builtin
section
variable{prog:J7}{w:World}{A:Around}{E:Value->J5->Prop}{s:J5}
def upT(h:IsT s.heap a ys)(hz:ys.size<=64)(q:∀h',IsT h' a (ys.setIfInBounds k x)->Heap.SameBut a s.heap h'->Q () {s with heap:=h'}) :
   wpAny (model prog w) A (updateSeq a (·.setIfInBounds k x)) Q E s:=by
 have hz':ys.size<=sizeLine:=Nat.le_trans hz ddq;refine wpAny_updateSeq h rfl (q _ ?_ (Heap.SameBut.update ..)) hz' (by rw[Array.size_setIfInBounds];omega);unfold IsT at *;rw[Heap.get?_update_self _ h rfl];simp[Obj.mapSeq]
structure Mid(h:Heap)(z TI TO:Addr)(rs:List Zr)(k:Nat)(vs:List Value)(j:Nat)(g:Heap):Prop where
 zz:IsZip g z TI TO .ellipsis
 to_:∃ys,ys.size=rs.length/\IsT g TO ys/\∀i,i<j->ys[i]? =vs[i]?
 lo:∀i r,rs[i]? =some r->i<j->ZIt g r (k+1)
 hi:∀i r,rs[i]? =some r->j<=i->ZIt g r k
 at_:∀r∈rs,ZAt g r
 sz:g.objs.size=h.objs.size
 fr:∀c o,c≠z->c≠TO->(∀r∈rs,c≠r.it)->h.get? c=some o->g.get? c=some o
def SF{rs:List Zr}(nd:(rs.map Zr.it).Nodup){i j:Nat}{r t:Zr}(hi:rs[i]? =some r)(hj:rs[j]? =some t)(ne:i≠j):r.it≠t.it:=by
 intro e;obtain⟨hi1,hi2⟩:=List.getElem?_eq_some_iff.mp hi;obtain⟨hj1,hj2⟩:=List.getElem?_eq_some_iff.mp hj;have hp:=List.pairwise_iff_getElem.mp nd;rcases Nat.lt_or_gt_of_ne ne with q|q
 . exact hp i j (by rw[List.length_map];exact hi1) (by rw[List.length_map];exact hj1) q (by simp only[List.getElem_map];rw[hi2,hj2];exact e)
 . exact hp j i (by rw[List.length_map];exact hj1) (by rw[List.length_map];exact hi1) q (by simp only[List.getElem_map];rw[hi2,hj2];exact e.symm)
def MQ{rs:List Zr}{vs:List Value}{Q:Value->J5->Prop}(D:Ap z TI TO rs)(hn:rs≠[])(hl:rs.length<=8)(S:Zs s.heap z TI TO rs k)(at_:∀r∈rs,ZAt s.heap r)(hv:vs.length=rs.length)(hx:∀(i:Nat) (r:Zr),rs[i]? =some r->r.xs[k]? =vs[i]?)
   (hQ:∀h',IsZip h' z TI TO (rawInt s.heap.objs.size)->IsT h' TO vs.toArray->(∀r∈rs,ZIt h' r (k+1))->IsT h' s.heap.objs.size vs.toArray->h'.objs.size=s.heap.objs.size+1->
     (∀c o,c≠z->c≠TO->(∀r∈rs,c≠r.it)->s.heap.get? c=some o->h'.get? c=some o)->Q (.ref s.heap.objs.size) {s with heap:=h'}) :
   wpAny (model prog w) A (Builtin.«zip.__next__» ⟨[.ref z],[]⟩) (λfin s'=>∃v,fin= .done (.ret v)/\Q v s') E s:=by
 obtain⟨hz,hTI,⟨ys0,hy0,hTO⟩,hit⟩:=S;have hl64:rs.length<=64:=Nat.le_trans hl ddq;refine wAq (m:=field (.ref z) 2) (wpAny_field hz rfl (x:=.bool false) rfl ?_);refine wAq (m:=field (.ref z) 3) (wpAny_field hz rfl (x:=.ref TI) rfl ?_);refine wAq (wpAny_seqItems hTI rfl ?_);have ne:((rs.map λr=>Value.ref r.it).toArray.isEmpty)=false:=by cases rs with|nil=>exact absurd rfl hn|cons a b=>rfl
 simp only[ne,Bool.false_eq_true,if_false];refine wAq (m:=SmallTypes.ownedTupleIsFree (.ref z)) ?_;unfold SmallTypes.ownedTupleIsFree;refine wAq (wpAny_field hz rfl (x:=.none) rfl (wBq ?_));simp only[if_true];refine wAq (wpAny_rule (wAq (wpAny_field hz rfl (x:=.ref TO) rfl (wAq (wpAny_setField_rec hz (by simp) λh1 hz1 hs1=>?_)))))
 replace hz1:IsZip h1 z TI TO .ellipsis:=hz1
 have m0:Mid s.heap z TI TO rs k vs 0 h1:=⟨hz1,⟨ys0,hy0,hs1.extBut _ _ D.zo hTO,λi hi=>absurd hi (Nat.not_lt_zero _)⟩,λi r _ hi=>absurd hi (Nat.not_lt_zero _),
   λi r hr _=>(hit r (List.mem_of_getElem? hr)).keep λo q=>hs1.extBut _ _ (D.zi r (List.mem_of_getElem? hr)).1 q,λr hr=>(at_ r hr).keep λo q=>hs1.extBut _ _ (D.zl r hr).1 q,hs1.1,λc o c1 _ _ q=>hs1.extBut _ _ c1 q⟩
 refine wAq (wZ (λj s'=>∃g,s'={s with heap:=g}/\Mid s.heap z TI TO rs k vs j g) _ 0 _ _ ⟨h1,rfl,m0⟩ ?_ ?_)
 . rintro i x _ hxi ⟨g,rfl,m⟩;rw[Nat.zero_add] at m ⊢;rw[List.getElem?_map] at hxi;cases hr:rs[i]? with
   | none=>rw[hr] at hxi;cases hxi
   | some r =>
     rw[hr] at hxi;have e:x= .ref r.it:=(Option.some.inj hxi).symm;subst e;have hm:=List.mem_of_getElem? hr;have hi:i<rs.length:=(List.getElem?_eq_some_iff.mp hr).1;have hvi:vs[i]? =some (vs[i]'ooq):=by simp
     refine wAq (wpAny_onRaise (wAq (m:=SmallTypes.nextOf (.ref r.it)) (ZN (m.hi i r hr (Nat.le_refl _)) (m.at_ r hm) ((hx i r hr).trans hvi) λh2 hi2 hs2=>wBq ?_)));obtain⟨ys,hy,hT,hlo⟩:=m.to_;have hT2:IsT h2 TO ys:=hs2.extBut _ _ (Ne.symm (D.zi r hm).2.1) hT;refine wAq (wpAny_seqItems hT2 rfl (wAq (upT hT2 ooq λh3 hT3 hs3=>wAq (wpAny_letGo (wBq ⟨rfl,h3,rfl,?_⟩)))));have fr3:∀c o,c≠TO->c≠r.it->g.get? c=some o->h3.get? c=some o:=λc o c1 c2 q=>hs3.extBut _ _ c1 (hs2.extBut _ _ c2 q);refine⟨fr3 _ _ (Ne.symm D.zo) (Ne.symm (D.zi r hm).1) m.zz,⟨_,by rw[Array.size_setIfInBounds];exact hy,hT3,λj hj=>?_⟩,λj t ht hj=>?_,λj t ht hj=>?_,λt ht=>(m.at_ t ht).keep λo q=>fr3 _ _ (D.zl t ht).2 (D.li t ht r hm) q,by rw[hs3.1,hs2.1];exact m.sz,λc o c1 c2 c3 q=>fr3 c o c2 (c3 r hm) (m.fr c o c1 c2 c3 q)⟩
     . rw[Array.getElem?_setIfInBounds];by_cases e:i=j
       . subst e;rw[ja rfl,ja ooq,hvi]
       . rw[j9 e];exact hlo j ooq
     . by_cases e:j=i
       . subst e;rw[hr] at ht;cases ht;exact hi2.keep λo q=>hs3.extBut _ _ (D.zi r hm).2.1 q
       . exact(m.lo j t ht ooq).keep λo q=>fr3 _ _ (D.zi t (List.mem_of_getElem? ht)).2.1 (SF D.nd ht hr e) q
     . exact(m.hi j t ht ooq).keep λo q=>fr3 _ _ (D.zi t (List.mem_of_getElem? ht)).2.1 (SF D.nd ht hr ooq) q
 . rintro _ ⟨g,rfl,m⟩;rw[Nat.zero_add,List.length_map] at m;obtain⟨ys,hy,hT,hlo⟩:=m.to_;have ey:ys=vs.toArray:=by
     refine Array.ext' (List.ext_getElem? λj=>?_);by_cases hj:j<rs.length
     . have:=hlo j hj;rw[<-Array.getElem?_toList] at this;exact this
     . rw[List.getElem?_eq_none (by rw[Array.length_toList];omega),List.getElem?_eq_none (by rw[List.toList_toArray];omega)]
   subst ey;refine wAq (m:=seqItems? (.ref TO)) (wpAny_seqItems hT rfl ?_);refine wAq (m:=newTuple _) (wpAny_newTuple ?_ (by rw[List.toList_toArray];exact Nat.le_trans (by omega:vs.length<=8) ddq));have zlt:z<g.objs.size:=Heap.lt_size m.zz;refine wAq (m:=SmallTypes.ownedTupleHandOut (.ref z) (.ref g.objs.size)) ?_;unfold SmallTypes.ownedTupleHandOut;have hz6:IsZip (g.push {cls:=.type "tuple",data:=.seq vs.toArray.toList.toArray}) z TI TO .ellipsis:=wEq _ m.zz;refine wAq (wpAny_setField_rec hz6 (by simp) λh7 hz7 hs7=>wpAny_setField_rec hz7 (by simp) λh8 hz8 hs8=>wBq ⟨_,rfl,?_⟩);have up:∀c o,c≠z->g.get? c=some o->h8.get? c=some o:=λc o c1 q=>hs8.extBut _ _ c1 (hs7.extBut _ _ c1 (wEq _ q));have gz:g.objs.size=s.heap.objs.size:=m.sz;have hT8:IsT h8 g.objs.size vs.toArray:=hs8.extBut _ _ (Nat.ne_of_gt zlt) (hs7.extBut _ _ (Nat.ne_of_gt zlt) (wGq _ rfl));have z8:h8.objs.size=g.objs.size+1:=by rw[hs8.1,hs7.1,Heap.size_push]
   replace hz8:IsZip h8 z TI TO (rawInt g.objs.size):=hz8
   show Q (.ref g.objs.size) _;rw[gz] at hz8 hT8 z8;rw[gz];refine hQ h8 hz8 (up _ _ D.zo hT) (λr hr=>?_) hT8 z8 λc o c1 c2 c3 q=>up c o c1 (m.fr c o c1 c2 c3 q);obtain⟨i,hi,er⟩:=List.getElem_of_mem hr;exact(m.lo i r (by rw[wHq hi,er]) hi).keep λo q=>up _ o (D.zi r hr).1 q
def UW(hh:A.handled=none)(D:Ap z TI TO (r::rs))(S:Zs s.heap z TI TO (r::rs) k)(at_:ZAt s.heap r)(hx:r.xs[k]? =none)
   (hE:∀h' e,(∀c o,c≠z->c≠r.it->s.heap.get? c=some o->h'.get? c=some o)->(∃o,h'.get? e=some o/\o.cls= .type "StopIteration")->E (.ref e) {s with heap:=h'}) :
   wpAny (model prog w) A (Builtin.«zip.__next__» ⟨[.ref z],[]⟩) Q E s:=by
 obtain⟨hz,hTI,⟨ys0,hy0,hTO⟩,hit⟩:=S;refine wAq (m:=field (.ref z) 2) (wpAny_field hz rfl (x:=.bool false) rfl ?_);refine wAq (m:=field (.ref z) 3) (wpAny_field hz rfl (x:=.ref TI) rfl ?_);refine wAq (wpAny_seqItems hTI rfl ?_);have ne:(((r::rs).map λr=>Value.ref r.it).toArray.isEmpty)=false:=rfl;simp only[ne,Bool.false_eq_true,if_false];refine wAq (m:=SmallTypes.ownedTupleIsFree (.ref z)) ?_;unfold SmallTypes.ownedTupleIsFree;refine wAq (wpAny_field hz rfl (x:=.none) rfl (wBq ?_));simp only[if_true];refine wAq (wpAny_rule (wAq (wpAny_field hz rfl (x:=.ref TO) rfl (wAq (wpAny_setField_rec hz (by simp) λh1 hz1 hs1=>?_)))))
 replace hz1:IsZip h1 z TI TO .ellipsis:=hz1
 refine wAq ?_;simp only[List.map_cons,List.zipIdx_cons,List.forIn_cons];refine wAq (wAq (wpAny_onRaise (wAq (m:=SmallTypes.nextOf (.ref r.it)) (aFe hh ((hit r (wDq ..)).keep λo q=>hs1.extBut _ _ (D.zi r (wDq ..)).1 q) (at_.keep λo q=>hs1.extBut _ _ (D.zl r (wDq ..)).1 q) hx λh2 e hs2 he=>?_))));obtain⟨oe,hoe,hce⟩:=he;have hz2:IsZip h2 z TI TO .ellipsis:=hs2 _ _ (Ne.symm (D.zi r (wDq ..)).1) hz1;have hez:e≠z:=λx=>by subst x;rw[hz2] at hoe;cases hoe;simp at hce
 exact wpAny_setField_rec hz2 (by simp) λh3 _ hs3=>hE h3 e (λc o c1 c3 x=>hs3.extBut _ _ c1 (hs2 _ _ c3 (hs1.extBut _ _ c1 x))) ⟨oe,hs3.extBut _ _ hez hoe,hce⟩
def ST(hh:A.handled=none)(D:Ap z TI TO (r::t::rs))(hl:(r::t::rs).length<=8)(S:Zs s.heap z TI TO (r::t::rs) k)(ar:ZAt s.heap r)(at_:ZAt s.heap t)(hr:r.xs[k]? =some x)(hx:t.xs[k]? =none)
   (hE:∀h' e,(∀c o,c≠z->c≠TO->c≠r.it->c≠t.it->s.heap.get? c=some o->h'.get? c=some o)->(∃o,h'.get? e=some o/\o.cls= .type "StopIteration")->E (.ref e) {s with heap:=h'}) :
   wpAny (model prog w) A (Builtin.«zip.__next__» ⟨[.ref z],[]⟩) Q E s:=by
 obtain⟨hz,hTI,⟨ys0,hy0,hTO⟩,hit⟩:=S;have m0:r∈r::t::rs:=wDq ..;have m1:t∈r::t::rs:=wCq _ (wDq ..);have ne01:t.it≠r.it:=SF D.nd (i:=1) (j:=0) rfl rfl ddq;refine wAq (m:=field (.ref z) 2) (wpAny_field hz rfl (x:=.bool false) rfl ?_);refine wAq (m:=field (.ref z) 3) (wpAny_field hz rfl (x:=.ref TI) rfl ?_);refine wAq (wpAny_seqItems hTI rfl ?_);have ne:(((r::t::rs).map λr=>Value.ref r.it).toArray.isEmpty)=false:=rfl;simp only[ne,Bool.false_eq_true,if_false];refine wAq (m:=SmallTypes.ownedTupleIsFree (.ref z)) ?_;unfold SmallTypes.ownedTupleIsFree;refine wAq (wpAny_field hz rfl (x:=.none) rfl (wBq ?_));simp only[if_true];refine wAq (wpAny_rule (wAq (wpAny_field hz rfl (x:=.ref TO) rfl (wAq (wpAny_setField_rec hz (by simp) λh1 hz1 hs1=>?_)))))
 replace hz1:IsZip h1 z TI TO .ellipsis:=hz1
 refine wAq ?_;simp only[List.map_cons,List.zipIdx_cons,List.forIn_cons];refine wAq (wAq (wpAny_onRaise (wAq (m:=SmallTypes.nextOf (.ref r.it)) (ZN ((hit r m0).keep λo q=>hs1.extBut _ _ (D.zi r m0).1 q) (ar.keep λo q=>hs1.extBut _ _ (D.zl r m0).1 q) hr λh2 hi2 hs2=>wBq ?_))));have hT2:IsT h2 TO ys0:=hs2.extBut _ _ (Ne.symm (D.zi r m0).2.1) (hs1.extBut _ _ D.zo hTO);refine wAq (wpAny_seqItems hT2 rfl (wAq (upT hT2 (by rw[hy0];exact Nat.le_trans hl ddq) λh3 hT3 hs3=>wAq (wpAny_letGo (wBq ?_)))));have fr3:∀c o,c≠z->c≠TO->c≠r.it->s.heap.get? c=some o->h3.get? c=some o:=λc o c0 c1 c2 q=>hs3.extBut _ _ c1 (hs2.extBut _ _ c2 (hs1.extBut _ _ c0 q));have hz3:IsZip h3 z TI TO .ellipsis:=hs3.extBut _ _ (Ne.symm D.zo) (hs2.extBut _ _ (Ne.symm (D.zi r m0).1) hz1);refine wAq (wAq (wpAny_onRaise (wAq (m:=SmallTypes.nextOf (.ref t.it)) (aFe hh ((hit t m1).keep λo q=>fr3 _ _ (D.zi t m1).1 (D.zi t m1).2.1 ne01 q) (at_.keep λo q=>fr3 _ _ (D.zl t m1).1 (D.zl t m1).2 (D.li t m1 r m0) q) hx λh4 e hs4 he=>?_))));obtain⟨oe,hoe,hce⟩:=he;have hz4:IsZip h4 z TI TO .ellipsis:=hs4 _ _ (Ne.symm (D.zi t m1).1) hz3;have hez:e≠z:=λx=>by subst x;rw[hz4] at hoe;cases hoe;simp at hce
 exact wpAny_setField_rec hz4 (by simp) λh5 _ hs5=>hE h5 e (λc o c1 c2 c3 c4 x=>hs5.extBut _ _ c1 (hs4 _ _ c4 (fr3 c o c1 c2 c3 x))) ⟨oe,hs5.extBut _ _ hez hoe,hce⟩
def LL{rs:List Zr}{vs:List Value}(D:Ap z TI TO rs)(hn:rs≠[])(hl:rs.length<=8)(S:Zs s.heap z TI TO rs k)(at_:∀r∈rs,ZAt s.heap r)(hv:vs.length=rs.length)(hx:∀(i:Nat) (r:Zr),rs[i]? =some r->r.xs[k]? =vs[i]?)
   (hQ:∀h',IsZip h' z TI TO (rawInt s.heap.objs.size)->IsT h' TO vs.toArray->(∀r∈rs,ZIt h' r (k+1))->IsT h' s.heap.objs.size vs.toArray->h'.objs.size=s.heap.objs.size+1->
     (∀c o,c≠z->c≠TO->(∀r∈rs,c≠r.it)->s.heap.get? c=some o->h'.get? c=some o)->Q (some (.ref s.heap.objs.size)) {s with heap:=h'}) :
   wpAny (model prog w) A (pyNext (.ref z)) Q E s:=by
 have hT:s.TypeIs (.ref z) "zip":=⟨_,S.z,rfl⟩;unfold pyNext;exact wAq (wpAny_attempt (wpAny_callSpecial?_slot (name:=Str.ofString "__next__") hT F.slot_zip_next (wpAny_call_entry F.slot_zip_next hT F.entry_zip_next (MQ D hn hl S at_ hv hx λh' a1 a2 a3 a4 a5 a6=>wBq (hQ h' a1 a2 a3 a4 a5 a6)) (F.args_zip_next_1 _))))
def NQ(hh:A.handled=none)(D:Ap z TI TO (r::rs))(S:Zs s.heap z TI TO (r::rs) k)(at_:ZAt s.heap r)(hx:r.xs[k]? =none)
   (hQ:∀h',(∀c o,c≠z->c≠r.it->s.heap.get? c=some o->h'.get? c=some o)->Q none {s with heap:=h'}):wpAny (model prog w) A (pyNext (.ref z)) Q E s:=by
 have hT:s.TypeIs (.ref z) "zip":=⟨_,S.z,rfl⟩;unfold pyNext;refine wAq (wpAny_attempt (wpAny_callSpecial?_slot (name:=Str.ofString "__next__") hT F.slot_zip_next (wpAny_call_entry F.slot_zip_next hT F.entry_zip_next (UW hh D S at_ hx λh' e hk ⟨o,ho,hc⟩=>?_) (F.args_zip_next_1 _))));exact wAq (wpAny_isInstance (T:="StopIteration") (b:=true) ⟨o,ho,hc⟩ isSubtype_stop (wBq (hQ _ hk)))
def LI(hh:A.handled=none)(D:Ap z TI TO (r::t::rs))(hl:(r::t::rs).length<=8)(S:Zs s.heap z TI TO (r::t::rs) k)(ar:ZAt s.heap r)(at_:ZAt s.heap t)(hr:r.xs[k]? =some x)(hx:t.xs[k]? =none)
   (hQ:∀h',(∀c o,c≠z->c≠TO->c≠r.it->c≠t.it->s.heap.get? c=some o->h'.get? c=some o)->Q none {s with heap:=h'}):wpAny (model prog w) A (pyNext (.ref z)) Q E s:=by
 have hT:s.TypeIs (.ref z) "zip":=⟨_,S.z,rfl⟩;unfold pyNext;refine wAq (wpAny_attempt (wpAny_callSpecial?_slot (name:=Str.ofString "__next__") hT F.slot_zip_next (wpAny_call_entry F.slot_zip_next hT F.entry_zip_next (ST hh D hl S ar at_ hr hx λh' e hk ⟨o,ho,hc⟩=>?_) (F.args_zip_next_1 _))));exact wAq (wpAny_isInstance (T:="StopIteration") (b:=true) ⟨o,ho,hc⟩ isSubtype_stop (wBq (hQ _ hk)))
end
end LZ
namespace LZ
open PySem PyProof.Rows
open Builtin
section
variable{prog:J7}{w:World}{A:Around}{E:Value->J5->Prop}
def BK(hf:∀x acc,f x acc=(do let v <-holding acc.toList (pyIter x);pure (.yield (acc.push v)))):∀(rs:List Zr) (acc:Array Value) (s:J5) (Q:Array Value->J5->Prop),
   (∀r∈rs,ZAt s.heap r)->(∀(j:Nat) (r:Zr),rs[j]? =some r->r.it=s.heap.objs.size+j)->
   (∀h',h'.objs.size=s.heap.objs.size+rs.length->(∀r∈rs,ZIt h' r 0)->(∀c o,s.heap.get? c=some o->h'.get? c=some o)->Q (acc++(rs.map λr=>Value.ref r.it).toArray) {s with heap:=h'})->
   wpAny (model prog w) A (forIn (rs.map λr=>Value.ref r.l) acc f) Q E s
 | [],acc,s,Q,_,_,q=>by
   rw[List.map_nil,List.forIn_nil];refine wBq ?_;have:=q s.heap rfl (λ_ z=>nomatch z) (λ_ _ z=>z);simpa using this
 | r::rs,acc,s,Q,hat,hid,q=>by
   rw[List.map_cons,List.forIn_cons,hf];have e0:r.it=s.heap.objs.size:=hid 0 r rfl;refine wAq (wAq (wpAny_holding (aEo (r:=r) (hat r (wDq ..)) λh' hi hz hk=>wBq ?_)));have e1:({r with it:=s.heap.objs.size}:Zr)=r:=by rw[<-e0]
   rw[e1] at hi;refine BK hf rs _ _ Q (λt ht=>(hat t (wCq _ ht)).keep λo z=>hk _ o z) (λj t ht=>?_) λh2 hz2 hi2 hk2=>?_
   . rw[hid (j+1) t ht];show _=h'.objs.size+j;rw[hz];omega
   . have:=q h2 (by rw[List.length_cons,hz2];show h'.objs.size+_=_;rw[hz];omega) (λt ht=>?_) (λc o z=>hk2 c o (hk c o z))
     . rw[<-e0];simpa using this
     . rcases List.mem_cons.mp ht with z|z
       . subst z;exact hi.keep λo z=>hk2 _ o z
       . exact hi2 t z
def KU(rs:List Zr)(hl:rs.length<=8):Meets (Builtin.«zip.__new__» ⟨.type "zip"::(rs.map λr=>Value.ref r.l),[]⟩) (λ_ R s=>(∀r∈rs,ZAt s.heap r)/\(∀(j:Nat) (r:Zr),rs[j]? =some r->r.it=s.heap.objs.size+j)/\
     ∀h',IsZip h' (s.heap.objs.size+rs.length+2) (s.heap.objs.size+rs.length) (s.heap.objs.size+rs.length+1) .none->IsT h' (s.heap.objs.size+rs.length) (rs.map λr=>Value.ref r.it).toArray->IsT h' (s.heap.objs.size+rs.length+1) (rs.map λ_=>Value.none).toArray->
       (∀r∈rs,ZIt h' r 0)->h'.objs.size=s.heap.objs.size+rs.length+3->(∀c o,s.heap.get? c=some o->h'.get? c=some o)->R (.ok (.ret (.ref (s.heap.objs.size+rs.length+2)))) {s with heap:=h'}) :=
 .of_wp<|by
   rintro prog w A R s ⟨hat,hid,h⟩;have hl':rs.length<=sizeLine:=Nat.le_trans hl ddq;have fin:∀h1,h1.objs.size=s.heap.objs.size+rs.length->(∀r∈rs,ZIt h1 r 0)->(∀c o,s.heap.get? c=some o->h1.get? c=some o)->
       R (.ok (.ret (.ref ((h1.push {cls:=.type "tuple",data:=.seq (rs.map λr=>Value.ref r.it).toArray}).push {cls:=.type "tuple",data:=.seq (rs.map λ_=>Value.none).toArray}).objs.size)))
         {s with heap:=((h1.push {cls:=.type "tuple",data:=.seq (rs.map λr=>Value.ref r.it).toArray}).push {cls:=.type "tuple",data:=.seq (rs.map λ_=>Value.none).toArray}).push {cls:=.type "zip",data:=.fields #[.none,.bool false,.bool false,.ref h1.objs.size,.ref (h1.push {cls:=.type "tuple",data:=.seq (rs.map λr=>Value.ref r.it).toArray}).objs.size]}}:=by
     intro h1 hz1 hi1 hk1;have z2:(h1.push {cls:=.type "tuple",data:=.seq (rs.map λr=>Value.ref r.it).toArray}).objs.size=s.heap.objs.size+rs.length+1:=by rw[Heap.size_push,hz1]
     have z3:((h1.push {cls:=.type "tuple",data:=.seq (rs.map λr=>Value.ref r.it).toArray}).push {cls:=.type "tuple",data:=.seq (rs.map λ_=>Value.none).toArray}).objs.size=s.heap.objs.size+rs.length+2:=by rw[Heap.size_push,z2]
     rw[z3];refine h _ ?_ ?_ ?_ (λr hr=>(hi1 r hr).keep λo z=>wEq _ (wEq _ (wEq _ z))) (by rw[Heap.size_push,z3]) λc o z=>wEq _ (wEq _ (wEq _ (hk1 c o z)))
     . rw[<-z3,z2,hz1];exact wGq _ rfl
     . unfold IsT;rw[<-hz1];exact wEq _ (wEq _ (wGq _ rfl))
     . unfold IsT;rw[<-z2];exact wEq _ (wGq _ rfl)
   have e0:∀xs,SmallTypes.newClass "zip" ⟨.type "zip"::xs,[]⟩=pure (.type "zip",xs):=λxs=>by
     unfold SmallTypes.newClass;show(isType (.type "zip")>>=_)=_;have e1:isType (.type "zip")=pure true:=rfl;rw[e1,pure_bind];show(isSubtype (.type "zip") (.type "zip")>>=_)=_;rw[sub_zip,pure_bind];rfl
   unfold Builtin.«zip.__new__»;rw[e0,pure_bind];show wpAny _ _ (SmallTypes.iterAll _>>=_) _ _ _;refine wAq (wAq (BK (λ_ _=>rfl) rs #[] s _ hat hid λh1 hz1 hi1 hk1=>wBq ?_));have en:(#[]++(rs.map λr=>Value.ref r.it).toArray:Array Value).toList=rs.map λr=>Value.ref r.it:=by simp
   rw[en];refine wAq (wpAny_newTuple (wAq (wpAny_newTuple ?_ (by simpa using hl'))) (by simpa using hl'));have em:(List.map (λ_=>Value.none) (rs.map λr=>Value.ref r.it))=rs.map λ_=>Value.none:=by rw[List.map_map];rfl
   rw[em];show wpAny _ _ (newObj (.type "zip") (.fields #[.none,.bool false,.bool false,.ref h1.objs.size,.ref (h1.push {cls:=.type "tuple",data:=.seq (rs.map λr=>Value.ref r.it).toArray}).objs.size]) none>>=_) _ _ _;refine wAq (wpAny_newObj_type ?_ (by size_fits));exact wBq ⟨_,rfl,fin h1 hz1 hi1 hk1⟩
def MO(a b c:Value):checkTypeCall "zip" ⟨[a,b,c],[]⟩=pure ():=by kernel_rfl
def SN(a b c:Value):checkBuiltinCall "zip.__new__" ⟨[.type "zip",a,b,c],[]⟩=pure ():=by kernel_rfl
def aDe(a b c d:Value):argsOk "object.__init__" ⟨[a,b,c,d],[]⟩:=by
 unfold argsOk;rw[signature?_of (id:="object.__init__") (n:="__tini__".toList) (o:="tcejbo".toList) (by kernel_rfl) F.owner_object];kernel_rfl
def HQ(hl:rs.length<=8)(hat:∀r∈rs,ZAt s.heap r)(hid:∀(j:Nat) (r:Zr),rs[j]? =some r->r.it=s.heap.objs.size+j)
   (ct:checkTypeCall "zip" ⟨rs.map λr=>Value.ref r.l,[]⟩=pure ()) (cn:checkBuiltinCall "zip.__new__" ⟨.type "zip"::(rs.map λr=>Value.ref r.l),[]⟩=pure ()) (ok:∀obj,argsOk "object.__init__" ⟨obj::(rs.map λr=>Value.ref r.l),[]⟩)
   (h:∀h',Zs h' (s.heap.objs.size+rs.length+2) (s.heap.objs.size+rs.length) (s.heap.objs.size+rs.length+1) rs 0->h'.objs.size=s.heap.objs.size+rs.length+3->(∀c o,s.heap.get? c=some o->h'.get? c=some o)->Q (.ref (s.heap.objs.size+rs.length+2)) {s with heap:=h'}) :
   wpAny (model prog w) A (call (.type "zip") (rs.map λr=>Value.ref r.l)) Q E s:=by
 refine callType_new F.called_zip ddq ct cn ok F.entry_zip_new (KU rs hl) ⟨hat,hid,λh' a b c d e f=>?_⟩;exact⟨⟨_,a,rfl⟩,h h' ⟨a,b,⟨_,by simp,c⟩,d⟩ e f⟩
def ON(hl:rs.length=2∨rs.length=3)(hat:∀r∈rs,ZAt s.heap r)(hid:∀(j:Nat) (r:Zr),rs[j]? =some r->r.it=s.heap.objs.size+j)
   (h:∀h',Zs h' (s.heap.objs.size+rs.length+2) (s.heap.objs.size+rs.length) (s.heap.objs.size+rs.length+1) rs 0->h'.objs.size=s.heap.objs.size+rs.length+3->(∀c o,s.heap.get? c=some o->h'.get? c=some o)->Q (.ref (s.heap.objs.size+rs.length+2)) {s with heap:=h'}) :
   wpAny (model prog w) A (call (.type "zip") (rs.map λr=>Value.ref r.l)) Q E s:=by
 match rs,hl,hat,hid,h with
 | [a,b],_,hat,hid,h =>
   have ct:=F.typeCall_zip_2 (.ref a.l) (.ref b.l);have cn:=F.newCall_zip_2 (.ref a.l) (.ref b.l);have ok:=λobj=>F.args_object_init_3 obj (.ref a.l) (.ref b.l);exact HQ (rs:=[a,b]) (by show 2<=8;decide) hat hid ct cn ok h
 | [a,b,c],_,hat,hid,h =>
   have ct:=MO (.ref a.l) (.ref b.l) (.ref c.l);have cn:=SN (.ref a.l) (.ref b.l) (.ref c.l);have ok:=λobj=>aDe obj (.ref a.l) (.ref b.l) (.ref c.l);exact HQ (rs:=[a,b,c]) (by show 3<=8;decide) hat hid ct cn ok h
end
end LZ
namespace L2
open PySem PySem.Spec PyProof.Rows LZ
section
variable{X:Cx}{j0:List (Addr×Obj)}{Y:St}{H:Hp}{s:J5}{h':Heap}
def Inv.turns{t':Nat}{ch:List Addr}(I:Inv X j0 Y H s)
   (hch:∀b∈ch,(b∈X.ex∨X.s₀.heap.objs.size<=b)/\b≠X.env.locals/\(∀x c,X.env.cells.lookup x=some c->c≠b)/\∀p∈X.pn++j0,p.1≠b) (hn:∀b∈ch,H b=none)
   (k:∀b o,b∉ch->s.heap.get? b=some o->h'.get? b=some o):Inv X j0 Y H {s with heap:=h',toks:=t'}:=by
 have nit:∀b u,H b=some u->b∉ch:=λb u e z=>by rw[hn b z] at e;cases e
 refine I.step (g':=s.gens) (d':=s.drawn) (ch:=ch) hch (λb o _ _ hc e _=>k b o hc e) (λb o _ _ hc e _=>⟨o.slots,k b o hc e⟩) (λ_ _ _ _ n=>n) (λb o hc e=>⟨o,k b o hc e⟩) (λ_ _ e=>e) (λ_ _ _ e=>e) (λb _ ps e=>⟨#[],by rw[e];simp,.nil⟩) (λm hm=>?_) (λb u e=>?_) I.bare
 . obtain⟨o,es,ep,ho,r⟩:=hm;exact⟨o,es,ep,k _ o (λz=>(hch _ z).2.1 rfl) ho,r⟩
 . refine(I.hok b u e).stay (λc v hc q=>k c v ?_ q) (λc q=>q) λc xs q=>q;rcases hc with z|z
   . rw[z];exact nit b _ e
   . exact nit c _ z
noncomputable def gO(h:Heap)(l:Addr):Array Value:=match h.get? l with
 | some o=>(match o.data with|.seq a _=>a|_=> #[])
 | none=> #[]
def NR(q:h.IsTuple l a):gO h l=a:=by
 obtain⟨o,ho,_,n,hd⟩:=q;unfold gO;rw[ho];dsimp only;rw[hd]
def NC(q:h.IsList l a):gO h l=a:=by
 obtain⟨o,ho,_,n,hd⟩:=q;unfold gO;rw[ho];dsimp only;rw[hd]
def pT(K:W.Frag)(H:Hp)(b:Bool)(l:Addr)(xs:List V):Prop:=if b=true then SqT K H l xs else SqL K H l xs
def uA(K:W.Frag)(H:Hp)(rs:List Zr)(xss:List (List V)):Prop:=xss.length=rs.length/\∀(j:Nat) (r:Zr) (xs:List V),rs[j]? =some r->xss[j]? =some xs->pT K H r.b r.l xs
def jC(I:Inv X j0 Y H s)(h:pT X.K H b l xs):∃its:List Value,aI xs its/\gO s.heap l=its.toArray/\∀it,ZAt s.heap ⟨it,l,b,its.toArray⟩:=by
 unfold pT at h;cases b with
 | true =>
   rw[ja rfl] at h;obtain⟨its,rv,p,_⟩:=I.tuple h;have p':s.heap.IsTuple l its.toArray:=p;exact⟨its,rv,NR p',λit=>by unfold ZAt;rw[ja rfl];exact p'⟩
 | false =>
   rw[j9 ddq] at h;obtain⟨its,rv,p,_⟩:=I.list h;exact⟨its,rv,NC p.isList,λit=>by unfold ZAt;rw[j9 Bool.false_ne_true];exact p.isList⟩
def lA(h:Heap)(rs:List Zr):List Zr:=rs.map λr=>{r with xs:=gO h r.l}
def DH{h g:Heap}{z TI TO:Addr}{rs:List Zr}{k:Nat}(S:Zs h z TI TO rs k):Zs h z TI TO (lA g rs) k:=by
 refine⟨S.z,?_,?_,λr hr=>?_⟩
 . unfold lA;rw[List.map_map];exact S.ti
 . obtain⟨ys,a,b⟩:=S.to_;exact⟨ys,by unfold lA;rw[List.length_map];exact a,b⟩
 . obtain⟨t,ht,rfl⟩:=List.mem_map.mp hr;exact S.it t ht
def FU{g:Heap}{z TI TO:Addr}{rs:List Zr}(D:Ap z TI TO rs):Ap z TI TO (lA g rs):=by
 refine⟨by unfold lA;rw[List.map_map];exact D.nd,λr hr=>?_,λr hr=>?_,λr hr t ht=>?_,D.zo,D.zt,D.ot⟩
 . obtain⟨t,ht,rfl⟩:=List.mem_map.mp hr;exact D.zi t ht
 . obtain⟨t,ht,rfl⟩:=List.mem_map.mp hr;exact D.zl t ht
 . obtain⟨u,hu,rfl⟩:=List.mem_map.mp hr;obtain⟨v,hv,rfl⟩:=List.mem_map.mp ht;exact D.li u hu v hv
def Itz(K:W.Frag)(rs:List Zr):It :=
 ⟨λi H=>∃(xss:List (List V)) (vs:List V),uA K H rs xss/\vs.length=rs.length/\∀(j:Nat) (xs:List V),xss[j]? =some xs->xs[i]? =vs[j]?,
  λi H x H'=>∃(T:Addr) (vs:List V),x= .ref T/\H T=none/\H'=upd H T (.tup vs)/\vs.length=rs.length/\∀xss,uA K H rs xss->∀(j:Nat) (xs:List V),xss[j]? =some xs->xs[i]? =vs[j]?,
  λi H=>(∃xs t,uA K H rs (xs::t)/\xs.length<=i)∨∃xs ys t,uA K H rs (xs::ys::t)/\i<xs.length/\ys.length<=i,false⟩
theorem aI.mk{f:Nat->Option Value}:∀{vs:List V},(∀(j:Nat) (v:V),vs[j]? =some v->∃u,f j=some u/\aM v u)->∃us,aI vs us/\us.length=vs.length/\∀(j:Nat),j<vs.length->us[j]? =f j
 | [],_=>⟨[],.nil,rfl,λj hj=>absurd hj (Nat.not_lt_zero _)⟩
 | v::vs,h=>by
   obtain⟨u,e,r⟩:=h 0 v rfl;obtain⟨us,a,b,c⟩:=aI.mk (f:=λj=>f (j+1)) (vs:=vs) λj w hw=>h (j+1) w hw;refine⟨u::us,.cons r a,by rw[List.length_cons,List.length_cons,b],λj hj=>?_⟩;cases j with
   | zero=>exact e.symm
   | succ j=>exact c j (by simpa using hj)
def IE(I:Inv X j0 Y H s)(h:pT X.K H b l xs)(h2:pT X.K H b l ys):xs=ys:=by
 obtain⟨a1,r1,e1,_⟩:=jC I h;obtain⟨a2,r2,e2,_⟩:=jC I h2;have:a1=a2:=by have:=e1.symm.trans e2;simpa using this
 subst this;exact r1.inj r2
def OR{P:J7}{K:W.Frag}{z TI TO:Addr}{rs:List Zr}(D:Ap z TI TO rs)(hn:rs≠[])(hl:rs.length<=8) :
   vV P w K (.Tuple es x1 tp) (Itz K rs) (z::TO::TI::rs.map Zr.it) z (λi h=>Zs h z TI TO rs i) where
 mem:=by simp
 obj :=λi h st b hb=>by
   rcases List.mem_cons.mp hb with rfl|hb
   . exact⟨_,st.z,λv q=>by have q':Data.fields _=Data.cell v:=q;cases q'⟩
   rcases List.mem_cons.mp hb with rfl|hb
   . obtain⟨ys,_,q⟩:=st.to_;exact⟨_,q,λv q=>by have q':Data.seq _ _=Data.cell v:=q;cases q'⟩
   rcases List.mem_cons.mp hb with rfl|hb
   . exact⟨_,st.ti,λv q=>by have q':Data.seq _ _=Data.cell v:=q;cases q'⟩
   . obtain⟨r,hr,rfl⟩:=List.mem_map.mp hb;have q:=st.it r hr;unfold ZIt at q;split at q
     . obtain⟨o,a,_,d⟩:=q;exact⟨o,a,λv z=>by rw[d] at z;cases z⟩
     . obtain⟨o,a,_,d⟩:=q;exact⟨o,a,λv z=>by rw[d] at z;cases z⟩
 keep:=λi h h' st k=>by
   refine⟨k z (by simp) _ st.z,k TI (by simp) _ st.ti,?_,λr hr=>(st.it r hr).keep λo q=>k r.it (by simp;exact .inr (.inr (.inr ⟨r,hr,rfl⟩))) o q⟩;obtain⟨ys,a,b⟩:=st.to_;exact⟨ys,a,k TO (by simp) _ b⟩
 item := by
   intro X hP hw hK hc i j0 s Y H E I hf st hg;subst hP hw hK;obtain⟨xss,vs,hr,hvl,hx⟩:=hg;have hxl:xss.length=rs.length:=hr.1;have at_:∀r∈lA s.heap rs,ZAt s.heap r:=λr hr'=>by
     obtain⟨t,ht,rfl⟩:=List.mem_map.mp hr';obtain⟨j,hj,ej⟩:=List.getElem_of_mem ht;obtain⟨its,_,e,q⟩:=jC I (hr.2 j t (xss[j]'ooq) (by rw[wHq hj,ej]) (by simp));have:=q t.it;rw[<-e] at this;exact this
   obtain⟨us,rv,ul,hu⟩:=aI.mk (f:=λj=>(rs[j]?).bind λr=>(gO s.heap r.l)[i]?) (vs:=vs) λj v hv=>by
     have hj:j<rs.length:=by have:=(List.getElem?_eq_some_iff.mp hv).1;omega
     have er:rs[j]? =some rs[j]:=wHq hj;have ex:xss[j]? =some (xss[j]'ooq):=by simp
     obtain⟨its,rvs,e,_⟩:=jC I (hr.2 j _ _ er ex);obtain⟨u,hu,ru⟩:=rvs.get ((hx j _ ex).trans hv);refine⟨u,?_,ru⟩;show(rs[j]?).bind _=_;rw[er,Option.bind_some,e];simpa using hu
   refine LL (vs:=us) (FU D) (by unfold lA;simpa using hn) (by unfold lA;rw[List.length_map];exact hl) (DH st) at_ (by unfold lA;rw[List.length_map,ul,hvl]) (λj r hr'=>?_) λh1 hz1 hT1 hi1 hN hsz hk=>?_
   . unfold lA at hr';rw[List.getElem?_map] at hr';cases er:rs[j]? with
     | none=>rw[er] at hr';cases hr'
     | some t =>
       rw[er] at hr';have:r={t with xs:=gO s.heap t.l}:=(Option.some.inj hr').symm;subst this;have hj:j<rs.length:=(List.getElem?_eq_some_iff.mp er).1;rw[hu j ooq];show _=(rs[j]?).bind _;rw[er];rfl
   . refine⟨_,rfl,wpAny_letOwnedTupleGo_zip hz1 λh2 hz2 sb=>?_⟩;have mem_it:∀r∈rs,∃t∈lA s.heap rs,t.it=r.it:=λr hr=>⟨_,List.mem_map.mpr ⟨r,hr,rfl⟩,rfl⟩;have it_mem:∀t∈lA s.heap rs,∃r∈rs,r.it=t.it:=λt ht=>by obtain⟨r,hr,rfl⟩:=List.mem_map.mp ht;exact⟨r,hr,rfl⟩
     have hTz:s.heap.objs.size≠z:=Nat.ne_of_gt (Heap.lt_size st.z);have gT:IsT h2 s.heap.objs.size us.toArray:=(sb.2 _ hTz).trans hN;have lt:∀b∈z::TO::TI::rs.map Zr.it,b≠s.heap.objs.size:=λb hb=>by
       have:∃o,s.heap.get? b=some o:=by
         rcases List.mem_cons.mp hb with rfl|hb
         . exact⟨_,st.z⟩
         rcases List.mem_cons.mp hb with rfl|hb
         . obtain⟨ys,_,q⟩:=st.to_;exact⟨_,q⟩
         rcases List.mem_cons.mp hb with rfl|hb
         . exact⟨_,st.ti⟩
         . obtain⟨r,hr,rfl⟩:=List.mem_map.mp hb;exact(st.it r hr).lt
       obtain⟨o,q⟩:=this;exact Nat.ne_of_lt (Heap.lt_size q)
     refine⟨.ref s.heap.objs.size,upd H s.heap.objs.size (.tup vs),I.turnNew (ch:=z::TO::TI::rs.map Zr.it) (h':=h2) (λb hb=>?_) (λb hb=>(hf b hb).1) (λb o hb q=>?_) (Nat.le_refl _) ?_,rfl,⟨_,vs,rfl,I.hok.fresh (Nat.le_refl _),rfl,hvl,λyss hy j xs hxs=>?_⟩,?_,λb hb=>?_⟩
     . obtain⟨f0,f1,f2,f3,f4,f5⟩:=hf b hb;exact⟨f3,f1,f4,f5⟩
     . have n1:b≠z:=λe=>hb (by simp[e]);have n2:b≠TO:=λe=>hb (by simp[e]);exact(sb.2 b n1).trans (hk b o n1 n2 (λt ht e=>by obtain⟨r,hr,er⟩:=it_mem t ht;exact hb (by rw[e,<-er];simp;exact .inr (.inr (.inr ⟨r,hr,rfl⟩)))) q)
     . exact⟨by show vs.length<=sizeLine;rw[hvl];exact Nat.le_trans hl ddq,us,rv,dB.at gT⟩
     . have hj:j<rs.length:=by have:=(List.getElem?_eq_some_iff.mp hxs).1;have:=hy.1;omega
       have er:rs[j]? =some rs[j]:=wHq hj;have ex:xss[j]? =some (xss[j]'ooq):=by simp
       rw[IE I (hy.2 j _ _ er hxs) (hr.2 j _ _ er ex)];exact hx j _ ex
     . refine⟨hz2,(sb.2 _ D.zt).trans (hk _ _ D.zt D.ot (λt ht e=>?_) st.ti),⟨us.toArray,by simp;omega,(sb.2 _ D.zo).trans hT1⟩,λr hr=>?_⟩
       . obtain⟨r,hr,er⟩:=it_mem t ht;exact(D.zi r hr).2.2 (er.trans e.symm)
       . obtain⟨t,ht,et⟩:∃t∈lA s.heap rs,t={r with xs:=gO s.heap r.l}:=⟨_,List.mem_map.mpr ⟨r,hr,rfl⟩,rfl⟩;have q:=hi1 t ht;subst et;have q':ZIt h1 r (i+1):=q;exact q'.keep λo z=>(sb.2 _ (D.zi r hr).1).trans z
     . rw[aF (lt b hb)];exact(hf b hb).1
 done :=by
   intro X hP hw hK hc i j0 s Y H E I hf st hg;subst hP hw hK;rcases hg with ⟨xs,t,hr,hx⟩|⟨xs,ys,t,hr,hi,hy⟩
   rotate_left
   . match rs,hn,hl,D,st,hr,hf with
     | r::r2::j4,_,hl,D,st,hr,hf =>
       obtain⟨its,rv,e,q⟩:=jC I (hr.2 0 r xs rfl rfl);obtain⟨its2,rv2,e2,q2⟩:=jC I (hr.2 1 r2 ys rfl rfl);have l1:=rv.length;have l2:=rv2.length;have a0:ZAt s.heap {r with xs:=gO s.heap r.l}:=by have:=q r.it;rw[<-e] at this;exact this
       have a1:ZAt s.heap {r2 with xs:=gO s.heap r2.l}:=by have:=q2 r2.it;rw[<-e2] at this;exact this
       have hx1:(its.toArray)[i]? =some (its[i]'ooq):=by simp
       have hx2:(its2.toArray)[i]? =none:=by simp;omega
       have mb:∀b∈[z,TO,r.it,r2.it],b∈z::TO::TI::(r::r2::j4).map Zr.it:=λb hb=>by simp at hb ⊢;rcases hb with z|z|z|z<;>simp[z]
       refine LI (r:={r with xs:=gO s.heap r.l}) (t:={r2 with xs:=gO s.heap r2.l}) (rs:=lA s.heap j4) (I.ok.hd (hc rfl)) (FU (g:=s.heap) D) (by simpa [lA] using hl) (DH (g:=s.heap) st) a0 a1 (by show(gO s.heap r.l)[i]? =some _;rw[e];exact hx1) (by show(gO s.heap r2.l)[i]? =none;rw[e2];exact hx2) λh1 hk=>⟨rfl,I.turns (t':=s.toks) (ch:=[z,TO,r.it,r2.it]) (λb hb=>?_) (λb hb=>(hf b (mb b hb)).1) λb o hb q=>hk b o (λz=>hb (by simp[z])) (λz=>hb (by simp[z])) (λz=>hb (by simp[z])) (λz=>hb (by simp[z])) q⟩;obtain⟨f0,f1,f2,f3,f4,f5⟩:=hf b (mb b hb);exact⟨f3,f1,f4,f5⟩
     | [r],_,_,_,_,hr,_=>exact absurd hr.1 (by simp)
   match rs,hn,D,st,hr,hf with
   | r::j4,_,D,st,hr,hf =>
     obtain⟨its,rv,e,q⟩:=jC I (hr.2 0 r xs rfl rfl);have hl:=rv.length;have hx':(its.toArray)[i]? =none:=by simp;omega
     have a0:ZAt s.heap {r with xs:=gO s.heap r.l}:=by have:=q r.it;rw[<-e] at this;exact this
     refine NQ (r:={r with xs:=gO s.heap r.l}) (rs:=lA s.heap j4) (I.ok.hd (hc rfl)) (FU (g:=s.heap) D) (DH (g:=s.heap) st) a0 (by show(gO s.heap r.l)[i]? =none;rw[e];exact hx') λh1 hk=>⟨rfl,I.turns (t':=s.toks) (ch:=[z,r.it]) (λb hb=>?_) (λb hb=>?_) λb o hb q=>hk b o (λz=>hb (by simp[z])) (λz=>hb (by simp[z])) q⟩
     . have hb':b∈z::TO::TI::(r::j4).map Zr.it:=by simp at hb ⊢;rcases hb with z|z<;>simp[z]
       obtain⟨f0,f1,f2,f3,f4,f5⟩:=hf b hb';exact⟨f3,f1,f4,f5⟩
     . have hb':b∈z::TO::TI::(r::j4).map Zr.it:=by simp at hb ⊢;rcases hb with z|z<;>simp[z]
       exact(hf b hb').1
 self:=λ_ _ _ _ _ st h=>wpAny_pyIter_zip st.z h
end
section
variable{X:Cx}{j0:List (Addr×Obj)}{Y:St}{H:Hp}{s:J5}{h':Heap}
def aGm(K:W.Frag)(ta:TA):TI:=λY H R=>ta Y H λvs H1=>∃ls:List (Bool×Addr),vs=ls.map (λp=>V.ref p.2)/\(ls.length=2∨ls.length=3)/\
 (∃xss:List (List V),xss.length=ls.length/\∀(j:Nat) (p:Bool×Addr) (xs:List V),ls[j]? =some p->xss[j]? =some xs->pT K H1 p.1 p.2 xs)/\∀rs:List Zr,rs.map (λr=>(r.b,r.l))=ls->R (Itz K rs) H1
theorem wN:∀{ls:List (Bool×Addr)} {us:List Value},aI (ls.map λp=>V.ref p.2) us->us=ls.map λp=>Value.ref p.2
 | [],_,.nil=>rfl
 | p::r,_,.cons a b=>by
   have e:=wN (ls:=r) b;cases a;rw[e];rfl
def aBs(hg:Gl X "zip")(hm:X.mg "zip"=none)(ha:PA X (e::es) ta)(hs:starEach (e::es) X.env=(false,eval e X.env)::starEach es X.env)(hpl:(backTo pos (starEach es X.env)).any (·.1)=false) :
   PI X (.Tuple es0 x1 tp) (.Call (.Name "zip" p) (e::es) [] pos) (aGm X.K ta):=by
 intro j0 s Y H R I h;refine Call_ (jA I hg hm boot_zip (PyProof.Rows.callWith_type1 (thn (ha pos j0 s Y H _ I h) λus s1 zz=>?_) hs hpl));obtain⟨vs,H1,I1,r1,q1⟩:=zz;obtain⟨ls,e,hl,⟨xss,hxl,hx⟩,q⟩:=q1;subst e;have eu:=wN r1;subst eu;obtain⟨rs,ers⟩:∃rs:List Zr,rs=ls.zipIdx.map λp=>⟨s1.heap.objs.size+p.2,p.1.2,p.1.1,gO s1.heap p.1.2⟩:=⟨_,rfl⟩;have rlen:rs.length=ls.length:=by rw[ers,List.length_map,List.length_zipIdx]
 have rget:∀(j:Nat) (r:Zr),rs[j]? =some r->∃p,ls[j]? =some p/\r=⟨s1.heap.objs.size+j,p.2,p.1,gO s1.heap p.2⟩:=λj r hr=>by
   rw[ers,List.getElem?_map,List.getElem?_zipIdx] at hr;cases ep:ls[j]? with
   | none=>rw[ep] at hr;cases hr
   | some p =>
     rw[ep] at hr;have:=Option.some.inj hr;exact⟨p,rfl,by rw[<-this];simp⟩
 have rmem:∀r∈rs,∃(j:Nat) (p:Bool×Addr),ls[j]? =some p/\r=⟨s1.heap.objs.size+j,p.2,p.1,gO s1.heap p.2⟩/\j<ls.length:=λr hr=>by
   obtain⟨j,hj,ej⟩:=List.getElem_of_mem hr;obtain⟨p,a,b⟩:=rget j r (by rw[wHq hj,ej]);exact⟨j,p,a,b,by omega⟩
 have e1:rs.map (λr=>(r.b,r.l))=ls:=by
   refine List.ext_getElem? λj=>?_;rw[ers,List.map_map,List.getElem?_map,List.getElem?_zipIdx];cases ls[j]?<;>rfl
 have e2:(ls.map λp=>Value.ref p.2)=rs.map λr=>Value.ref r.l:=by rw[<-e1,List.map_map];rfl
 have at_:∀r∈rs,ZAt s1.heap r:=λr hr=>by
   obtain⟨j,p,a,rfl,hj⟩:=rmem r hr;obtain⟨its,_,e,q⟩:=jC I1 (hx j p (xss[j]'ooq) a (by simp));rw[e];exact q _
 have lt_:∀r∈rs,r.l<s1.heap.objs.size:=λr hr=>by
   have:=at_ r hr;unfold ZAt at this;split at this
   . obtain⟨o,z,_⟩:=this;exact Heap.lt_size z
   . obtain⟨o,z,_⟩:=this;exact Heap.lt_size z
 rw[e2];refine ON (by rw[rlen];exact hl) at_ (λj r hr=>by obtain⟨p,_,rfl⟩:=rget j r hr;rfl) λh2 S hsz hk=>?_;have I2:Inv X j0 Y H1 {s1 with heap:=h2}:=I1.kept (t':=s1.toks) hk;refine wpAny_pyIter_zip (s:={s1 with heap:=h2}) S.z ?_;have nn:∀{m n:Nat},m<n->m≠n:=λh=>Nat.ne_of_lt h;have D:Ap (s1.heap.objs.size+rs.length+2) (s1.heap.objs.size+rs.length) (s1.heap.objs.size+rs.length+1) rs:=by
   refine⟨?_,λr hr=>?_,λr hr=>?_,λr hr t ht=>?_,Nat.ne_of_lt ooq,Nat.ne_of_lt ooq,Nat.ne_of_lt ooq⟩
   . rw[ers,List.map_map];refine List.pairwise_iff_getElem.mpr λi j hi hj hij=>?_;simp only[List.getElem_map,Function.comp,List.getElem_zipIdx];exact Nat.ne_of_lt ooq
   . obtain⟨j,p,a,rfl,hj⟩:=rmem r hr;exact⟨Nat.ne_of_lt (by show s1.heap.objs.size+j<_;omega),Nat.ne_of_lt (by show s1.heap.objs.size+j<_;omega),Nat.ne_of_lt (by show s1.heap.objs.size+j<_;omega)⟩
   . have:=lt_ r hr;exact⟨Nat.ne_of_lt (wFq this ooq),Nat.ne_of_lt (wFq this ooq)⟩
   . have:=lt_ r hr;obtain⟨j,p,a,rfl,hj⟩:=rmem t ht;exact Nat.ne_of_lt (wFq this (Nat.le_add_right _ _))
 refine⟨s1.heap.objs.size+rs.length+2,_,_,_,H1,rfl,I2,OR D (by intro z;rw[z] at rlen;simp at rlen;omega) ooq,S,λb hb=>?_,q rs e1⟩;have hb':s1.heap.objs.size<=b:=by
   simp only[List.mem_cons,List.mem_map] at hb;rcases hb with rfl|rfl|rfl|⟨r,hr,rfl⟩
   . exact Nat.le_trans (Nat.le_add_right _ rs.length) (Nat.le_add_right _ 2)
   . exact Nat.le_trans (Nat.le_add_right _ rs.length) (Nat.le_add_right _ 1)
   . exact Nat.le_add_right _ _
   . obtain⟨j,p,a,rfl,hj⟩:=rmem r hr;exact Nat.le_add_right _ _
 exact I1.fpOk hb' (I1.hok.fresh hb')
end
end L2
namespace L2
open PySem PySem.Spec PyProof.Rows
section
variable{X:Cx}
theorem tH:∀{bs:List Bool} {us:List Value} {i:Nat} {v:Value},aI (bs.map V.bl) us->us[i]? =some v->∃b,bs[i]? =some b/\v= .bool b
 | [],_,_,_,r,h=>by cases r;simp at h
 | b::bs,_,0,v,r,h=>by
   cases r with
   | cons r1 r2 =>
     simp at h;subst h
     exact⟨b,rfl,r1⟩
 | b::bs,_,i+1,v,r,h=>by
   cases r with
   | cons r1 r2 =>
     obtain⟨c,e,q⟩:=tH (i:=i) r2 (by simpa using h);exact⟨c,by simpa using e,q⟩
def zS{s:J5}{h':Heap}(hk:∀b x,b∉[s.heap.objs.size]->(s.heap.push o).get? b=some x->h'.get? b=some x):∀b x,s.heap.get? b=some x->h'.get? b=some x :=
 λb x e=>hk b x (λhm=>by rw[List.mem_singleton.mp hm] at e;exact Nat.lt_irrefl _ (Heap.lt_size e)) (wEq _ e)
def JD(bs:List Bool):((List.range bs.length).all λi=>(bs[i]?).getD true)=bs.all id:=by
 rw[Bool.eq_iff_iff,List.all_eq_true,List.all_eq_true];constructor
 . intro h b hb;obtain⟨i,hi,rfl⟩:=List.getElem_of_mem hb;have:=h i (List.mem_range.mpr hi);simp only[wHq hi,Option.getD_some] at this;exact this
 . intro h i hi;have hi':=List.mem_range.mp hi;simp only[wHq hi',Option.getD_some];exact h _ (List.getElem_mem hi')
def LQ(bs:List Bool):((List.range bs.length).any λi=>(bs[i]?).getD false)=bs.any id:=by
 rw[Bool.eq_iff_iff,List.any_eq_true,List.any_eq_true];constructor
 . rintro⟨i,hi,e⟩;have hi':=List.mem_range.mp hi;simp only[wHq hi',Option.getD_some] at e;exact⟨_,List.getElem_mem hi',e⟩
 . rintro⟨b,hb,e⟩;obtain⟨i,hi,rfl⟩:=List.getElem_of_mem hb;exact⟨i,List.mem_range.mpr hi,by simp only[wHq hi,Option.getD_some];exact e⟩
def JY(hc:X.calm=true):aU X (.builtin "all") (λxs H Q=>∃(p:Addr) (bs:List Bool),xs=[.ref p]/\H p=some (.lst (bs.map V.bl))/\Q (.bl (bs.all id)) H):=by
 rintro j0 s Y H xs us Q I r ⟨p,bs,e,hp,q⟩;subst e;obtain⟨u,rfl,ru⟩:=dI r;cases ru;obtain⟨_,its,n,rv,ho⟩:=I.hok _ _ hp;have hl:s.heap.IsList p its.toArray:=⟨_,ho,rfl,n,rfl⟩;have hlt:p<s.heap.objs.size:=Heap.lt_size ho;refine call_all_walk (wpAny_pyIter_list hl ?_);refine⟨s.heap.objs.size,[s.heap.objs.size,p],[s.heap.objs.size],its.toArray.size,_,_,λi=>(bs[i]?).getD true,rfl,Walks.list (A:=X.A.in1) (I.ok.hd hc) _ p (Nat.ne_of_lt hlt) its.toArray,
   ⟨⟨_,wGq _ rfl,rfl,rfl⟩,hl.push _⟩,λi v s' Q' E' hP hQ=>?_,λh' tk hk=>?_⟩
 . obtain⟨b,e,rfl⟩:=tH rv (i:=i) (v:=v) (by simpa using hP);simp only[e,Option.getD_some] at hQ;exact wpAny_truthy_bool hQ
 . have e:((List.range its.toArray.size).all λi=>(bs[i]?).getD true)=bs.all id:=by
     have:=rv.length;rw[List.length_map] at this;rw[wIq,<-this];exact JD bs
   rw[e];exact⟨.bl _,H,I.kept (t':=tk) (zS hk),rfl,q⟩
def ID(hc:X.calm=true):aU X (.builtin "any") (λxs H Q=>∃(p:Addr) (bs:List Bool),xs=[.ref p]/\H p=some (.lst (bs.map V.bl))/\Q (.bl (bs.any id)) H):=by
 rintro j0 s Y H xs us Q I r ⟨p,bs,e,hp,q⟩;subst e;obtain⟨u,rfl,ru⟩:=dI r;cases ru;obtain⟨_,its,n,rv,ho⟩:=I.hok _ _ hp;have hl:s.heap.IsList p its.toArray:=⟨_,ho,rfl,n,rfl⟩;have hlt:p<s.heap.objs.size:=Heap.lt_size ho;refine call_any_walk (wpAny_pyIter_list hl ?_);refine⟨s.heap.objs.size,[s.heap.objs.size,p],[s.heap.objs.size],its.toArray.size,_,_,λi=>(bs[i]?).getD false,rfl,Walks.list (A:=X.A.in1) (I.ok.hd hc) _ p (Nat.ne_of_lt hlt) its.toArray,
   ⟨⟨_,wGq _ rfl,rfl,rfl⟩,hl.push _⟩,λi v s' Q' E' hP hQ=>?_,λh' tk hk=>?_⟩
 . obtain⟨b,e,rfl⟩:=tH rv (i:=i) (v:=v) (by simpa using hP);simp only[e,Option.getD_some] at hQ;exact wpAny_truthy_bool hQ
 . have e:((List.range its.toArray.size).any λi=>(bs[i]?).getD false)=bs.any id:=by
     have:=rv.length;rw[List.length_map] at this;rw[wIq,<-this];exact LQ bs
   rw[e];exact⟨.bl _,H,I.kept (t':=tk) (zS hk),rfl,q⟩
def KS(hc:X.calm=true):aU X (.builtin "sum") (λxs H Q=>∃(p:Addr) (ns:List Int),xs=[.ref p]/\H p=some (.lst (ns.map V.int))/\Q (.int ns.sum) H):=by
 rintro j0 s Y H xs us Q I r ⟨p,ns,e,hp,q⟩;subst e;obtain⟨u,rfl,ru⟩:=dI r;cases ru;obtain⟨_,its,n,rv,ho⟩:=I.hok _ _ hp;have hl:s.heap.IsList p its.toArray:=⟨_,ho,rfl,n,rfl⟩;have hi:IntsAre its ns:=iF rv;obtain⟨xs,hx⟩:=hi.allInts.items;have hl':s.heap.IsList p (intItems xs):=hx▸hl;refine sum_intListG (I.ok.hd hc) hl' λh' tk t' hk=>?_;have e1:ns=xs.toList.map (·.1):=by
   rw[<-nums_intItems,<-hx];exact(show numsOf its.toArray.toList=ns from hi.numsOf).symm
 have e2:preSum (numAt xs) xs.size=ns.sum:=by
   rw[preSum_eq,List.take_of_length_le (by simp),e1]
 rw[e2];exact⟨.int _,H,I.kept (t':=tk) hk,⟨_,rfl⟩,q⟩
end
end L2
namespace LX
open PySem PyProof.Rows
section
variable{prog:J7}{w:World}{A:Around}{E:Value->J5->Prop}{s:J5}
def ZW(hne:t≠it):∀(n i:Nat) (s:J5) (Q:List Value->J5->Prop),s.heap.IsListIter it t i->s.heap.IsList t items->i+n<=items.size->
   (∀h',h'.IsListIter it t (i+n)->Heap.SameBut it s.heap h'->Q ((items.toList.drop i).take n) {s with heap:=h'})->wpAny (model prog w) A (draw (.ref it) n) Q E s
 | 0,i,s,Q,hit,_,_,hQ=>by
   show wpAny _ _ (pure []) Q E s;exact wBq (by simpa using hQ s.heap hit (Heap.SameBut.refl ..))
 | n+1,i,s,Q,hit,ht,hle,hQ=>by
   have hlt:i<items.size:=by omega
   show wpAny _ _ (pyNext (.ref it)>>=_) Q E s;refine wAq (wpAny_pyNext_list_item hit ht (x:=items[i]) (by simp[hlt]) λh1 hit1 hs1=>?_);refine wAq (wpAny_holding (ZW hne n (i+1) _ _ hit1 (ht.extBut hs1.extBut hne) ooq λh2 hit2 hs2=>wBq ?_));have hd:items.toList.drop i=items[i]::items.toList.drop (i+1):=by simp[List.drop_eq_getElem_cons,hlt]
   have:=hQ h2 (by rw[show i+(n+1)=i+1+n by omega];exact hit2) (hs1.trans hs2);rw[hd,List.take_succ_cons] at this;exact this
def XY(hh:A.handled=none)(ht:s.heap.IsList t items)
   (hQ:∀h',Heap.ExtBut s.heap.objs.size s.heap h'->Q items.toList {s with heap:=h'}):wpAny (model prog w) A (unpackItems (.ref t) items.size none) Q E s:=by
 have hlt:t≠s.heap.objs.size:=by obtain⟨o,ho,_⟩:=ht;exact Nat.ne_of_lt (Heap.lt_size ho)
 unfold unpackItems;refine wAq ?_;unfold notIterableAtAll;refine wAq (wpAny_specialOf ht.typeIs slot_list_iter.lookup ?_);refine wBq ?_;simp only[Bool.false_eq_true,if_false];refine wAq (wpAny_holding (wpAny_pyIter_list ht ?_));refine wAq (wpAny_holding (ZW hlt items.size 0 _ _ ⟨_,wGq _ rfl,rfl,rfl⟩ (ht.push _) ooq λh1 hit1 hs1=>?_));have hall:List.take items.size (List.drop 0 items.toList)=items.toList:=by
   rw[List.drop_zero];exact List.take_of_length_le (by simp)
 rw[hall];rw[j9 (by simp)];have ht1:h1.IsList t items:=(ht.push _).extBut hs1.extBut hlt;refine wAq (wpAny_holding (wpAny_pyNext_list_end hh hit1 ht1 (by simp) λh2 he2=>?_));simp only[Option.isSome_none,Bool.false_eq_true,if_false];refine wBq (hQ h2 λb o hb e=>he2 b o hb (hs1.extBut b o hb (wEq _ e)))
def aGl(hh:A.handled=none)(ht:s.heap.IsList t items)
   (hn:(assignEach elts env).length=items.size) (hstar:(assignEach elts env).findIdx? (·.1)=none)
   (h:∀h',Heap.ExtBut s.heap.objs.size s.heap h'->wpAny (model prog w) A (assignInOrder ((assignEach elts env).map (·.2)) items.toList) Q E {s with heap:=h'}) :
   wpAny (model prog w) A (assign (.Tuple elts x1 pos) env (.ref t)) Q E s:=by
 rw[assign_Tuple];refine wAq (wpAny_standAt ?_);unfold unpack;rw[hn,hstar];exact wAq (wpAny_holding (XY hh ht h))
end
end LX
namespace L2
open PySem PySem.Spec PyProof.Rows
section
variable{X:Cx}{pos:Pos}
def aFK(n:Nat)(t:TGs):TG:=λv Y H Q=>∃a xs,v= .ref a/\H a=some (.lst xs)/\xs.length=n/\t xs Y H Q
def aCp(hc:X.calm=true)(h:PGs X es t)
   (hn:(assignEach es X.env).length=n) (hst:(assignEach es X.env).findIdx? (·.1)=none):PG X (.Tuple es k pos) (aFK n t):=by
 intro j0 s Y H v u Q I r hw;obtain⟨a,xs,e1,hq,hl,hw⟩:=hw;subst e1;cases r;obtain⟨_,its,nn,rv,ho⟩:=I.hok _ _ hq;have ht:s.heap.IsList a its.toArray:=⟨_,ho,rfl,nn,rfl⟩;refine LX.aGl (I.ok.hd hc) ht (by simp[hn,<-hl,rv.length]) hst λh' hx=>?_;have I1:Inv X j0 Y H {s with heap:=h'}:=I.kept (t':=s.toks) λb o e=>hx b o (Nat.ne_of_lt (Heap.lt_size e)) e;exact h j0 _ Y H xs _ Q I1 (by simpa using rv) hw
variable{a b c d:Expr}{ta tb tc td:TE}
def JM(hc:X.calm=true):aU X (.builtin "max") (λxs H Q=>∃(p:Addr) (ns:List Int),xs=[.ref p]/\SqT X.K H p (ns.map V.int)/\ns≠[]/\∀m,m∈ns->(∀x∈ns,x<=m)->Q (.int m) H):=by
 rintro j0 s Y H xs us Q I r ⟨p,ns,e,hp,hne,q⟩;subst e;obtain⟨u,rfl,ru⟩:=dI r;cases ru;obtain⟨its,rv,ht,_⟩:=I.tuple hp;have hl:s.heap.IsTuple p its.toArray:=ht;have hi:IntsAre its ns:=iF rv;obtain⟨xs,hx⟩:=hi.allInts.items;have hl':s.heap.IsTuple p (intItems xs):=hx▸hl;obtain⟨o,ho,hcl,n,hd⟩:=id hl';have hlt:p<s.heap.objs.size:=Heap.lt_size ho;have e1:ns=xs.toList.map (·.1):=by
   rw[<-nums_intItems,<-hx];exact(show numsOf its.toArray.toList=ns from hi.numsOf).symm
 have hsz:ns.length=xs.size:=by rw[e1];simp
 have hpos:0<xs.size:=by
   rw[<-hsz];exact List.length_pos_iff.mpr hne
 refine call_max_walk (wpAny_pyIter_tuple hl' ?_);refine⟨s.heap.objs.size,[s.heap.objs.size,p],[s.heap.objs.size],_,_,_,_,rfl,Walks.tuple (A:=X.A.in1) (I.ok.hd hc) _ p (Nat.ne_of_lt hlt) (intItems xs),
   ⟨⟨_,wGq _ rfl,rfl,rfl⟩,hl'.push _⟩,λd hd=>?_,by simpa [intItems] using hpos,CmpOf.ints_gt (numAt xs) (λ_ _=>intItems_at),λv h' tk hP hk=>?_⟩
 . rcases List.mem_cons.mp hd with rfl|hd
   . exact Heap.lt_size (wGq _ rfl)
   . obtain rfl:=List.mem_singleton.mp hd;exact Heap.lt_size (wEq _ ho)
 . have hP':(intItems xs)[argBest (λi j=>decide (numAt xs i>numAt xs j)) (xs.size-1)]? =some v:=by simpa [intItems] using hP
   obtain⟨t,rfl⟩:=intItems_at hP';obtain⟨b1,b2⟩:=argBest_gt (numAt xs) (xs.size-1);have num:∀j (hj:j<xs.size),∃h:j<ns.length,numAt xs j=ns[j]:=λj hj=>⟨by omega,by subst e1;simp[numAt,hj]⟩;refine⟨.int _,H,I.kept (t':=tk) (zS hk),⟨_,rfl⟩,q _ ?_ λx hx'=>?_⟩
   . obtain⟨h1,h2⟩:=num _ (show argBest (λi j=>decide (numAt xs i>numAt xs j)) (xs.size-1)<xs.size by omega);rw[h2];exact List.getElem_mem h1
   . obtain⟨j,hj,rfl⟩:=List.getElem_of_mem hx';obtain⟨h1,h2⟩:=num j ooq;rw[<-h2];exact b2 j ooq
def KY(hc:X.calm=true):aU X (.builtin "sum") (λxs H Q=>∃(p:Addr) (ns:List Int),xs=[.ref p]/\SqT X.K H p (ns.map V.int)/\Q (.int ns.sum) H):=by
 rintro j0 s Y H xs us Q I r ⟨p,ns,e,hp,q⟩;subst e;obtain⟨u,rfl,ru⟩:=dI r;cases ru;obtain⟨its,rv,ht,_⟩:=I.tuple hp;have hl:s.heap.IsTuple p its.toArray:=ht;have hi:IntsAre its ns:=iF rv;obtain⟨xs,hx⟩:=hi.allInts.items;have hl':s.heap.IsTuple p (intItems xs):=hx▸hl;refine W.ktm_sumG (I.ok.hd hc) hl' λh' tk t' hk=>?_;have e1:ns=xs.toList.map (·.1):=by
   rw[<-nums_intItems,<-hx];exact(show numsOf its.toArray.toList=ns from hi.numsOf).symm
 have e2:preSum (numAt xs) xs.size=ns.sum:=by
   rw[preSum_eq,List.take_of_length_le (by simp),e1]
 rw[e2];exact⟨.int _,H,I.kept (t':=tk) hk,⟨_,rfl⟩,q⟩
end
section
variable{X:Cx}
end
section
variable{X:Cx}{pos:Pos}
end
end L2
namespace LE
open PySem PyProof.Rows
open AutoSeq1 (wpAny_loadPart')
open MeetsSeq MeetsSeq2 MeetsSeq3 SeqRoads2
def FV(l:Addr)(o:Obj)(items:Array Value)(n:Nat)(hc:o.cls= .type "tuple")(hd:o.data= .seq items n)(u:Tok) :
   Meets (Builtin.«tuple.__mul__» ⟨[.ref l,.int 1 u],[]⟩) (λ_ R s=>s.heap.get? l=some o/\R (.ok (.ret (.ref l))) s) :=
 .of_wp λprog w A R s h=>by
   obtain⟨hp,g,d,tk,os⟩:=s;obtain⟨oc,od,dt,sl⟩:=o
   replace hc:oc= .type "tuple":=hc
   replace hd:dt= .seq items n:=hd
   subst hc hd;obtain⟨hl,h⟩:=h
   wp_walk using wpAny_loadPart' hl
   exact⟨_,rfl,h⟩
end LE
namespace L2
open PySem PySem.Spec PyProof.Rows
section
variable{X:Cx}
def aFj(K:W.Frag):R2:=λx y H Q=>∃l k xs,x= .ref l/\y= .int k/\SqT K H l xs/\xs≠[]/\1<=k/\xs.length*k.toNat<=10000/\(k=1->Q (.ref l) H)/\∀p,H p=none->Q (.ref p) (upd H p (.tup (List.replicate k.toNat xs).flatten))
def ZA:OpR X (binaryOp .Mult) (aFj X.K):=by
 rintro j0 s Y H x y v u Q I rx ry ⟨l,k,xs,e1,e2,hH,hne,hk,hz,q1,q⟩;subst e1 e2;cases rx;obtain⟨t,rfl⟩:=ry;obtain⟨its,r,⟨o,ho,hc,n,hd⟩,z⟩:=I.tuple hH;have hlen:=r.length;have ne:its.toArray.isEmpty=false:=by
   cases its with
   | nil=>cases xs with
     | nil=>exact absurd rfl hne
     | cons a b=>cases hlen
   | cons a b=>rfl
 by_cases e1:k=1
 . subst e1;exact wpAny_binaryOp_repeat_ref (T:="tuple") (U:="int") ddq ⟨o,ho,hc⟩ (λs'=>typeIs_int s' 1 t) LE.hZ F.fills_int_mul F.slot_int_rmul LE.mO F.slot_int_index.lookup
     (call_meets F.slot_int_rmul (typeIs_int s 1 t) F.entry_int_rmul (F.args_int_rmul_2 _ _) (LE.jT 1 t l o hc hd)
       ⟨ho,rfl,⟨o,ho,hc⟩,call_meets F.slot_tuple_mul ⟨o,ho,hc⟩ F.entry_tuple_mul (F.args_tuple_mul_2 _ _) (LE.FV l o its.toArray n hc hd t) ⟨ho,⟨.ref l,H,I,rfl,q1 rfl⟩⟩⟩)
 have hz':its.length*k.toNat<=10000:=by rw[<-hlen];exact hz
 have kz:((its.length:Nat):Int)*k=((its.length*k.toNat:Nat):Int):=by
   rw[Int.natCast_mul];congr 1;omega
 have hnew:List.foldl (λx1 x2=>x1++x2) #[] (List.replicate k.toNat its.toArray)=(List.replicate k.toNat its).flatten.toArray:=by
   have:=oU its k.toNat [];rw[List.nil_append] at this;exact this
 have hfl:(List.replicate k.toNat its).flatten.length=k.toNat*its.length:=zI its k.toNat;have k63:k<20000:=by
   have h1:1<=its.length:=by
     cases its with
     | nil=>cases ne
     | cons a b=>simp
   have h2:k.toNat<=its.length*k.toNat:=Nat.le_mul_of_pos_left _ h1;omega
 refine wpAny_binaryOp_repeat_ref (T:="tuple") (U:="int") ddq ⟨o,ho,hc⟩ (λs'=>typeIs_int s' k t) LE.hZ F.fills_int_mul F.slot_int_rmul LE.mO F.slot_int_index.lookup
   (call_meets F.slot_int_rmul (typeIs_int s k t) F.entry_int_rmul (F.args_int_rmul_2 _ _) (LE.jT k t l o hc hd)
     ⟨ho,rfl,⟨o,ho,hc⟩,call_meets F.slot_tuple_mul ⟨o,ho,hc⟩ F.entry_tuple_mul (F.args_tuple_mul_2 _ _) (LE.KJ l o its.toArray n hc hd k t ?_ ?_ ?_ ?_ ?_ ?_) ⟨ho,?_⟩⟩)
 . simp only[Bool.or_eq_true,decide_eq_true_eq];omega
 . rw[ne,Bool.false_or];simp only[beq_iff_eq];omega
 . rw[ne,Bool.or_false];simp only[decide_eq_true_eq];omega
 . rw[wIq,kz];omega
 . rw[wIq,kz];unfold Builtin.Tuple.tupleTooMany;simp only[decide_eq_true_eq];have:(10000:Nat)<=sizeLine:=by decide
   omega
 . rw[hnew,wIq,hfl,Nat.mul_comm];exact Nat.le_trans hz' ddq
 . rw[hnew];refine⟨.ref _,_,I.laid (t':=s.toks) (o:=.tup (List.replicate k.toNat xs).flatten) (λb ob q=>wEq _ q) (Nat.le_refl _) ?_,rfl,q _ (I.hok.fresh (Nat.le_refl _))⟩;exact⟨by rw[zI,Nat.mul_comm];exact Nat.le_trans hz ddq,_,r.rep k.toNat,dB.new _ _⟩
end
section
variable{κ:Type}[DecidableEq κ]
noncomputable def valV(kvs:List (κ×V))(k:κ):Option V:=(kvs.find? λkv=>decide (kv.1=k)).map (·.2)
theorem aDY:valV ([]:List (κ×V)) k=none:=rfl
def uN{k:κ}(e:p.1=k):valV (p::r) k=some p.2:=by simp[valV,List.find?_cons,e]
def uV{k:κ}(e:¬p.1=k):valV (p::r) k=valV r k:=by simp[valV,List.find?_cons,e]
def KV.val(r:KV kvs vs)(k:κ):uT (valV kvs k) (valueAt vs k):=by
 unfold KV at r;induction r with
 | nil=>exact True.intro
 | @cons p q ps qs h t ih =>
   obtain⟨h1,h2⟩:=h;by_cases e:p.1=k
   . have e':q.1=k:=h1.symm.trans e;have b:valueAt (q::qs) k=some q.2:=by simp[valueAt,List.find?_cons,e']
     rw[uN e,b];exact h2
   . have e':¬q.1=k:=λz=>e (h1.trans z);have b:valueAt (q::qs) k=valueAt qs k:=by simp[valueAt,List.find?_cons,e']
     rw[uV e,b];exact ih
end
def aAi(r:aM (kV k) u):(cP P w).is k u=true:=by
 cases k with
 | inl i=>obtain⟨t,e⟩:=(show ∃t,u=Value.int i t from r);subst e;exact CI P w i t
 | inr x=>obtain⟨t,e⟩:=(show ∃t,u=Value.str x t from r);subst e;exact AF P w x t
theorem wS:∀{ks:List Key} {us:List Value},aI (ks.map kV) us->ItemsAre (cP P w) ks us
 | [],_,r=>by rw[List.map_nil] at r;cases r;exact .nil
 | k::ks,_,r=>by
   rw[List.map_cons] at r;cases r with
   | cons h t=>exact .cons (aAi h) (wS t)
abbrev KT(H:Hp):List (List Key×V)->List (List Key×Addr×Value)->Prop:=Paired λp q=>p.1=q.1/\H q.2.1=some (.tup (p.1.map kV))/\aM p.2 q.2.2
def KT.val(r:KT H kvs xs)(k:List Key):uT (valV kvs k) ((atKey xs k).map (·.2)):=by
 induction r with
 | nil=>exact True.intro
 | @cons p q ps qs h t ih =>
   obtain⟨h1,_,h2⟩:=h;by_cases e:p.1=k
   . have e':q.1=k:=h1.symm.trans e;have b:atKey (q::qs) k=some q.2:=by simp[atKey,List.find?_cons,e']
     rw[uN e,b];exact h2
   . have e':¬q.1=k:=λz=>e (h1.trans z);have b:atKey (q::qs) k=atKey qs k:=by simp[atKey,List.find?_cons,e']
     rw[uV e,b];exact ih
section
variable{P:J7}{w:World}{H:Hp}{h:Heap}{a:Addr}
def ZV(ok:HOk P w H h)(e:Rd H a u):cA P w H h a u:=e.ok ok
def ZL(ok:HOk P w H h)(e:Rd H a (.dK kvs)):kvs.length<=sizeLine/\(a==sysModules)=false/\∃vs,KV kvs vs/\h.DictOf (cP P w) a vs :=
 show cA P w H h a (.dK kvs) from ZV ok e
def PM(ok:HOk P w H h)(e:H a=some (.tup (ks.map kV))):(tupleKind (cP P w)).is h ks a:=by
 obtain⟨_,its,r,⟨o,h1,h2,n,h3⟩,_⟩:=(show cA P w H h a (.tup (ks.map kV)) from ok a _ e);exact⟨o,its.toArray,n,h1,h2,h3,by simpa using wS r⟩
def aAc(ok:HOk P w H h)(e:Rd H a (.dT kvs)):kvs.length<=sizeLine/\(a==sysModules)=false/\
   ∃xs,KT H kvs xs/\h.DictOfH (tupleKind (cP P w)) a xs:=by
 obtain⟨z,y,xs,r,o,es,ep,h1,h2,h3,h4,h5⟩:=(show cA P w H h a (.dT kvs) from ZV ok e);refine⟨z,y,xs,r,o,es,ep,h1,h2,h3,h4,λx hx=>?_,h5⟩;have all:∀{l:List (List Key×V)} {m:List (List Key×Addr×Value)},KT H l m->∀x∈m,(tupleKind (cP P w)).is h x.1 x.2.1:=by
   intro l m q;induction q with
   | nil=>intro x hx;exact nomatch hx
   | @cons p q ps qs hq t ih =>
     intro x hx;rcases List.mem_cons.mp hx with e|hx
     . subst e;exact PM ok (by rw[<-hq.1];exact hq.2.1)
     . exact ih x hx
 exact all r x hx
end
def NM(H:Hp)(a:Addr)(y:V)(r:Option V):Prop :=
 (∃kvs k,Rd H a (.dK kvs)/\y=kV k/\r=valV kvs k)∨∃kvs k b,Rd H a (.dT kvs)/\y= .ref b/\H b=some (.tup (k.map kV))/\r=valV kvs k
def NM.k{a:Addr}{kvs:List (Key×V)}{k:Key}(e:H a=some (.dK kvs)):NM H a (kV k) (valV kvs k):=.inl ⟨kvs,k,.inl e,rfl,rfl⟩
section
variable{X:Cx}{j0:List (Addr×Obj)}{Y:St}{H:Hp}{s:J5}{a:Addr}{y v:V}{u r:Value}{o:Option V}{A:Around}{E:Value->J5->Prop}
def IS(hu:A.units+1<cLine)(I:Inv X j0 Y H s)(g:NM H a y (some v))(ry:aM y u)(h:∀w' s',Inv X j0 Y H s'->aM v w'->Q w' s') :
   wpAny (model X.prog X.w) A (getItem (.ref a) u) Q E s:=by
 rcases g with ⟨kvs,k,e,ey,l⟩|⟨kvs,k,b,e,ey,eb,l⟩
 . subst ey;obtain⟨z,hd,vs,rel,dd⟩:=ZL I.hok e;obtain⟨w',hw,rw'⟩:=uT.some_of (v:=v) (o:=valueAt vs k) (by rw[l];exact rel.val k);exact wpAny_getItem_of (aAi ry) dd.mapOf hw (h w' _ (I.tok _) rw')
 . subst ey;cases(show u=Value.ref b from ry);obtain⟨z,hd,xs,rel,dd⟩:=aAc I.hok e;obtain⟨w',hw,rw'⟩:=uT.some_of (v:=v) (o:=(atKey xs k).map (·.2)) (by rw[l];exact rel.val k);obtain⟨p,hp,hp2⟩:=Option.map_eq_some_iff.mp hw;refine wpAny_getItem_heap (tupleKind_room_in1 hu) (PM I.hok eb) dd hp ?_;rw[hp2];exact h w' _ (I.tok _) rw'
end
section
variable{X:Cx}{j0:List (Addr×Obj)}{Y:St}{H:Hp}{s:J5}{a:Addr}{kvs:List (Key×V)}{k:Key}{u:Value}{A:Around}{E:Value->J5->Prop}
end
def AT{j0:List (Addr×Obj)}{Y:St}{s:J5}{o:Option V}(I:Inv X j0 Y H s)(g:NM H a y o):s.TypeIs (.ref a) "dict":=by
 rcases g with ⟨kvs,k,e,_,_⟩|⟨kvs,k,b,e,_,_,_⟩
 . obtain⟨_,_,vs,_,dd⟩:=ZL I.hok e;exact dd.typeIs
 . obtain⟨_,_,xs,_,dd⟩:=aAc I.hok e;exact dd.typeIs
section
variable{X:Cx}{o i e value:Expr}{pos pos' tpos:Pos}{td ty tv:TE}
end
section
variable{X:Cx}{pos:Pos}
end
def aGe:R2:=λx y H Q=>∃a v,x= .ref a/\NM H a y (some v)/\Q v H
def UP(hr:cJ k X.A):IxR X aGe:=by
 rintro value slice j0 s Y H x y v u Q I rx ry ⟨a,z,ex,g,q⟩ hs;subst ex;cases rx;exact tail_any (AT I g) slot_dict_getitem.lookup (IS (by have:=hr.units;omega) I g ry λw' s' I' r'=>⟨z,H,I',r',q⟩) hs
section
variable{X:Cx}
end
noncomputable def sL(e:Expr)(d:Nat)(j3:Expr)(D:Addr)(env:Env)(k:Sem Fin):Sem Fin:=do
 let x <-eval j3 env
 standAt j3.pos
 let x <-foldedSetIterable j3 env x
 let _ <-runOwn (.compStart e d (<-holding [x] (pyIter x)) (.ref D) env) env
 k
noncomputable def BM(elt:Expr)(D:Addr)(env:Env)(k:Sem Fin):Sem Fin:=do
 (do let _ <-call (.builtin "list.append") [.ref D,<-eval elt env]:Sem Unit)
 k
noncomputable def aDU(M:Model)(A:Around)(b:Sem Fin->Sem Fin)(P:J5->Prop)(s:J5):Prop :=
 ∀(k:Sem Fin) (QK:Fin->J5->Prop) (E:Value->J5->Prop),(∀s',P s'->wpAny M A k QK E s')->wpAny M A (b k) QK E s
noncomputable def TF:Expr->Bool
 | .ListComp .. =>true
 | .DictComp .. =>true
 | _=>false
structure Tn(e:Expr)(d:Nat)(tg j3:Expr)(ifs:List Expr)(bd:Addr->Env->Sem Fin->Sem Fin):Prop where
 is:TF e=true
 cl:(clausesOf e)[d]? =some ⟨tg,j3,ifs,0⟩
 eq : ∀it D env,compTurn e d it (.ref D) env=(do
     standAt j3.pos
     match <-pyNext it with
     | none=>pure (.done .next)
     | some v =>
       letOwnedTupleGo tg it v
       assign tg env v
       let mut ok:=true
       for c in ifs do
         if ok then ok <-isTrue c env (eval c env)
       if ok then
         bd D env (again (.compLoop e d it (.ref D) env))
       else
         again (.compLoop e d it (.ref D) env))
section
variable{elt kx vx tg j3 tg1 it1:Expr}{ifs ifs1:List Expr}{gens:List Comprehension}{sc:Scope}{pos:Pos}{d:Nat}
def sA(h:gens[d]? =some ⟨tg,j3,ifs,0⟩)(h':gens[d+1]? =some ⟨tg1,it1,ifs1,0⟩):Tn (.ListComp elt gens sc pos) d tg j3 ifs (sL (.ListComp elt gens sc pos) (d+1) it1) :=
 ⟨rfl,h,λit D env=>by unfold compTurn;dsimp only;rw[h];dsimp only;rw[h'];rfl⟩
def yO(h:gens[d]? =some ⟨tg,j3,ifs,0⟩)(h':gens[d+1]? =none):Tn (.ListComp elt gens sc pos) d tg j3 ifs (BM elt) :=
 ⟨rfl,h,λit D env=>by unfold compTurn;dsimp only;rw[h];dsimp only;rw[h'];rfl⟩
end
section
variable{prog:J7}{w:World}{A:Around}{R:Result->J5->Prop}{s:J5}{e tg j3:Expr}{ifs:List Expr}{d:Nat}{bd:Addr->Env->Sem Fin->Sem Fin}
def PH(h:TF e=true):(model prog w).den (.compLoop e d it acc env)=(compTurn e d it acc env).onRaise (λx=>do noteFrame x env;theTreesLotGoes x):=by
 cases e<;>first|rfl|cases h
def IJ(h:TF e=true):(model prog w).den (.compStart e d it acc env)=(compStart e d it acc env).onRaise (λx=>do noteFrame x env;standAt theWindowsPlace):=by
 cases e<;>first|rfl|cases h
def JL(T:Tn e d tg j3 ifs bd)(I:Nat->J5->Prop)
   (turn : ∀n s,I n s->wpAny (model prog w) A (pyNext it) (λr s₁=>match r with
     | none=>R (.ok .next) s₁
     | some v=>wpAny (model prog w) A (letOwnedTupleGo tg it v) (λ_ s₁'=>wpAny (model prog w) A (assign tg env v) (λ_ s₂ =>
         wpAny (model prog w) A (forIn ifs true λc r=>if r=true then do let ok <-isTrue c env (eval c env);pure (ForInStep.yield ok) else pure (ForInStep.yield r)) (λok s₃ =>
           if ok=true then aDU (model prog w) A (bd D env) (λs₄=>∃m,m<n/\I m s₄) s₃
           else ∃m,m<n/\I m s₃) NoE s₂) NoE s₁') NoE s₁) NoE s) (n:Nat) (h:I n s) :
   codeAny (model prog w) A (.compLoop e d it (.ref D) env) R s:=by
 have hu:A.under (.compLoop e d it (.ref D) env)=A:=by
   have:=T.is;cases e<;>first|rfl|cases this
 refine codeAny_loop (by have:=T.is;cases e<;>first|rfl|cases this) I (λn s hI=>?_) n h;rw[hu,PH T.is];refine wpAny_noted ?_;rw[T.eq];refine wAq (wpAny_standAt (wAq (wpAny_mono (turn n s hI) (λr s₁ h₁=>?_) λ_ _ f=>f.elim)));cases r with
 | none=>exact wBq h₁
 | some v =>
   refine wAq (wpAny_mono h₁ (λ_ s₁' h₁'=>?_) λ_ _ f=>f.elim);refine wAq (wpAny_mono h₁' (λ_ s₂ h₂=>wAq (wpAny_mono h₂ (λok s₃ h₃=>?_) λ_ _ f=>f.elim)) λ_ _ f=>f.elim);cases ok with
   | false=>exact wBq ⟨rfl,h₃⟩
   | true=>exact h₃ _ _ _ λs₄ h₄=>wBq ⟨rfl,h₄⟩
def tP(T:Tn e d tg j3 ifs bd)(h0:codeAny (model prog w) A (.compLoop e d it acc env) R s)
   (h:wpAny (model prog w) A (pyIter it) (λit' s'=>codeAny (model prog w) A (.compLoop e d it' acc env) R s') NoE s):codeAny (model prog w) A (.compStart e d it acc env) R s:=by
 have hu:A.under (.compStart e d it acc env)=A:=by
   have:=T.is;cases e<;>first|rfl|cases this
 have hq:∀i,(Code.compLoop e d i acc env).quiet=true:=λi=>by
   have:=T.is;cases e<;>first|rfl|cases this
 refine codeAny_of_tree ?_;rw[hu,IJ T.is];refine wpAny_notedAt ?_;unfold compStart;rw[T.cl];show wpAny _ _ (ask>>=_) _ _ s;refine wAq (wpAny_askSetting (wpAny_ite ?_));split
 . exact wAq (wBq (wBq ⟨hq _,h0⟩))
 . refine wAq (wpAny_rule ?_);show wpAny _ _ (standAt j3.pos>>=_) _ _ s;exact wAq (wpAny_standAt (wAq (wpAny_mono h (λit' s' h'=>wBq ⟨hq _,h'⟩) λ_ _ f=>f.elim)))
end
abbrev TB:=St->Hp->(St->Hp->Prop)->Prop
def PB(X:Cx)(b:Sem Fin->Sem Fin)(t:TB):Prop :=
 ∀(j0:List (Addr×Obj)) (s:J5) (Y:St) (H:Hp) (Q:St->Hp->Prop),Inv X j0 Y H s->t Y H Q->aDU (model X.prog X.w) X.A b (λs'=>∃Y' H',Inv X j0 Y' H' s'/\Q Y' H') s
def FnW(J:It)(g:TG)(ts:TT)(tb:TB)(Q:St->Hp->Prop)(Y:St)(H:Hp):Prop:= ∃W:Nat->Nat->St->Hp->Prop,(∃m,W 0 m Y H)/\∀i m Y H,W i m Y H->
 (J.stop i H/\Q Y H)∨(J.go i H/\∃N:St->Hp->Prop,(∀Y' H',N Y' H'->∃m',m'<m/\W (i+1) m' Y' H')/\∀x H',J.yld i H x H'->g x Y H' λY2 H2=>ts Y2 H2 λok H3=>if ok=true then tb Y2 H3 N else N Y2 H3)
section
variable{X:Cx}{j0:List (Addr×Obj)}{Y:St}{H:Hp}{s:J5}{e tg j3:Expr}{ifs:List Expr}{d:Nat}{bd:Addr->Env->Sem Fin->Sem Fin}{g:TG}{ts:TT}{tb:TB}{D:Addr}
def HU(hx:X.xe=NoE)(hc:X.calm=true)(Tt:Tn e d tg j3 ifs bd)(T:vV X.prog X.w X.K tg J fp it tn)(I:Inv X j0 Y H s)(st:tn 0 s.heap)
   (hf:∀b∈fp,lV X j0 H b) (hg:PG X tg g) (ht:PTs X ifs ts) (hb:PB X (bd D X.env) tb) (q:FnW J g ts tb Q Y H) (hR:∀Y' H' s',Inv X j0 Y' H' s'->Q Y' H'->R (.ok .next) s') :
   codeAny (model X.prog X.w) X.A (.compLoop e d (.ref it) (.ref D) X.env) R s:=by
 obtain⟨W,⟨m0,w0⟩,turn⟩:=q;have stat:∀{H':Hp},(∀b∈fp,H' b=none)->∀b∈fp,lV X j0 H' b:=λhn b hb=>⟨hn b hb,(hf b hb).2⟩;refine JL Tt (λn s'=>∃i Y' H',Inv X j0 Y' H' s'/\tn i s'.heap/\(∀b∈fp,H' b=none)/\W i n Y' H') ?_ m0 ⟨0,Y,H,I,st,λb hb=>(hf b hb).1,w0⟩;rintro n s3 ⟨i,Y3,H3,I3,st3,fr3,w3⟩;rcases turn i n Y3 H3 w3 with ⟨stop,qn⟩|⟨go,Nx,hN,step⟩
 . refine thn (T.done X rfl rfl rfl (λ_=>hc) i j0 s3 Y3 H3 NoE I3 (stat fr3) st3 stop) λr s4 zz=>?_;obtain⟨hr,I4⟩:=zz;subst hr;exact hR _ _ _ I4 qn
 . refine thn (T.item X rfl rfl rfl (λ_=>hc) i j0 s3 Y3 H3 NoE I3 (stat fr3) st3 go) λr s4 zz=>?_;obtain⟨u,hr,h4⟩:=zz;subst hr;refine thn h4 λ_ s5 zz=>?_;obtain⟨x,H5,I5,r5,y5,st5,fr5⟩:=zz;have I5':=I5.pinned (stat fr5) (T.obj _ _ st5);have g1:=hg _ s5 Y3 H5 x u _ I5' r5 (step x H5 y5);rw[hx] at g1;refine thn g1 λ_ s6 zz=>?_;obtain⟨Y6,H6,I6,q6⟩:=zz;have t1:=ht _ s6 Y6 H6 _ I6 q6;rw[hx] at t1;refine thn t1 λok s7 zz=>?_;obtain⟨H7,I7,q7⟩:=zz;have again:∀{Y8:St} {H8:Hp} {s8:J5},Inv X (j0++pE fp s5.heap) Y8 H8 s8->Nx Y8 H8->∃m,m<n/\∃i Y' H',Inv X j0 Y' H' s8/\tn i s8.heap/\(∀b∈fp,H' b=none)/\W i m Y' H':=λ{Y8 H8 s8} I8 n8=>by
     obtain⟨m',hm,w8⟩:=hN Y8 H8 n8;refine⟨m',hm,i+1,Y8,H8,I8.unpinned,T.keep _ _ _ st5 λb hb o e=>(I8.pin (b,o) (List.mem_append_right _ (List.mem_append_right _ (dR hb e)))).1,λb hb=>?_,w8⟩;obtain⟨o,e,d⟩:=T.obj _ _ st5 b hb;exact(I8.pin (b,o) (List.mem_append_right _ (List.mem_append_right _ (dR hb e)))).2.1
   cases ok with
   | false=>exact again I7 q7
   | true =>
     intro k QK E hk;exact hb _ s7 Y6 H7 _ I7 q7 k QK E<|by rintro s' ⟨Y',H',I',n'⟩;exact hk s' (again I' n')
def aAD(hx:X.xe=NoE)(hc:X.calm=true)(Tt:Tn e d tg j3 ifs bd)(hi:PI X tg j3 wi)(hg:PG X tg g)(ht:PTs X ifs ts)(hb:PB X (bd D X.env) tb)(hs:∀x,foldedSetIterable j3 X.env x=pure x) :
   PB X (sL e d j3 D X.env) (λY H Q=>wi Y H λJ H1=>FnW J g ts tb Q Y H1):=by
 intro j0 s Y H Q I h k QK E hk;unfold sL;have i1:=hi j0 s Y H _ I h;rw[hx] at i1;refine wAq (wpAny_mono i1 (λv s1 h1=>wAq (wpAny_standAt (wAq (wpAny_of_eq (hs v) (wAq (wpAny_holding (wpAny_mono h1 (λitv s2 h2=>?_) λ_ _ f=>f.elim))))))) λ_ _ f=>f.elim);obtain⟨it,fp,tn,J,H2,e2,I2,T,st2,f2,q⟩:=h2;subst e2;refine wAq (wpAny_runOwn ?_);have loop:∀R:Result->J5->Prop,(∀Y' H' s',Inv X j0 Y' H' s'->Q Y' H'->R (.ok .next) s')->codeAny (model X.prog X.w) X.A (.compLoop e d (.ref it) (.ref D) X.env) R s2:=λR hR=>HU hx hc Tt T I2 st2 f2 hg ht hb q hR;refine tP Tt (loop _ ?_) (T.self _ 0 _ _ _ st2 (loop _ ?_))
 . exact λY' H' s' I' q'=>hk s' ⟨Y',H',I',q'⟩
 . exact λY' H' s' I' q'=>hk s' ⟨Y',H',I',q'⟩
def VT(hx:X.xe=NoE)(he:PE X elt te):PB X (BM elt D X.env) (λY H Q=>te Y H λy H1=>∃ys,H1 D=some (.lst ys)/\ys.length<sizeLine/\Q Y (upd H1 D (.lst (ys++[y])))):=by
 intro j0 s Y H Q I h k QK E hk;unfold BM;have e1:=he j0 s Y H _ I h;rw[hx] at e1;refine wAq (wAq (wpAny_mono e1 (λv s8 h8=>?_) λ_ _ f=>f.elim));obtain⟨y,H8,I8,r8,ys,e8,l8,q8⟩:=h8;have a1:=oY j0 s8 Y H8 (.ref D) [y] (.ref D) [v] (λ_ H9=>Q Y H9) I8 rfl (.cons r8 .nil) ⟨_,ys,y,rfl,rfl,e8,l8,q8⟩;rw[hx] at a1;exact wAq (wpAny_mono a1 (by rintro _ s9 ⟨_,H9,I9,_,q9⟩;exact wBq (hk s9 ⟨Y,H9,I9,q9⟩)) λ_ _ f=>f.elim)
end
section
variable{X:Cx}{j0:List (Addr×Obj)}{Y:St}{H:Hp}{s:J5}{N:List Str}{scope:Scope}{cl:List (Str×Addr)}{js:List (Option Nat)}{fp:List Addr}{e tg j3:Expr}{ifs:List Expr}{bd:Addr->Env->Sem Fin->Sem Fin}{g:TG}{ts:TT}{tb:Addr->TB}{J:It}{it:Addr}{tn:Nat->Heap->Prop}
def ZH(hna:∀{s:J5} {Q:Value->J5->Prop} {E:Value->J5->Prop},Q (.ref s.heap.objs.size) {s with heap:=s.heap.push o0,toks:=s.toks}->wpAny (model X.prog X.w) X.A na Q E s)
   (Tt:Tn e 0 tg j3 ifs bd) (S:cG X N scope cl js) (hc:X.calm=true) (I:Inv X j0 Y H s) (I3:Inv X j0 Y (upd H s.heap.objs.size u0) {s with heap:=s.heap.push o0,toks:=s.toks}) (T:vV X.prog X.w X.K tg J fp it tn) (st:tn 0 s.heap) (hf:∀b∈fp,lV X j0 H b)
   (hg:∀C s₀ H₀ ex,PG (cxC X N scope cl C s₀ H₀ ex) tg g) (ht:∀C s₀ H₀ ex,PTs (cxC X N scope cl C s₀ H₀ ex) ifs ts) (hb:∀D C s₀ H₀ ex,PB (cxC X N scope cl C s₀ H₀ ex) (bd D (cxC X N scope cl C s₀ H₀ ex).env) (tb D))
   (q:∀D,H D=none->FnW J g ts (tb D) (λ_ H'=>Q (.ref D) H') (AI js Y) (upd H D u0))
   {RR:Value->Addr->Result->J5->Prop} (hR:∀D C s',OP X j0 Y Q D C s'->RR (.ref D) C (.ok .next) s') {E:Value->J5->Prop} :
   wpAny (model X.prog X.w) X.A na (λacc s₃=>wpAny (model X.prog X.w) X.A (newFunctionEnv scope X.env.globals cl [] X.env.qual none .none (some X.env)) (λcenv s₄ =>
     codeAny (model X.prog X.w) X.A (.compStart e 0 (.ref it) acc {cenv with scope:=relabel scope X.env}) (RR acc cenv.locals) s₄) E s₃) E s:=by
 refine hna (pN ?_);have fD:H s.heap.objs.size=none:=I.hok.fresh (Nat.le_refl _);have lt:∀b∈fp,b<s.heap.objs.size:=λb hb=>let ⟨o,e,_⟩:=T.obj _ _ st b hb;Heap.lt_size e
 have hf3:∀b∈fp,lV X j0 (upd H s.heap.objs.size u0) b:=λb hb=>⟨by rw[aF (Nat.ne_of_lt (lt b hb))];exact(hf b hb).1,(hf b hb).2⟩;dsimp only;generalize hH2:s.heap.push o0=H2 at I3 ⊢;have hns₁:(pushCells (H2.push {cls:=.type "dict",data:=.dict #[]}) scope.names).Ns H2.objs.size (λ_=>none):=(Heap.Ns.new H2 (.type "dict")).keeps (pushCells_keeps _ _);have hco:CellsOk (pushCells (H2.push {cls:=.type "dict",data:=.dict #[]}) scope.names) (H2.objs.size+1) (cellsFrom (H2.objs.size+1) scope.names []):=by
   have ok:=cellsFrom_ok scope.names (H2.push {cls:=.type "dict",data:=.dict #[]}) (H2.objs.size+1) [] ⟨λ_ _ hm=>(nomatch hm),List.Pairwise.nil⟩ (by rw[Heap.size_push];exact Nat.le_refl _);rw[Heap.size_push] at ok;exact ok
 have keep:∀b o,H2.get? b=some o->(pushCells (H2.push {cls:=.type "dict",data:=.dict #[]}) scope.names).get? b=some o:=λb o e=>pushCells_keeps _ _ b o (wEq _ e);generalize pushCells (H2.push {cls:=.type "dict",data:=.dict #[]}) scope.names=h₁ at hns₁ hco keep ⊢;have hC:H2.objs.size=s.heap.objs.size+1:=by rw[<-hH2,Heap.size_push]
 have Ic:=pS (t':=s.toks) S I3 hf3 (λb hb=>by show b<H2.objs.size;rw[hC];exact Nat.lt_succ_of_lt (lt b hb)) hns₁ keep hco;have stat:∀b∈fp,lV (cxC X N scope cl H2.objs.size {s with heap:=H2,toks:=s.toks} (upd H s.heap.objs.size u0) fp) [] (upd H s.heap.objs.size u0) b:=λb hb =>
   ⟨(hf3 b hb).1,Nat.ne_of_lt (by rw[hC];exact Nat.lt_succ_of_lt (lt b hb)),λz=>(List.mem_cons.mp (I.stkSub b z)).elim (hf b hb).2.1 (hf b hb).2.2.1,.inl hb,λx c e=>(cM e).elim (λz=>Nat.ne_of_gt (wFq (lt b hb) (Nat.le_trans (by rw[hC];omega) z.2.2))) λq=>(hf b hb).2.2.2.2.1 x c (S.cls.look q),(λp hp=>nomatch hp)⟩
 have st1:tn 0 h₁:=T.keep _ _ _ st λb hb o e=>keep b o (by rw[<-hH2];exact wEq _ e);have loop:codeAny (model X.prog X.w) X.A (.compLoop e 0 (.ref it) (.ref s.heap.objs.size) (compEnvC scope (cellsFrom (H2.objs.size+1) scope.names cl) H2.objs.size X.env)) (RR (.ref s.heap.objs.size) H2.objs.size)
     {s with heap:=h₁,toks:=s.toks}:=by
   refine HU (X:=cxC X N scope cl H2.objs.size {s with heap:=H2,toks:=s.toks} (upd H s.heap.objs.size u0) fp) rfl hc Tt T Ic st1 stat (hg _ _ _ _) (ht _ _ _ _) (hb _ _ _ _ _) (q _ fD) ?_;intro Y' H3 s4 I4 qn;obtain⟨mC,hnC,_⟩:=I4.loc;have IX:Inv X j0 Y H3 s4:=I3.call' (ch:=fp) I4.os I4.base I4.hok I4.bare λb hb=>by
     obtain⟨_,f1,_,f3,f4,f5⟩:=hf3 b hb;exact⟨f3,f1,f4,f5⟩
   have up:s.heap.objs.size<=H2.objs.size:=by rw[hC];exact Nat.le_succ _
   have fp0:=I.fpOk (H':=H3) up I4.free;exact hR _ _ s4 ⟨⟨H3,mC,IX,hnC,I4.free,fp0.2.1,fp0.2.2.1,Nat.le_trans I.sz up,fp0.2.2.2.2.1,fp0.2.2.2.2.2,qn⟩⟩
 exact tP Tt loop (T.self _ 0 _ _ _ st1 loop)
def aC9(wi:TI)(g:TG)(ts:TT)(u0:HO)(tb:Addr->TB)(js:List (Option Nat)):TE:=λY H Q=>wi Y H λJ H1=>∀D,H1 D=none->FnW J g ts (tb D) (λ_ H'=>Q (.ref D) H') (AI js Y) (upd H1 D u0)
structure CmK(X:Cx)(e:Expr)(scope:Scope)(j3:Expr)(na:Sem Value)(o0:Obj)(u0:HO):Prop where
 al:∀{s:J5} {Q:Value->J5->Prop} {E:Value->J5->Prop},Q (.ref s.heap.objs.size) {s with heap:=s.heap.push o0,toks:=s.toks}->wpAny (model X.prog X.w) X.A na Q E s
 ev:∃p,eval e X.env=comprehension e scope X.env p na false (eval j3 X.env)
 us:∀use,∃p,evalThenUse e X.env use=(do let _ <-comprehension e scope X.env p na false (eval j3 X.env) (some use))
 ok:∀{j0:List (Addr×Obj)} {Y:St} {H:Hp} {s:J5},Inv X j0 Y H s->Inv X j0 Y (upd H s.heap.objs.size u0) {s with heap:=s.heap.push o0,toks:=s.toks}
def BH:CmK X (.ListComp elt (⟨tg,j3,ifs,0⟩::gs) scope pos) scope j3 (newList []) {cls:=.type "list",dict:=none,data:=.seq ([]:List Value).toArray} (.lst []) :=
 ⟨λh=>wpAny_newObj_type h,⟨_,rfl⟩,λ_=>⟨_,rfl⟩,λI=>I.laid (t':=_) (λb u e=>wEq _ e) (Nat.le_refl _) ⟨Nat.zero_le _,[],0,.nil,wGq _ rfl⟩⟩
variable{na:Sem Value}{o0:Obj}{u0:HO}{gs:List Comprehension}
def aBR(K:CmK X e scope j3 na o0 u0)(hcl:clausesOf e=⟨tg,j3,ifs,0⟩::gs)(Tt:Tn e 0 tg j3 ifs bd)(S:cG X N scope cl js)(hc:X.calm=true)(hi:PI X tg j3 wi)(hg:∀C s₀ H₀ ex,PG (cxC X N scope cl C s₀ H₀ ex) tg g)(ht:∀C s₀ H₀ ex,PTs (cxC X N scope cl C s₀ H₀ ex) ifs ts)
   (hb:∀D C s₀ H₀ ex,PB (cxC X N scope cl C s₀ H₀ ex) (bd D (cxC X N scope cl C s₀ H₀ ex).env) (tb D)) (hs:∀x,foldedSetIterable j3 X.env x=pure x):PE X e (aC9 wi g ts u0 tb js):=by
 intro j0 s Y H Q I h;obtain⟨p,ee⟩:=K.ev;rw[ee];refine wpAny_comprehension_free (use:=none) hcl hs S.clos S.kind S.names (thn (hi j0 s Y H _ I h) λv s1 h1=>thn h1 λitv s2 h2=>?_);obtain⟨it,fp,tn,J,H2,e2,I2,T,st2,f2,q⟩:=h2;subst e2;refine ZH (RR:=λacc C=>compPost (model X.prog X.w) X.A X.xe none (EP X j0 Y Q) acc C) K.al Tt S hc I2 (K.ok I2) T st2 f2 hg ht hb q ?_;rintro D C s' ⟨H',m,I',hn,f0,f1,_,f3,f4,f5,q'⟩;exact⟨m,hn,λh' sb=>⟨.ref D,H',I'.turned (t':=s'.toks) (λb o hb e=>(sb.2 b hb).trans e) f0 f1 (.inr f3) f4 f5,rfl,q'⟩⟩
def VD(K:CmK X e scope j3 na o0 u0)(hcl:clausesOf e=⟨tg,j3,ifs,0⟩::gs)(Tt:Tn e 0 tg j3 ifs bd)(S:cG X N scope cl js)(hc:X.calm=true)(hN:X.N.Nodup)(hi':X.N[i]? =some y)(hy:X.env.scope.names.lookup y=some .local)(hi:PI X tg j3 wi)
   (hg:∀C s₀ H₀ ex,PG (cxC X N scope cl C s₀ H₀ ex) tg g) (ht:∀C s₀ H₀ ex,PTs (cxC X N scope cl C s₀ H₀ ex) ifs ts) (hb:∀D C s₀ H₀ ex,PB (cxC X N scope cl C s₀ H₀ ex) (bd D (cxC X N scope cl C s₀ H₀ ex).env) (tb D))
   (hsw:swapsWith e (some (.Name y py)) spos.line X.env=pure true) (hs:∀x,foldedSetIterable j3 X.env x=pure x):PS X (.Assign [.Name y py] e spos) (JQ (aC9 wi g ts u0 tb js) (zW i)):=by
 intro j0 s Y H D' I h;rw[exec_Assign_Name_used _ _ _ _ hsw];obtain⟨p,ee⟩:=K.us (assign (.Name y py) X.env);rw[ee];refine wAq (wpAny_standAt (wAq ?_));refine wAq (wpAny_mono (wpAny_comprehension_free (use:=some (assign (.Name y py) X.env)) (Q:=λ_ s'=>SP X j0 D' .next s') hcl hs S.clos S.kind S.names
   (thn (hi j0 s Y H _ I h) λv s1 h1=>thn h1 λitv s2 h2=>?_)) (λ_ s' hq=>wBq (wBq hq)) λ_ _ e=>e)
 obtain⟨it,fp,tn,J,H2,e2,I2,T,st2,f2,q⟩:=h2;subst e2;refine ZH (Q:=λx H1=>zW i x Y H1 D'.nx) (RR:=λacc C=>compPost (model X.prog X.w) X.A X.xe (some (assign (.Name y py) X.env)) (λ_ s'=>SP X j0 D' .next s') acc C) K.al Tt S hc I2 (K.ok I2) T st2 f2 hg ht hb q ?_;rintro D C s' ⟨H',m,I',hn,f0,f1,f2',f3,f4,f5,q'⟩;obtain⟨oC,es,ep,hoC,hdC,hrC⟩:=hn;have Ip:Inv X (j0++[(C,oC)]) Y H' s':=I'.pins_of λp hp=>(List.mem_append.mp hp).elim (λz=>I'.pin p (List.mem_append_right _ z)) λz=>by
   rw[List.mem_singleton.mp z];exact⟨hoC,f0,f1,f2',λv z=>by rw[hdC] at z;cases z⟩
 show wpAny _ X.A (assign (.Name y py) X.env (.ref D)) _ _ _;refine thn (yM (i:=i) hN hi' (.inl hy) (.inr hy) _ s' Y H' (.ref D) (.ref D) _ Ip rfl q') λ_ s'' zz=>?_;obtain⟨Y',H'',I'',q''⟩:=zz;have pc:=I''.pin (C,oC) (List.mem_append_right _ (List.mem_append_right _ (List.mem_singleton.mpr rfl)));refine⟨m,⟨oC,es,ep,pc.1,hdC,hrC⟩,λh' sb=>⟨Y',H'',?_,q''⟩⟩;exact(I''.unpinned).turned (t':=s''.toks) (λb o hb e=>(sb.2 b hb).trans e) pc.2.1 f1 (.inr f3) f4 f5
end
section
variable{X:Cx}{j0:List (Addr×Obj)}{Y:St}{H:Hp}{s:J5}{h':Heap}
end
section
variable{X:Cx}
end
section
variable{X:Cx}
end
end L2
namespace LE
open PySem PySem.W PySem.Calls PyProof.Rows Builtin
section
variable{prog:J7}{w:World}{A:Around}{E:Value->J5->Prop}{s:J5}{K:Frag}{x C L f:Addr}{h₀:Heap}{m:Str->Option Value}{ox:Obj}{od:Option Obj}{b tb:Value}
end
end LE
namespace L2
open PySem PySem.Spec PyProof.Rows
section
variable{X:Cx}
structure NeC(K:W.Frag)(C:Addr):Prop where
 ne:W.findIn K (.ref C) "__ne__"=some (some (.builtin "object.__ne__"))
 ob:W.subIn K (.ref C) (.type "object")=some true
 bo:W.findIn K (.ref C) "__bool__"=some none
end
end L2
namespace LE
open PySem PyProof.Rows
open AutoSeq1 (wpAny_loadPart')
open MeetsSeq MeetsSeq2 MeetsSeq3 SeqRoads2 SeqAt
end LE
namespace HT
open PySem PySem.Spec PyProof.Rows
section
variable{prog:J7}{w:World}{A:Around}{E:Value->J5->Prop}{s:J5}
def oO{sl:Addr}{vs:Value}{n:Nat}{Q:Int×Int×Nat->J5->Prop}(hs:s.heap.IsSliceOf sl .none .none vs)(ps:IsPart vs (some (-1)))
   (h:Q ((n:Int)-1,-1,n) s):wpAny (model prog w) A (Builtin.Slice.sliceApplied (.ref sl) (pure (n:Int))) Q E s:=by
 obtain⟨os,hos,hcs,hds⟩:=id hs;unfold Builtin.Slice.sliceApplied Builtin.Slice.sliceFields;refine wAq (wAq (wpAny_field hos hds (x:=.none) rfl (wAq (wpAny_field hos hds (x:=.none) rfl (wAq (wpAny_field hos hds (x:=vs) rfl (wBq ?_)))))));refine wAq (lX ps ?_);show wpAny _ _ (if ((-1:Int)==0)=true then _ else _) _ _ s;rw[j9 ddq];refine wAq (slicePart_none (wAq (slicePart_none (wAq (wBq ?_)))));have e1:Builtin.Slice.sliceAdjust none none (-1) (n:Int)=((n:Int)-1,-1):=rfl;have e2:Builtin.Slice.slicePlaces ((n:Int)-1) (-1) (-1)=n:=by
   unfold Builtin.Slice.slicePlaces;rw[j9 ddq];split
   . rw[show(- -1:Int)=1 from rfl,Int.ediv_one];omega
   . omega
 show wpAny _ _ (match Builtin.Slice.sliceAdjust none none (-1) (n:Int) with|(lo,hi)=>pure (lo,(-1:Int),Builtin.Slice.slicePlaces lo hi (-1))) _ _ s;rw[e1];show wpAny _ _ (pure ((n:Int)-1,(-1:Int),Builtin.Slice.slicePlaces ((n:Int)-1) (-1) (-1))) _ _ s;rw[e2];exact wBq h
def LK(its:List Value):((List.range its.toArray.size).filterMap λ(m:Nat)=>its.toArray[((its.toArray.size:Int)-1+(m:Int) * -1).toNat]?).toArray=its.reverse.toArray:=by
 congr 1
 have e2:(List.range its.toArray.size).filterMap (λ(m:Nat)=>its.toArray[((its.toArray.size:Int)-1+(m:Int) * -1).toNat]?)=(List.range its.reverse.length).filterMap (λk=>its.reverse[k]?):=by
   rw[List.length_reverse,wIq];refine L2.uM _ λk hk=>?_;have hk':k<its.length:=List.mem_range.mp hk;rw[List.getElem?_reverse hk'];have:((its.length:Int)-1+(k:Int) * -1).toNat=its.length-1-k:=by omega
   rw[this];simp
 rw[e2,L2.mD]
def nD{its:List Value}(ht:IsTup s.heap t its.toArray)(hs:s.heap.IsSliceOf sl .none .none vs)(ps:IsPart vs (some (-1)))
   (h:Q (.ref s.heap.objs.size) {s with heap:=s.heap.push {cls:=.type "tuple",data:=.seq its.reverse.toArray}})
   (hsz:its.length<=sizeLine):wpAny (model prog w) A (getItem (.ref t) (.ref sl)) Q E s:=by
 have htake:sizeOk (.seq its.reverse.toArray):=by
   show its.reverse.toArray.size<=sizeLine;rw[wIq,List.length_reverse];exact hsz
 obtain⟨os,hos,hcs,hds⟩:=id hs;have hTs:s.TypeIs (.ref sl) "slice":=⟨os,hos,hcs⟩;unfold getItem
 try with_reducible refine wpAny_holding ?_
 first|refine wAq (wBq ?_)|skip
 refine wAq (wpAny_sequenceKey ht.typeIs ddq ?_);refine wAq (wpAny_callSpecial?_slot (name:=Str.ofString "__getitem__") ht.typeIs PyProof.Rows.slot_tuple_getitem
   (wpAny_call_entry PyProof.Rows.slot_tuple_getitem ht.typeIs entry_tuple_getitem ?_ (args_tuple_getitem _ _)))
 show wpAny _ _ (Builtin.Tuple.tupleItemsOf (.ref t)>>=_) _ _ s;refine wAq (tupleItemsOf_ ht ?_);refine wAq (wpAny_typeOf hTs ?_);rw[ja ddq];refine wAq (oO hs ps ?_);have hno:¬((((its.toArray.size:Int)-1==0)&&(-1:Int)==1&&its.toArray.size==its.toArray.size)=true):=by
   rw[show((-1:Int)==1)=false from rfl,Bool.and_false,Bool.false_and];exact Bool.false_ne_true
 show wpAny _ _ (if (((its.toArray.size:Int)-1==0)&&(-1:Int)==1&&its.toArray.size==its.toArray.size)=true then _ else _) _ _ s;rw[j9 hno,LK];first
   | exact wAq (m:=Builtin.Tuple.tupleExact _) (wpAny_newObj_type (wBq ⟨_,rfl,wBq h⟩) htake)
   | exact wAq (m:=Builtin.Tuple.tupleExact _) (wpAny_newObj_type (wAq (wBq (wBq ⟨_,rfl,wBq h⟩))) htake)
   | exact wAq (wAq (m:=Builtin.Tuple.tupleExact _) (wpAny_newObj_type (wBq (wBq ⟨_,rfl,wBq h⟩)) htake))
   | exact wAq (wAq (m:=Builtin.Tuple.tupleExact _) (wpAny_newObj_type (wBq ⟨_,rfl,wBq h⟩) htake))
end
end HT
namespace L2
open PySem PySem.Spec PyProof.Rows
section
variable{X:Cx}{j0:List (Addr×Obj)}{Y:St}{H:Hp}{s:J5}{a:Addr}{xs:List V}
end
section
variable{X:Cx}{o e:Expr}{to te:TE}{pos apos:Pos}
def aED(K:W.Frag)(te:TE):TE:=λY H Q=>te Y H λx H1=>∃p xs,x= .ref p/\((H1 p=some (.lst xs)/\∀q,H1 q=none->Q (.ref q) (upd H1 q (.lst xs.reverse)))∨(SqT K H1 p xs/\∀q,H1 q=none->Q (.ref q) (upd H1 q (.tup xs.reverse))))
def VX(he:PE X e te):PE X (.Subscript e (.Slice none none (some (.UnaryOp .USub (.Constant (.int 1) k1 p1) p2)) p3) pos) (aED X.K te):=by
 intro j0 s Y H Q I h;refine Subscript_ (thn (he j0 s Y H _ I h) λv s1 zz=>?_);obtain⟨x,H1,I1,r1,p,xs,ex,hq⟩:=zz;subst ex;cases r1;refine wpAny_Slice ?_;rw[evalPart_none];refine wBq ?_;refine wBq ?_;refine thn ((GZ (ZG OQ (SO (X:=X)))) j0 s1 Y H1 (λo H2=>o=some (-1)/\H2=H1) I1 ⟨_,rfl,_,rfl,rfl,rfl⟩) λvs s2 zz=>?_;obtain⟨o,H2,I2,ps,eo,eH⟩:=zz;subst eo eH;have I3:Inv X j0 Y H2 {s2 with heap:=s2.heap.push {cls:=.type "slice",data:=.fields #[.none,.none,vs]}}:=I2.kept (t':=s2.toks) λb ob q=>wEq _ q;rcases hq with ⟨hp,q⟩|⟨hp,q⟩
 . obtain⟨its,rv,ht,hz⟩:=I3.list (SqL.of hp);have hlen:=rv.length;refine tail_any (ops:=[.ref p,.ref s2.heap.objs.size]) ht.isList.typeIs slot_list_getitem.lookup ?_ (by with_unfolding_all rfl);refine wpAny_getItem_list_slice (lo:=none) (hi:=none) ht.isList (Heap.IsSliceOf.new ..) .none .none ps ddq ?_ (by rw[wIq]<;>omega);rw[QH];refine⟨.ref _,_,I3.laid (t':=s2.toks) (o:=.lst xs.reverse) (λb ob q=>wEq _ q) (Nat.le_refl _) ?_,rfl,q _ (I3.hok.fresh (Nat.le_refl _))⟩;exact⟨by rw[List.length_reverse];exact hz,_,0,rv.reverse,wGq _ rfl⟩
 . obtain⟨its,rv,ht,hz⟩:=I3.tuple hp;have hlen:=rv.length;refine tail_any (ops:=[.ref p,.ref s2.heap.objs.size]) ht.typeIs PyProof.Rows.slot_tuple_getitem.lookup ?_ (by with_unfolding_all rfl);refine HT.nD ht (Heap.IsSliceOf.new ..) ps ?_ ooq;refine⟨.ref _,_,I3.laid (t':=s2.toks) (o:=.tup xs.reverse) (λb ob q=>wEq _ q) (Nat.le_refl _) ?_,rfl,q _ (I3.hok.fresh (Nat.le_refl _))⟩;exact⟨by rw[List.length_reverse];exact hz,_,rv.reverse,dB.new _ _⟩
end
section
variable{X:Cx}{a:Addr}{es:Array DictEntry}{n:Nat}
end
section
variable{X:Cx}{pos:Pos}
end
end L2
namespace HT
open PySem PySem.Spec PyProof PyProof.Rows
section
variable{prog:J7}{w:World}{A:Around}{E:Value->J5->Prop}{s:J5}
def lC{t sl:Addr}{items:Array Value}{vl vu:Value}{lo hi:Option Int}{Q:Value->J5->Prop}(ht:IsTup s.heap t items)(hs:s.heap.IsSliceOf sl vl vu .none)(pl:IsPart vl lo)(pu:IsPart vu hi)
   (hw:sIx items.size 0 lo=0/\sIx items.size items.size hi=items.size)
   (h:Q (.ref t) s):wpAny (model prog w) A (getItem (.ref t) (.ref sl)) Q E s:=by
 obtain⟨os,hos,hcs,hds⟩:=id hs;have hTs:s.TypeIs (.ref sl) "slice":=⟨os,hos,hcs⟩;unfold getItem
 try with_reducible refine wpAny_holding ?_
 first|refine wAq (wBq ?_)|skip
 refine wAq (wpAny_sequenceKey ht.typeIs ddq ?_);refine wAq (wpAny_callSpecial?_slot (name:=Str.ofString "__getitem__") ht.typeIs PyProof.Rows.slot_tuple_getitem
   (wpAny_call_entry PyProof.Rows.slot_tuple_getitem ht.typeIs entry_tuple_getitem ?_ (args_tuple_getitem _ _)))
 show wpAny _ _ (Builtin.Tuple.tupleItemsOf (.ref t)>>=_) _ _ s;refine wAq (tupleItemsOf_ ht ?_);refine wAq (wpAny_typeOf hTs ?_);rw[ja ddq];refine wAq (gY hs pl pu ?_);have hno:(((sIx items.size 0 lo:Nat):Int)==0&&(1:Int)==1&&(sIx items.size items.size hi-sIx items.size 0 lo)==items.size)=true:=by
   rw[hw.1,hw.2];simp
 show wpAny _ _ (if (((sIx items.size 0 lo:Nat):Int)==0&&(1:Int)==1&&(sIx items.size items.size hi-sIx items.size 0 lo)==items.size)=true then _ else _) _ _ s;rw[ja hno];unfold Builtin.Tuple.tupleIsExact;refine wAq (wAq (wpAny_typeOf ht.typeIs (wBq ?_)));rw[ja ddq];refine wAq (wpAny_rule ?_);first
   | exact wAq (wBq ⟨_,rfl,wBq h⟩)
   | exact wAq (wBq (wBq ⟨_,rfl,wBq h⟩))
   | exact wBq ⟨_,rfl,wBq h⟩
end
end HT
namespace L2
open PySem PySem.Spec PyProof.Rows
section
variable{X:Cx}
def aGd(K:W.Frag):V->Option Int->Option Int->Hp->VK->Prop:=λx lo hi H Q=>∃a xs,x= .ref a/\SqT K H a xs/\
 (HT.sIx xs.length 0 lo=0/\HT.sIx xs.length xs.length hi=xs.length)/\Q (.ref a) H
def UL:SlR X (aGd X.K):=by
 intro j0 s Y H x v vl vu lo hi sl Q I rx hs pl pu h;obtain⟨a,xs,rfl,hx,hw,q⟩:=h;cases rx;obtain⟨its,r,ht,hz⟩:=I.tuple hx;have hlen:its.toArray.size=xs.length:=by rw[wIq];exact r.length.symm
 refine⟨"tuple",_,PyProof.Rows.slot_tuple_getitem.lookup,ht.typeIs,?_⟩;exact HT.lC ht hs pl pu (by rw[hlen];exact hw) ⟨.ref a,_,I,rfl,q⟩
end
section
variable{X:Cx}{e:Expr}{te:TE}{pos:Pos}
end
end L2
namespace LR
open PySem PySem.W PyProof PyProof.Rows
section
variable{prog:J7}{w:World}{A:Around}{E:Value->J5->Prop}{s:J5}{K:Frag}{x C L f:Addr}{h₀:Heap}{m:Str->Option Value}{ox:Obj}{od:Option Obj}{a:Value}
open PySem.AutoSeq1 (wpAny_loadPart') in
theorem XQ(ho:s.heap.get? x=some {cls:=.ref C,dict:=some dx,data:=.plain,slots:=sl})(q:Q' .notImplemented s) :
   wpAny (model prog w) A (call (.builtin "int.__eq__") [.int i u,.ref x]) Q' E s:=by
 refine wpAny_call_entry PySem.F.slot_int_eq (s:=s) rfl PySem.F.entry_int_eq ?_ (PySem.F.args_int_eq_2 _ _);obtain⟨hp,g,d,tk,os⟩:=s
 wp_walk using wpAny_loadPart' ho
 exact⟨_,rfl,q⟩
open PySem.AutoSeq1 (wpAny_loadPart') in
theorem aEG(ho:s.heap.get? x=some {cls:=.ref C,dict:=some dx,data:=.plain,slots:=sl})(q:Q' .notImplemented s) :
   wpAny (model prog w) A (call (.builtin "int.__eq__") [.bool b,.ref x]) Q' E s:=by
 refine wpAny_call_entry PySem.F.slot_bool_eq (s:=s) rfl PySem.F.entry_int_eq ?_ (PySem.F.args_int_eq_2 _ _);obtain⟨hp,g,d,tk,os⟩:=s
 wp_walk using wpAny_loadPart' ho
 exact⟨_,rfl,q⟩
open PySem.AutoSeq1 (wpAny_loadPart') in
theorem XM(ho:s.heap.get? x=some {cls:=.ref C,dict:=some dx,data:=.plain,slots:=sl})(q:Q' .notImplemented s) :
   wpAny (model prog w) A (call (.builtin "str.__eq__") [.str z u,.ref x]) Q' E s:=by
 refine wpAny_call_entry PySem.F.slot_str_eq (s:=s) rfl PySem.F.entry_str_eq ?_ (PySem.F.args_str_eq_2 _ _);obtain⟨hp,g,d,tk,os⟩:=s
 wp_walk using wpAny_loadPart' ho
 exact⟨_,rfl,q⟩
variable{y D:Addr}{oy:Obj}{oyd:Option Obj}
end
end LR
namespace L2
open PySem PySem.Spec PyProof.Rows
section
variable{X:Cx}
noncomputable def aD3:List J6:=["NoneType","bool","int","str","list","tuple","dict"]
structure EqL(K:W.Frag)(C:Addr):Prop where
 nt:∀T∈aD3,W.subIn K (.ref C) (.type T)=some false
 tn:∀T∈aD3,W.subIn K (.type T) (.ref C)=some false
structure EqD(K:W.Frag)(C D:Addr):Prop where
 ne:D≠C
 cd:W.subIn K (.ref C) (.ref D)=some false
 dc:W.subIn K (.ref D) (.ref C)=some false
inductive BuV(K:W.Frag)(H:Hp):V->Prop
 | non:BuV K H .non
 | bl (b:Bool):BuV K H (.bl b)
 | int (i:Int):BuV K H (.int i)
 | str (z:Str):BuV K H (.str z)
 | tup {a:Addr} {xs:List V}:SqT K H a xs->BuV K H (.ref a)
 | lst {a:Addr} {xs:List V}:SqL K H a xs->BuV K H (.ref a)
 | dK {a:Addr} {kvs:List (Key×V)}:H a=some (.dK kvs)->BuV K H (.ref a)
end
end L2
namespace LR
open PySem PyProof.Rows
open AutoSeq1 (wpAny_loadPart')
open MeetsSeq MeetsSeq2 MeetsSeq3 SeqRoads2
end LR
namespace L2
open PySem PySem.Spec PyProof.Rows
section
variable{X:Cx}
inductive ItV(X:Cx)(k:Nat)(C p:Addr)(H:Hp):V->List V->Sp->Prop
 | bu {y:V} {f:Addr} {fd:J8} {sp:Sp}:BuV X.K H y->EqL X.K C->wB X.K C "__eq__" f->bM X.prog X.w X.K X.mg X.base CX0 k f fd ["self","other"] sp->bG X.K fd ["self","other"] []->ItV X k C p H y [.ref p,y] sp
 | own {a D dx f:Addr} {fs:List (Str×V)} {fd:J8} {sp:Sp}:a≠p->H a=some (.ins D dx fs)->(C=D∨W.subIn X.K (.ref C) (.ref D)=some false)->wB X.K D "__eq__" f->bM X.prog X.w X.K X.mg X.base CX0 k f fd ["self","other"] sp->bG X.K fd ["self","other"] []->ItV X k C p H (.ref a) [.ref a,.ref p] sp
end
end L2
namespace LR
open PySem PyProof.Rows
open AutoSeq1 (wpAny_loadPart')
open MeetsSeq MeetsSeq2 MeetsSeq3 SeqRoads2
end LR
namespace L2
open PySem PySem.Spec PyProof.Rows
section
variable{X:Cx}
def inT(X:Cx)(k:Nat)(C:Addr)(p:Addr)(Q:Bool->Hp->Prop):List V->Hp->Prop
 | [],H=>Q false H
 | y::r,H=>(∃dx fs,H p=some (.ins C dx fs))/\((y= .ref p/\Q true H)∨(∃vs sp,ItV X k C p H y vs sp/\sp vs H (λv H'=>∃b,v= .bl b/\if b=true then Q true H' else inT X k C p Q r H') E0))
end
end L2
namespace LR
open PySem PyProof.Rows
open AutoSeq1 (wpAny_loadPart')
open MeetsSeq MeetsSeq2 MeetsSeq3 SeqRoads2
end LR
namespace L2
open PySem PySem.Spec PyProof.Rows
section
variable{X:Cx}
end
end L2
namespace PySem.W
open PySem PySem.Calls PyProof.Rows PyProof.V PySem.Spec
section
variable{prog:J7}{w:World}{K:Type}[DecidableEq K]{knd:KeyKind prog w K}{A:Around}{E:Value->J5->Prop}{s:J5}
end
end PySem.W
namespace L2
open PySem PySem.Spec PyProof.Rows
section
variable{X:Cx}
end
end L2
namespace L2
open PySem PySem.Spec
open PyProof.Rows hiding St
def QZ(h:Heap)(lo:Nat)(H:Hp)(e:Addr)(C:Value)(d:Option Addr):Prop :=
 lo<=e/\H e=none/\∃oe vs,h.get? e=some oe/\oe.cls=C/\oe.dict=d/\oe.data= .fields vs/\(1<vs.size/\vs[2]? =some Value.none)/\
   ∃T oT ts fl,vs[1]? =some (.ref T)/\lo<=T/\H T=none/\T≠e/\h.get? T=some oT/\oT.data= .fields ts/\ts[3]? =some fl
noncomputable def aGg(h:Heap)(lo:Nat)(H:Hp)(e:Addr)(C:Value)(d:Option Addr):Prop :=
 lo<=e/\H e=none/\∃oe vs,h.get? e=some oe/\oe.cls=C/\oe.dict=d/\oe.data= .fields vs/\(1<vs.size/\vs[2]? =some Value.none)/\vs[1]? =some .none
def aDG(h:Heap)(lo:Nat)(H:Hp)(e:Addr)(C:Value)(d:Option Addr):Prop:=aGg h lo H e C d∨QZ h lo H e C d
section
variable{M:Model}{A:Around}{E:Value->J5->Prop}{s:J5}{base:Heap}{env:Env}{outer:List Env}{L e:Addr}{C:Value}{d:Option Addr}{lo:Nat}{H:Hp}
end
noncomputable def Cx.lo(X:Cx):Nat:=X.pn.foldr (λp n=>max (p.1+1) n) X.s₀.heap.objs.size
section
variable{X:Cx}{j0:List (Addr×Obj)}{Y:St}{H:Hp}{s:J5}
def Inv.lo_le(I:Inv X j0 Y H s):X.lo<=s.heap.objs.size:=by
 have h:∀l:List (Addr×Obj),(∀p∈l,p.1<s.heap.objs.size)->l.foldr (λp n=>max (p.1+1) n) X.s₀.heap.objs.size<=s.heap.objs.size:=λl=>by
   induction l with
   | nil=>intro _;exact I.sz
   | cons p r ih=>intro h;exact Nat.max_le.mpr ⟨h p (wDq ..),ih λq hq=>h q (wCq _ hq)⟩
 exact h X.pn λp hp=>Heap.lt_size (I.pin p (List.mem_append_left _ hp)).1
def Inv.nopins(I:Inv X j0 Y H s):Inv X [] Y H s:=I.pins_of λ_ z=>nomatch z
end
def CXo(P:J7)(w:World):CXT:=λouter H s E e s'=>∃a C d H',e= .ref a/\s'.os=s.os/\AllBare s'.gens/\Un (frs outer) [] H H' s.heap s'.heap/\HOk P w H' s'.heap/\QZ s'.heap s.heap.objs.size H' a C d/\E C d H'
noncomputable def xeO(X:Cx)(E:XK):Value->J5->Prop:=λe s'=>∃a C d Y H',e= .ref a/\Inv X [] Y H' s'/\aDG s'.heap X.lo H' a C d/\E C d H'
structure Own(X:Cx):Prop where
 st:X.stack=X.env::X.outer
 fr:X.env.frame=some X.env.locals
def QZ.mono{h:Heap}{lo lo':Nat}{H:Hp}{e:Addr}{C:Value}{d:Option Addr}(x:QZ h lo H e C d)(hl:lo'<=lo):QZ h lo' H e C d:=by
 obtain⟨le,he0,oe,vs,he,hc,hdd,hd,hsz,T,oT,ts,fl,h1,lT,r⟩:=x;exact⟨Nat.le_trans hl le,he0,oe,vs,he,hc,hdd,hd,hsz,T,oT,ts,fl,h1,Nat.le_trans hl lT,r⟩
section
variable{X:Cx}{E:XK}
end
end L2
namespace LX
open PySem PySem.W PyProof.Rows
open PySem.Builtin PySem.Builtin.ObjectAttr
noncomputable def vE:List Value:=[.type "ValueError",.type "Exception",.type "BaseException",.type "object"]
noncomputable def aE:List Value:=[.type "ArithmeticError",.type "Exception",.type "BaseException",.type "object"]
noncomputable def lE:List Value:=[.type "LookupError",.type "Exception",.type "BaseException",.type "object"]
def SM:List Value->Bool
 | .ref _::r=>SM r
 | l=>l==vE||l==aE||l==lE
def GW(K:Frag)(C:Addr):Bool:=(clsIn K C).any λcd=>SM cd.mro
section
variable{prog:J7}{w:World}{A:Around}{E:Value->J5->Prop}{s:J5}{K:Frag}{x C:Addr}{name:Str}{v:Value}{R:Result->J5->Prop}
end
end LX
namespace LX
open PySem PySem.W PyProof.Rows
open PySem.Builtin PySem.Builtin.ObjectAttr
noncomputable abbrev exO(C:Value)(d:Option Addr)(t:Addr):Obj:={cls:=C,dict:=d,data:=.fields #[.ref t,.none,.none,.none,.bool false,.none]}
section
variable{prog:J7}{w:World}{A:Around}{E:Value->J5->Prop}{h:Heap}{g:Array GenState}{d:Drawn}{t:Nat}{os:OsState}
variable{nm q:Str}{C N:Addr}{bs bm bmB:List Value}{hdct:Bool}{sn:List Str}{sub:List Value}{ab:Bool}{col:Option Bool}{dd:Option Addr}{k0 k1 k2 k3 k5:Option Value}{B newId initId:J6}
end
end LX
namespace LX
open PySem PySem.W PyProof.Rows
noncomputable def aAr(K:Frag)(C:Addr)(bmB:List Value)(newId:J6)(iv:Option Value):Bool:=match K.lookup C with
 | some ⟨.type "type",_,.cls cd,sl⟩=>(match cd.mro,sl.toList with
   | .ref C'::bm,[_,_,_,_,some (.builtin n),_]=>C'==C&&n==newId&&!cd.hasDel&&tailIn K bmB bm&&nsOkIn K cd.ns&&nsIn K cd.ns "__init__"==some iv
   | _,_=>false)
 | _=>false
end LX
namespace L2
open PySem PySem.Spec
open PyProof.Rows hiding St
def XN(e C:Addr):Heap->Prop:=λh=>∃t,h.get? e=some (LX.exO (.ref C) none t)
def XD(e C d:Addr):Heap->Prop:=λh=>∃t,h.get? e=some (LX.exO (.ref C) (some d) t)
section
variable{P:J7}{w:World}{H:Hp}{h:Heap}{e C d:Addr}
end
section
variable{X:Cx}{j0:List (Addr×Obj)}{Y:St}{H:Hp}{s:J5}
end
structure XIn(K:W.Frag)(mg:Str->Option Value)(C f:Addr)(Bn fld:Str):Prop where
 ex :∃B newId initId bmB BC,ExcBaseFacts B newId initId bmB/\LX.aAr K C bmB newId (some (.ref f))=true/\mg Bn=some (.ref BC)/\W.readsIn K BC (.type "type")=true/\
   W.findCls K (.ref BC) (.type "type") "__init__"=some (.val (.builtin initId))/\W.handedIn (.builtin initId)=true/\W.specialIn K (.ref BC) "__getattribute__"=some (some (.builtin "type.__getattribute__"))
 sa:W.findIn K (.ref C) "__setattr__"=some (some (.builtin "object.__setattr__"))
 ov:LX.GW K C=true
 na:W.takerIn K C fld=some none
 hd:W.hasDictIn K C=true
 kp:W.keepIn K (.ref C)=true
 fn:W.isFn K (.ref f)=true
section
variable{X:Cx}{C f:Addr}{Bn fld self arg:Str}{p1 p2 p3 p4 p5 p6:Pos}{j:Nat}{t:Str}{i i2:Nat}
end
def spI(C:Addr)(fld:Str):Sp:=λvs H Q _=>∃e v,vs=[.ref e,v]/\H e=some (.ext (XN e C))/\∀d,H d=none->Q .non (upd (upd H e (.ext (XD e C d))) d (.xd [(fld,v)]))
section
variable{X:Cx}{C f:Addr}{Bn fld x:Str}{np cpos pos:Pos}{e:Expr}{te:TE}{k:Nat}{fd:J8}{ps:List Str}{EX:XK}
end
noncomputable def Cx.pin(X:Cx)(j0:List (Addr×Obj)):Cx:={X with pn:=X.pn++j0}
section
variable{X:Cx}{j0:List (Addr×Obj)}{Y:St}{H:Hp}{s:J5}{e:Value}
end
end L2
namespace LX
open PySem PySem.W PyProof.Rows
noncomputable def aCT(K:Frag)(c:Addr):Bool:=(clsIn K c).isSome
def aEb(K:Frag)(c:Addr):Bool:=aCT K c&&subIn K (.ref c) (.type "BaseException")==some true
noncomputable def aAe(K:Frag)(Ca:Addr):List Addr->Option Bool
 | []=>some false
 | c::r=>match subIn K (.ref Ca) (.ref c) with
   | some true=>some true
   | some false=>aAe K Ca r
   | none=>none
section
variable{M:Model}{A:Around}{E:Value->J5->Prop}{s:J5}{K:Frag}
end
end LX
namespace L2
open PySem PySem.Spec
open PyProof.Rows hiding St
noncomputable def XC(a:Addr)(C:Value)(d:Option Addr):Heap->Prop:=λh=>∃oe vs,h.get? a=some oe/\oe.cls=C/\oe.dict=d/\oe.data= .fields vs
theorem aBi{q:Str×Pos×Addr}{l:List (Str×Pos×Addr)}:starEach (.Name q.1 q.2.1::l.map λq=>Expr.Name q.1 q.2.1) env=(false,eval (.Name q.1 q.2.1) env)::starEach (l.map λq=>Expr.Name q.1 q.2.1) env:=rfl
end L2
namespace LX
open PySem PySem.W PyProof.Rows
open PySem.Builtin PySem.Builtin.ObjectAttr
section
variable{prog:J7}{w:World}{A:Around}{E:Value->J5->Prop}{s:J5}{K:Frag}{x C:Addr}
end
end LX
namespace L2
open PySem PySem.Spec
open PyProof.Rows hiding St
structure XAt(K:W.Frag)(C:Addr):Prop where
 ga:W.findIn K (.ref C) "__getattribute__"=some (some (.builtin "BaseException.__getattribute__"))
 gh:W.findIn K (.ref C) "__getattr__"=some none
 ov:LX.GW K C=true
 hd:W.hasDictIn K C=true
 ha:W.findIn K (.ref C) "__class__"=some (some (.builtin "object.__class__"))
 hn:W.specialIn K (.builtin "object.__class__") "__get__"=some (some (.builtin "getset_descriptor.__get__"))
 ht:W.takesIn K (.builtin "object.__class__")=some true
 hm:W.mroIn K C (.type "object")=some true
def XcH(H:Hp)(a:Addr)(C:Value)(d:Option Addr):Prop:= ∃o,H a=some (.frz o (.ext (XC a C d)))
section
variable{X:Cx}{j0:List (Addr×Obj)}{Y:St}{H:Hp}{s:J5}{a C:Addr}{A:Around}{E:Value->J5->Prop}
end
end L2
namespace L2
open PySem PySem.Spec PyProof.Rows
section
variable{X:Cx}
def GX{Y:St}{s:J5}{p:Addr}{ns:List Int}(I:Inv X j0 Y H s)(hp:H p=some (.lst (ns.map V.int)))(hne:ns≠[]) :
   ∃xs,s.heap.IsList p (intItems xs)/\0<xs.size/\ns.length=xs.size/\∀j,j<xs.size->∃h:j<ns.length,numAt xs j=ns[j]:=by
 obtain⟨_,its,n,rv,ho⟩:=I.hok _ _ hp;have hl:s.heap.IsList p its.toArray:=⟨_,ho,rfl,n,rfl⟩;have hi:IntsAre its ns:=iF rv;obtain⟨xs,hx⟩:=hi.allInts.items;have e1:ns=xs.toList.map (·.1):=by
   rw[<-nums_intItems,<-hx];exact(show numsOf its.toArray.toList=ns from hi.numsOf).symm
 have hsz:ns.length=xs.size:=by rw[e1];simp
 exact⟨xs,hx▸hl,by rw[<-hsz];exact List.length_pos_iff.mpr hne,hsz,λj hj=>⟨by omega,by subst e1;simp[numAt,hj]⟩⟩
def MD(hc:X.calm=true):aU X (.builtin "max") (λxs H Q=>∃(p:Addr) (ns:List Int),xs=[.ref p]/\H p=some (.lst (ns.map V.int))/\ns≠[]/\∀m,m∈ns->(∀x∈ns,x<=m)->Q (.int m) H):=by
 rintro j0 s Y H xs us Q I r ⟨p,ns,e,hp,hne,q⟩;subst e;obtain⟨u,rfl,ru⟩:=dI r;cases ru;obtain⟨xs,hl,hpos,hsz,num⟩:=GX I hp hne;refine max_intList (I.ok.hd hc) hl hpos λv h' tk hP hk=>?_;obtain⟨t,rfl⟩:=intItems_at hP;obtain⟨b1,b2⟩:=argBest_gt (numAt xs) (xs.size-1);refine⟨.int _,H,I.kept (t':=tk) hk,⟨_,rfl⟩,q _ ?_ λx hx'=>?_⟩
 . obtain⟨h1,h2⟩:=num _ (show argBest (λi j=>decide (numAt xs i>numAt xs j)) (xs.size-1)<xs.size by omega);rw[h2];exact List.getElem_mem h1
 . obtain⟨j,hj,rfl⟩:=List.getElem_of_mem hx';obtain⟨h1,h2⟩:=num j ooq;rw[<-h2];exact b2 j ooq
def MG(hc:X.calm=true):aU X (.builtin "min") (λxs H Q=>∃(p:Addr) (ns:List Int),xs=[.ref p]/\H p=some (.lst (ns.map V.int))/\ns≠[]/\∀m,m∈ns->(∀x∈ns,m<=x)->Q (.int m) H):=by
 rintro j0 s Y H xs us Q I r ⟨p,ns,e,hp,hne,q⟩;subst e;obtain⟨u,rfl,ru⟩:=dI r;cases ru;obtain⟨xs,hl,hpos,hsz,num⟩:=GX I hp hne;refine min_intList (I.ok.hd hc) hl hpos λv h' tk hP hk=>?_;obtain⟨t,rfl⟩:=intItems_at hP;obtain⟨b1,b2⟩:=argBest_lt (numAt xs) (xs.size-1);refine⟨.int _,H,I.kept (t':=tk) hk,⟨_,rfl⟩,q _ ?_ λx hx'=>?_⟩
 . obtain⟨h1,h2⟩:=num _ (show argBest (λi j=>decide (numAt xs i<numAt xs j)) (xs.size-1)<xs.size by omega);rw[h2];exact List.getElem_mem h1
 . obtain⟨j,hj,rfl⟩:=List.getElem_of_mem hx';obtain⟨h1,h2⟩:=num j ooq;rw[<-h2];exact b2 j ooq
def QE:aDT X (λx y H Q=>∃p xs i v,x= .ref p/\y= .int i/\H p=some (.lst xs)/\atI xs i=some v/\Q v H):=by
 rintro j0 s Y H x y v u Q I rx ry ⟨p,xs,i,z,e1,e2,hq,he,q⟩;subst e1 e2;cases rx;obtain⟨t,rfl⟩:=ry;obtain⟨its,n,r,ho,hz⟩:=I.lst hq;have hl:s.heap.IsList p its.toArray:=⟨_,ho,rfl,n,rfl⟩;obtain⟨j,h1,h2,h3,h4,h5⟩:=sB he;obtain⟨w,ew,rw'⟩:=r.get h2;have hl2:=r.length;have hn:=jF;have fin:EP X j0 Y Q w s:=⟨z,H,I,rw',q⟩;by_cases h0:0<=i
 . have hj:i.toNat=j:=by
     rw[seqIndex_of h0 h5] at h1;exact Option.some.inj h1
   exact _root_.PySem.wpAny_getItem_list hl h0 ooq (by rw[hj];simpa using ew) fin
 . have hj:(i+(its.toArray.size:Int)).toNat=j:=by
     rw[seqIndex_neg ooq h4] at h1;rw[wIq,<-hl2];exact Option.some.inj h1
   exact wpAny_getItem_list_neg hl ooq (by rw[wIq]<;>omega) ooq (by rw[hj];simpa using ew) fin
end
end L2
namespace LE
open PySem PyProof.Rows
variable{prog:J7}{w:World}{A:Around}{E:Value->J5->Prop}{s:J5}
def VB(hh:A.handled=none)(it l:Addr)(i:Nat)(xs:Array Value)(hx:xs[i]? =none):Draws prog w A it [it,l] i (λ_ _=>True) (λj h=>j=i/\h.IsListIter it l j/\h.IsList l xs) where
 live:=λ_ _ st=>let ⟨o,ho,_⟩:=st.2.1;⟨o,ho⟩
 frame:=λ_ _ _ st hk=>⟨st.1,st.2.1.at λo e=>hk it (by simp) o e,st.2.2.at λo e=>hk l (by simp) o e⟩
 item:=λj s Q E hi st hQ=>absurd st.1 (Nat.ne_of_lt hi)
 done:=λs Q E st hE=>wpAny_nextOf_list_end hh st.2.1 st.2.2 hx hE
end LE
namespace L2
open PySem PySem.Spec PyProof.Rows
section
variable{X:Cx}{j0:List (Addr×Obj)}{Y:St}{H:Hp}{s:J5}{h':Heap}
def aB4(K:W.Frag)(a:Addr):It :=
 ⟨λi H=>∃xs x,H a=some (.lst xs)/\xs[i]? =some x,λi H x H'=>∃T v,x= .ref T/\H T=none/\H'=upd H T (.tup [.int i,v])/\∀xs,H a=some (.lst xs)->xs[i]? =some v,λi H=>∃xs,H a=some (.lst xs)/\xs.length<=i,false⟩
def DB{K:W.Frag}{es:List Expr}{x1}(a e it:Addr)(hei:e≠it)(hai:a≠it)(hae:a≠e) :
   vV P w K (.Tuple es x1 tp) (aB4 K a) [e,it] e (λi h=>(∃old,IsEnum h e it ((i:Nat):Int) old)/\h.IsListIter it a i) where
 mem:=by simp
 obj :=λi h st b hb=>by
   obtain⟨⟨old,h1⟩,o,h2,c,d⟩:=st;rcases List.mem_cons.mp hb with rfl|hb
   . exact⟨_,h1,λv z=>by have z':Data.fields _=Data.cell v:=z;cases z'⟩
   . have e':b=it:=by simpa using hb
     subst e';exact⟨o,h2,λv z=>by rw[d] at z;cases z⟩
 keep:=λi h h' st k=>⟨let ⟨old,q⟩:=st.1;⟨old,k e (by simp) _ q⟩,st.2.at λo q=>k it (by simp) o q⟩
 item := by
   intro X hP hw hK hc i j0 s Y H E I hf st hg;subst hP hw hK;obtain⟨xs,x,hq,hx⟩:=hg;obtain⟨its,n,rv,ho,hz⟩:=I.lst hq;have p:s.heap.IsList a its.toArray:=⟨_,ho,rfl,n,rfl⟩;obtain⟨u,hu,ru⟩:=rv.get hx;obtain⟨⟨old,he⟩,hit⟩:=st;have hi:i<its.toArray.size:=by
     have:=(List.getElem?_eq_some_iff.mp hu).1;simpa using this
   have D:=Draws.list (prog:=X.prog) (w:=X.w) (A:=X.A.in1) (I.ok.hd (hc rfl)) it a hai its.toArray;refine wpAny_pyNext_enum_itemD (A:=X.A) D he ⟨hit,p⟩ hi hei (by simp[hei,Ne.symm hae]) λy h1 tk hy ho hs' hT hsz hk=>?_;refine⟨_,rfl,wpAny_letOwnedTupleGo_enum ho λh2 he2 sb=>?_⟩;have hy':y=u:=by
     have z:its.toArray[i]? =some u:=by simpa using hu
     exact Option.some.inj (hy.symm.trans z)
   subst hy';have hTe:s.heap.objs.size≠e:=Nat.ne_of_gt (Heap.lt_size he);have gT:h2.get? s.heap.objs.size=some {cls:=.type "tuple",data:=.seq #[.int i tk,y]}:=(sb.2 _ hTe).trans hT;refine⟨.ref s.heap.objs.size,upd H s.heap.objs.size (.tup [.int i,x]),I.turnNew (ch:=[e,it]) (h':=h2) (λb hb=>?_) (λb hb=>(hf b hb).1) (λb o hb q=>?_) (Nat.le_refl _) ?_,rfl,⟨_,x,rfl,I.hok.fresh (Nat.le_refl _),rfl,λys hy=>by rw[hq] at hy;cases hy;exact hx⟩,⟨⟨_,by simpa using he2⟩,?_⟩,λb hb=>?_⟩
   . obtain⟨f0,f1,f2,f3,f4,f5⟩:=hf b hb;exact⟨f3,f1,f4,f5⟩
   . simp only[List.mem_cons,List.not_mem_nil,or_false,not_or] at hb;exact(sb.2 b hb.1).trans (hk b o hb.1 hb.2 q)
   . exact⟨by show 2<=sizeLine;decide,[.int i tk,y],.cons ⟨tk,rfl⟩ (.cons ru .nil),dB.at gT⟩
   . exact hs'.1.at λo q=>(sb.2 it (Ne.symm hei)).trans q
   . have hl:∀b,b∈[e,it]->b≠s.heap.objs.size:=λb hb z=>by
       rcases List.mem_cons.mp hb with r|r
       . exact hTe (z▸r)
       . obtain⟨o,q,_⟩:=hit;have r':b=it:=by simpa using r
         have l:=Heap.lt_size q;rw[<-r',z] at l;exact absurd l (Nat.lt_irrefl _)
     rw[aF (hl b hb)];exact(hf b hb).1
 done:=by
   intro X hP hw hK hc i j0 s Y H E I hf st hg;subst hP hw hK;obtain⟨xs,hq,hx⟩:=hg;obtain⟨its,n,rv,ho,hz⟩:=I.lst hq;have p:s.heap.IsList a its.toArray:=⟨_,ho,rfl,n,rfl⟩;obtain⟨⟨old,he⟩,hit⟩:=st;obtain⟨f0,f1,f2,f3,f4,f5⟩:=hf it (by simp);have hl:=rv.length;have hx':its.toArray[i]? =none:=by simp;omega
   refine wpAny_pyNext_enum_endD (A:=X.A) (LE.VB (prog:=X.prog) (w:=X.w) (A:=X.A.in1) (I.ok.hd (hc rfl)) it a i its.toArray hx') he ⟨rfl,hit,p⟩ λh' eb=>⟨rfl,I.turned (t':=s.toks) (λb o hb e=>eb b o hb e) f0 f1 f3 f4 f5⟩
 self:=λ_ _ _ _ _ st h=>let ⟨_,q⟩:=st.1;wpAny_pyIter_enum q h
def aBY(K:W.Frag)(ta:TA):TI:=λY H R=>ta Y H λvs H1=>∃a,vs=[.ref a]/\(∃xs,H1 a=some (.lst xs))/\R (aB4 K a) H1
def NH(hg:Gl X "enumerate")(hm:X.mg "enumerate"=none)(ha:PA X [e] ta)(hs:starEach [e] X.env=[(false,eval e X.env)]:=by rfl) :
   PI X (.Tuple es x1 tp) (.Call (.Name "enumerate" p) [e] [] pos) (aBY X.K ta):=by
 intro j0 s Y H R I h;refine Call_ (jA I hg hm boot_enumerate (PyProof.Rows.callWith_type1 (thn (ha pos j0 s Y H _ I h) λus s1 zz=>?_) hs rfl));obtain⟨vs,H1,I1,r1,q1⟩:=zz;obtain⟨a,e,⟨xs,hq⟩,q⟩:=q1;subst e;obtain⟨u,rfl,r⟩:=dI r1;cases r;obtain⟨its,n,rv,ho,hz⟩:=I1.lst hq;have ht':s1.heap.IsList a its.toArray:=⟨_,ho,rfl,n,rfl⟩;have hl:a<s1.heap.objs.size:=Heap.lt_size ho;refine call_enumerate_list ht' λh' he hit hsz k=>?_;have I2:Inv X j0 Y H1 {s1 with heap:=h'}:=I1.kept (t':=s1.toks) k;refine wpAny_pyIter_enum (s:={s1 with heap:=h'}) he ?_;refine⟨s1.heap.objs.size+1,[s1.heap.objs.size+1,s1.heap.objs.size],_,_,H1,rfl,I2,DB a _ _ (Nat.succ_ne_self _) (Nat.ne_of_lt hl) (Nat.ne_of_lt (Nat.lt_succ_of_lt hl)),⟨⟨_,he⟩,hit⟩,λb hb=>?_,q⟩;have hb':s1.heap.objs.size<=b:=by
   rcases List.mem_cons.mp hb with z|z
   . rw[z];exact Nat.le_succ _
   . have z':b=s1.heap.objs.size:=by simpa using z
     exact Nat.le_of_eq z'.symm
 exact I1.fpOk hb' (I1.hok.fresh hb')
end
noncomputable def IV(H:Hp)(c:Addr):Hp:=λb=>if b=c then none else H b
def fM(h:b≠c):IV H c b=H b:=j9 h
section
variable{P:J7}{w:World}{fs ex:List Addr}{H H1:Hp}{h h':Heap}{c:Addr}{o:Obj}{u:HO}
end
structure aFD(X:Cx)(cc P:Addr):Prop where
 code:X.env.code= .ref cc
 hd:W.codeHdIn X.K cc P=true
 bm:∃bm o,X.mg "__builtins__"=some (.ref bm)/\bm≠builtinsNs/\bm≠mainGlobals/\bm≠P/\X.K.lookup bm=some o/\o.cls= .type "module"/\o.dict=some builtinsNs/\o.data= .plain
 ng:mainGlobals≠P
end L2
namespace L3
open PySem PySem.Spec
open PyProof.Rows hiding St
open L2
inductive PV where
 | non|bl (b:Bool)|int (i:Int)|str (x:Str)|tup (xs:List PV)|lst (xs:List PV)|scr (ns:List Int)
 | ob (c:J6) (ns:List Str) (xs:List PV)|ref (a:Addr)|ty (n:J6)|cl (c:J6)|fn (f:Str)|emp|dct (ks:List Key) (xs:List PV)|exc (c:J6) (ns:List Str) (xs:List PV)|fdc (ks:List Key) (xs:List PV)
structure Ev where
 K:W.Frag
 cls:J6->Addr
 fna:Str->Addr:=λ_=>0
 f0:Hp:=λ_=>none
 z0:Hp:=λ_=>none
mutual
noncomputable def RP(E:Ev)(Z:Hp):PV->V->Prop
 | .non=>λv=>v= .non
 | .bl b=>λv=>v= .bl b
 | .int i=>λv=>v= .int i
 | .str x=>λv=>v= .str x
 | .ty n=>λv=>v= .ty n
 | .ref a=>λv=>v= .ref a
 | .cl c=>λv=>v= .ref (E.cls c)
 | .fn f=>λv=>v= .ref (E.fna f)
 | .emp=>λv=>∃a,v= .ref a/\Z a=some (.dK [])
 | .scr ns=>λv=>∃a,v= .ref a/\SqL E.K Z a (ns.map V.int)
 | .tup xs=>λv=>∃a vs,v= .ref a/\SqT E.K Z a vs/\RPs E Z xs vs
 | .lst xs=>λv=>∃a vs,v= .ref a/\Z a=some (.lst vs)/\RPs E Z xs vs
 | .dct ks xs=>λv=>∃a vs,v= .ref a/\Z a=some (.dK (ks.zip vs))/\ks.length=vs.length/\RPs E Z xs vs
 | .fdc ks xs=>λv=>∃a o vs,v= .ref a/\Z a=some (.frz o (.dK (ks.zip vs)))/\ks.length=vs.length/\RPs E Z xs vs
 | .ob c ns xs=>λv=>∃a dx vs,v= .ref a/\Z a=some (.ins (E.cls c) dx (ns.zip vs))/\ns.length=vs.length/\RPs E Z xs vs
 | .exc c ns xs=>λv=>∃a d vs,v= .ref a/\XcH Z a (.ref (E.cls c)) d/\ns.length=vs.length/\(∀dd,d=some dd->Z dd=some (.xd (ns.zip vs)))/\(d=none->ns=[])/\RPs E Z xs vs
noncomputable def RPs(E:Ev)(Z:Hp):List PV->List V->Prop
 | []=>λvs=>vs=[]
 | x::xs=>λvs=>∃v r,vs=v::r/\RP E Z x v/\RPs E Z xs r
end
def bF{K:W.Frag}{Z Z':Hp}{a:Addr}{xs:List V}(e:aP Z Z')(h:SqT K Z a xs):SqT K Z' a xs:=by
 rcases h with (h|⟨o,h⟩)|h
 . exact .inl (.inl (e _ _ h))
 . exact .inl (.inr ⟨o,e _ _ h⟩)
 . exact .inr h
section
variable{E:Ev}{Z Z' Z1 Z2 H H':Hp}
mutual
theorem RP.mono(e:aP Z Z'):∀{x:PV} {v:V},RP E Z x v->RP E Z' x v
 | .non,_,h=>h
 | .bl _,_,h=>h
 | .int _,_,h=>h
 | .str _,_,h=>h
 | .ty _,_,h=>h
 | .ref _,_,h=>h
 | .cl _,_,h=>h
 | .fn _,_,h=>h
 | .emp,_,⟨a,e1,h⟩=>⟨a,e1,e _ _ h⟩
 | .scr _,_,⟨a,e1,h⟩=>⟨a,e1,e.seq h⟩
 | .tup _,_,⟨a,vs,e1,h,r⟩=>⟨a,vs,e1,bF e h,RPs.mono e r⟩
 | .lst _,_,⟨a,vs,e1,h,r⟩=>⟨a,vs,e1,e _ _ h,RPs.mono e r⟩
 | .dct _ _,_,⟨a,vs,e1,h,l,r⟩=>⟨a,vs,e1,e _ _ h,l,RPs.mono e r⟩
 | .fdc _ _,_,⟨a,o,vs,e1,h,l,r⟩=>⟨a,o,vs,e1,e _ _ h,l,RPs.mono e r⟩
 | .ob _ _ _,_,⟨a,dx,vs,e1,h,l,r⟩=>⟨a,dx,vs,e1,e _ _ h,l,RPs.mono e r⟩
 | .exc _ _ _,_,⟨a,d,vs,e1,⟨o,h⟩,l,hd,hn,r⟩=>⟨a,d,vs,e1,⟨o,e _ _ h⟩,l,λdd q=>e _ _ (hd dd q),hn,RPs.mono e r⟩
theorem RPs.mono(e:aP Z Z'):∀{xs:List PV} {vs:List V},RPs E Z xs vs->RPs E Z' xs vs
 | [],_,h=>h
 | _::_,_,⟨v,r,e1,h,t⟩=>⟨v,r,e1,RP.mono e h,RPs.mono e t⟩
end
theorem RPs.length:∀{xs:List PV} {vs:List V},RPs E Z xs vs->xs.length=vs.length
 | [],_,h=>by cases h;rfl
 | _::_,_,⟨v,r,e1,_,t⟩=>by subst e1;rw[List.length_cons,List.length_cons,RPs.length t]
theorem RPs.get:∀{xs:List PV} {vs:List V} {i:Nat} {x:PV},RPs E Z xs vs->xs[i]? =some x->∃v,vs[i]? =some v/\RP E Z x v
 | [],_,_,_,_,e=>by simp at e
 | y::_,_,0,x,⟨v,r,e1,h,t⟩,e=>by
   subst e1;have:y=x:=by simpa using e
   subst this;exact⟨v,rfl,h⟩
 | _::_,_,i+1,x,⟨v,r,e1,h,t⟩,e=>by
   subst e1;obtain⟨u,a,b⟩:=RPs.get (i:=i) t (by simpa using e);exact⟨u,by simpa using a,b⟩
theorem RPs.append:∀{xs ys:List PV} {vs us:List V},RPs E Z xs vs->RPs E Z ys us->RPs E Z (xs++ys) (vs++us)
 | [],_,_,_,h,q=>by cases h;exact q
 | _::_,_,_,us,⟨v,r,e1,h,t⟩,q=>by subst e1;exact⟨v,r++us,rfl,h,RPs.append t q⟩
theorem RPs.set{u:V}(q:RP E Z y u):∀{xs:List PV} {vs:List V} (i:Nat),RPs E Z xs vs->RPs E Z (xs.set i y) (vs.set i u)
 | [],_,_,h=>by cases h;exact rfl
 | _::_,_,0,⟨v,r,e1,h,t⟩=>by subst e1;exact⟨u,r,rfl,q,t⟩
 | _::_,_,i+1,⟨v,r,e1,h,t⟩=>by subst e1;exact⟨v,r.set i u,rfl,h,RPs.set q i t⟩
theorem RPs.take:∀{xs:List PV} {vs:List V} (n:Nat),RPs E Z xs vs->RPs E Z (xs.take n) (vs.take n)
 | _,_,0,_=>rfl
 | [],_,_+1,h=>by cases h;exact rfl
 | _::_,_,n+1,⟨v,r,e1,h,t⟩=>by subst e1;exact⟨v,r.take n,rfl,h,RPs.take n t⟩
theorem RPs.drop:∀{xs:List PV} {vs:List V} (n:Nat),RPs E Z xs vs->RPs E Z (xs.drop n) (vs.drop n)
 | _,_,0,h=>h
 | [],_,_+1,h=>by cases h;exact rfl
 | _::_,_,n+1,⟨v,r,e1,h,t⟩=>by subst e1;exact RPs.drop n t
theorem RPs.ints:∀{ns:List Int} {vs:List V},RPs E Z (ns.map PV.int) vs->vs=ns.map V.int
 | [],_,h=>h
 | _::_,_,⟨v,r,e1,h,t⟩=>by
   have h':v=V.int _:=h;subst e1 h';rw[RPs.ints t];rfl
theorem RPs.ofInts:∀(ns:List Int),RPs E Z (ns.map PV.int) (ns.map V.int)
 | []=>rfl
 | n::r=>⟨.int n,r.map V.int,rfl,rfl,RPs.ofInts r⟩
theorem RPs.reverse:∀{xs:List PV} {vs:List V},RPs E Z xs vs->RPs E Z xs.reverse vs.reverse
 | [],_,h=>by cases h;exact rfl
 | x::xs,_,⟨v,r,e1,h,t⟩=>by
   subst e1;rw[List.reverse_cons,List.reverse_cons];exact RPs.append (RPs.reverse t) ⟨v,[],rfl,h,rfl⟩
end
inductive GO where
 | lst (xs:List PV)|ins (c:J6) (ns:List Str) (xs:List PV)|dct (ks:List Key) (xs:List PV)
noncomputable abbrev Gh:=Addr->Option GO
noncomputable def gup(G:Gh)(a:Addr)(o:GO):Gh:=λb=>if b=a then some o else G b
noncomputable def xI(G:Gh)(a:Addr):Gh:=λb=>if b=a then none else G b
def aO:gup G a o a=some o:=ja rfl
def cX(h:b≠a):gup G a o b=G b:=j9 h
def kX:gup (gup G a o) a u=gup G a u:=by funext b;unfold gup;split<;>rfl
def rZ(h:b≠a):xI G a b=G b:=j9 h
def JX:xI G a a=none:=ja rfl
def AC(h:G a=none):xI (gup G a o) a=G:=by
 funext b;unfold xI gup
 split
 . rename_i e;rw[e];exact h.symm
 . rfl
def RO(E:Ev)(Z:Hp):GO->HO->Prop
 | .lst xs,o=>∃vs,o= .lst vs/\RPs E Z xs vs
 | .ins c ns xs,o=>∃dx vs,o= .ins (E.cls c) dx (ns.zip vs)/\ns.length=vs.length/\RPs E Z xs vs
 | .dct ks xs,o=>∃vs,o= .dK (ks.zip vs)/\ks.length=vs.length/\RPs E Z xs vs
theorem RO.mono{E:Ev}{Z Z':Hp}(e:aP Z Z'):∀{o:GO} {o':HO},RO E Z o o'->RO E Z' o o'
 | .lst _,_,⟨vs,a,b⟩=>⟨vs,a,b.mono e⟩
 | .ins _ _ _,_,⟨dx,vs,a,l,b⟩=>⟨dx,vs,a,l,b.mono e⟩
 | .dct _ _,_,⟨vs,a,l,b⟩=>⟨vs,a,l,b.mono e⟩
noncomputable def isT:HO->Bool
 | .tbl _ _=>true
 | _=>false
def NoT(Z:Hp):Prop:= ∀a o,Z a=some o->isT o=false
def NoT.upd(h:NoT Z)(ho:isT o=false):NoT (L2.upd Z p o):=λa u e=>by
 by_cases z:a=p
 . subst z;rw[aS] at e;cases e;exact ho
 . rw[aF z] at e;exact h a u e
def NoT.again(h:NoT (L2.upd Z p u))(ho:isT o=false):NoT (L2.upd Z p o):=λa v e=>by
 by_cases z:a=p
 . subst z;rw[aS] at e;cases e;exact ho
 . rw[aF z] at e;exact h a v (by rw[aF z];exact e)
def NoT.down(h:NoT (L2.upd Z p o))(n:Z p=none):NoT Z:=λa u e=>h a u (by rw[aF (aL e n)];exact e)
theorem RO.noT:∀{g:GO} {o:HO},RO E Z g o->isT o=false
 | .lst _,_,⟨_,e,_⟩=>by rw[e];rfl
 | .ins _ _ _,_,⟨_,_,e,_⟩=>by rw[e];rfl
 | .dct _ _,_,⟨_,e,_⟩=>by rw[e];rfl
structure Sim(E:Ev)(F H Z:Hp)(G:Gh):Prop where
 z:aP Z H
 f:∀a o,F a=some o->H a=some o/\Z a=none/\G a=none
 g:∀a o,G a=some o->Z a=none/\∃o',H a=some o'/\RO E Z o o'
 z0:aP E.z0 Z
 ff:aP E.f0 F
 nz:NoT Z
 nf:NoT F
section
variable{E:Ev}{F H Z:Hp}{G G':Gh}{p:Addr}{o:HO}{go:GO}
def Sim.zn(S:Sim E F H Z G)(n:H p=none):Z p=none:=by
 cases e:Z p with
 | none=>rfl
 | some u=>rw[S.z _ _ e] at n;cases n
def Sim.gn(S:Sim E F H Z G)(n:H p=none):G p=none:=by
 cases e:G p with
 | none=>rfl
 | some u=>obtain⟨_,o',e',_⟩:=S.g _ _ e;rw[e'] at n;cases n
def Sim.fn(S:Sim E F H Z G)(n:H p=none):F p=none:=by
 cases e:F p with
 | none=>rfl
 | some u=>rw[(S.f _ _ e).1] at n;cases n
def Sim.fz(S:Sim E F H Z G)(n:H p=none)(ht:isT o=false:=by rfl):Sim E F (upd H p o) (upd Z p o) G:=by
 have zn:=S.zn n;have sub:aP Z (upd Z p o):=aV zn o;refine⟨λa u q=>?_,λa u q=>?_,λa u q=>?_,S.z0.trans sub,S.ff,S.nz.upd ht,S.nf⟩
 . by_cases e:a=p
   . subst e;rw[aS] at q ⊢;exact q
   . rw[aF e] at q ⊢;exact S.z _ _ q
 . obtain⟨h1,h2,h3⟩:=S.f a u q;have e:a≠p:=aL h1 n;exact⟨by rw[aF e];exact h1,by rw[aF e];exact h2,h3⟩
 . obtain⟨a1,o',a2,r⟩:=S.g a u q;have e:a≠p:=aL a2 n;exact⟨by rw[aF e];exact a1,o',by rw[aF e];exact a2,r.mono sub⟩
def Sim.new(S:Sim E F H Z G)(n:H p=none)(r:RO E Z go o):Sim E F (upd H p o) Z (gup G p go):=by
 refine⟨λa u q=>fY (S.z _ _ q) n,λa u q=>?_,λa u q=>?_,S.z0,S.ff,S.nz,S.nf⟩
 . obtain⟨h1,h2,h3⟩:=S.f a u q;have e:a≠p:=aL h1 n;exact⟨by rw[aF e];exact h1,h2,by rw[cX e];exact h3⟩
 by_cases e:a=p
 . subst e;rw[aO] at q;cases q;exact⟨S.zn n,o,aS,r⟩
 . rw[cX e] at q;obtain⟨a1,o',a2,r'⟩:=S.g a u q;exact⟨a1,o',by rw[aF e];exact a2,r'⟩
def Sim.other(S:Sim E F H Z G)(n:H p=none):Sim E F (upd H p o) Z G:=by
 refine⟨λa u q=>fY (S.z _ _ q) n,λa u q=>⟨fY (S.f a u q).1 n,(S.f a u q).2⟩,λa u q=>?_,S.z0,S.ff,S.nz,S.nf⟩;obtain⟨a1,o',a2,r'⟩:=S.g a u q;exact⟨a1,o',fY a2 n,r'⟩
def Sim.set(S:Sim E F H Z G)(n:G p=some u)(r:RO E Z go o):Sim E F (upd H p o) Z (gup G p go):=by
 obtain⟨z,_,_,_⟩:=S.g _ _ n;refine⟨λa u q=>?_,λa u' q=>?_,λa u q=>?_,S.z0,S.ff,S.nz,S.nf⟩
 . have e:a≠p:=aL q z;rw[aF e];exact S.z _ _ q
 . obtain⟨h1,h2,h3⟩:=S.f a u' q;have e:a≠p:=λe=>by subst e;rw[n] at h3;cases h3
   exact⟨by rw[aF e];exact h1,h2,by rw[cX e];exact h3⟩
 . by_cases e:a=p
   . subst e;rw[aO] at q;cases q;exact⟨z,o,aS,r⟩
   . rw[cX e] at q;obtain⟨a1,o',a2,r'⟩:=S.g a u q;exact⟨a1,o',by rw[aF e];exact a2,r'⟩
def Sim.frz{u:GO}(S:Sim E F H Z G)(n:G p=some u)(h:H p=some o):Sim E F H (upd Z p o) (xI G p):=by
 obtain⟨z,o2,ho2,rr⟩:=S.g _ _ n;have ht:isT o=false:=by rw[h] at ho2;cases ho2;exact rr.noT
 refine⟨λa u q=>?_,λa u' q=>?_,λa u q=>?_,S.z0.trans (aV z o),S.ff,S.nz.upd ht,S.nf⟩
 . by_cases e:a=p
   . subst e;rw[aS] at q;rw[<-q];exact h
   . rw[aF e] at q;exact S.z _ _ q
 . obtain⟨h1,h2,h3⟩:=S.f a u' q;have e:a≠p:=λe=>by subst e;rw[n] at h3;cases h3
   exact⟨h1,by rw[aF e];exact h2,by rw[rZ e];exact h3⟩
 . by_cases e:a=p
   . subst e;rw[JX] at q;cases q
   . rw[rZ e] at q;obtain⟨a1,o',a2,r'⟩:=S.g a u q;exact⟨by rw[aF e];exact a1,o',a2,r'.mono (aV z o)⟩
def Sim.weak(S:Sim E F H Z G)(h:∀a o,G' a=some o->G a=some o):Sim E F H Z G':=⟨S.z,λa o q=>⟨(S.f a o q).1,(S.f a o q).2.1,by
 cases e:G' a with
 | none=>rfl
 | some u=>exact absurd (h _ _ e) (by rw[(S.f a o q).2.2];intro z;cases z)⟩,λa o q=>S.g a o (h a o q),S.z0,S.ff,S.nz,S.nf⟩
def Sim.mine(S:Sim E F H Z G)(n:H p=none)(ht:isT o=false:=by rfl):Sim E (upd F p o) (upd H p o) Z G:=by
 refine⟨λa u q=>fY (S.z _ _ q) n,λa u q=>?_,λa u q=>?_,S.z0,S.ff.trans (aV (S.fn n) o),S.nz,S.nf.upd ht⟩
 . by_cases e:a=p
   . subst e;rw[aS] at q ⊢;exact⟨q,S.zn n,S.gn n⟩
   . rw[aF e] at q ⊢;exact S.f a u q
 . obtain⟨a1,o',a2,r'⟩:=S.g a u q;exact⟨a1,o',fY a2 n,r'⟩
def Sim.f0n(S:Sim E F H Z G)(n:H p=none):E.f0 p=none:=by
 cases e:E.f0 p with
 | none=>rfl
 | some u=>exact absurd (S.ff _ _ e) (by rw[S.fn n];intro z;cases z)
def TQ{F':Hp}(h:aP E.f0 (upd F p o))(n:E.f0 p=none):aP E.f0 F:=λa u q=>by
 have e:a≠p:=aL q n;have:=h a u q
 rwa [aF e] at this
def Sim.turn(S:Sim E (upd F p u) H Z G)(nf:E.f0 p=none)(ht:isT o=false:=by rfl):Sim E (upd F p o) (upd H p o) Z G:=by
 obtain⟨h1,h2,h3⟩:=S.f p u aS;refine⟨λa v q=>?_,λa v q=>?_,λa v q=>?_,S.z0,λa v q=>by
   have e:a≠p:=aL q nf;have:=S.ff a v q;rw[aF e] at this ⊢;exact this,S.nz,S.nf.again ht⟩
 . have e:a≠p:=aL q h2;rw[aF e];exact S.z _ _ q
 . by_cases e:a=p
   . subst e;rw[aS] at q ⊢;exact⟨q,h2,h3⟩
   . rw[aF e] at q ⊢;exact S.f a v (by rw[aF e];exact q)
 . obtain⟨a1,o',a2,r'⟩:=S.g a v q;have e:a≠p:=λe=>by subst e;rw[h3] at q;cases q
   exact⟨a1,o',by rw[aF e];exact a2,r'⟩
def Sim.mineZ(S:Sim E (upd F p o) H Z G)(n:F p=none)(nf:E.f0 p=none):Sim E F H (upd Z p o) G:=by
 obtain⟨h1,h2,h3⟩:=S.f p o aS;have sub:aP Z (upd Z p o):=aV h2 o;refine⟨λa v q=>?_,λa v q=>?_,λa v q=>?_,S.z0.trans sub,TQ (F':=F) S.ff nf,S.nz.upd (S.nf p o aS),S.nf.down n⟩
 . by_cases e:a=p
   . subst e;rw[aS] at q;rw[<-q];exact h1
   . rw[aF e] at q;exact S.z _ _ q
 . have e:a≠p:=aL q n;obtain⟨b1,b2,b3⟩:=S.f a v (by rw[aF e];exact q);exact⟨b1,by rw[aF e];exact b2,b3⟩
 . obtain⟨a1,o',a2,r'⟩:=S.g a v q;have e:a≠p:=λe=>by subst e;rw[h3] at q;cases q
   exact⟨by rw[aF e];exact a1,o',a2,r'.mono sub⟩
def Sim.mineG(S:Sim E (upd F p o) H Z G)(n:F p=none)(nf:E.f0 p=none)(r:RO E Z go o):Sim E F H Z (gup G p go):=by
 obtain⟨h1,h2,h3⟩:=S.f p o aS;refine⟨S.z,λa v q=>?_,λa v q=>?_,S.z0,TQ (F':=F) S.ff nf,S.nz,S.nf.down n⟩
 . have e:a≠p:=aL q n;obtain⟨b1,b2,b3⟩:=S.f a v (by rw[aF e];exact q);exact⟨b1,b2,by rw[cX e];exact b3⟩
 . by_cases e:a=p
   . subst e;rw[aO] at q;cases q;exact⟨h2,o,h1,r⟩
   . rw[cX e] at q;exact S.g a v q
def Sim.weakF(S:Sim E F H Z G):Sim E E.f0 H Z G:=⟨S.z,λa o q=>S.f a o (S.ff a o q),S.g,S.z0,aP.refl _,S.nz,λa o q=>S.nf a o (S.ff a o q)⟩
end
noncomputable abbrev Ev.at(E:Ev)(f z:Hp):Ev:={E with f0:=f,z0:=z}
section
variable{E:Ev}{f z Z:Hp}
mutual
theorem RP.at:∀{x:PV} {v:V},RP E Z x v->RP (E.at f z) Z x v
 | .non,_,h=>h
 | .bl _,_,h=>h
 | .int _,_,h=>h
 | .str _,_,h=>h
 | .ty _,_,h=>h
 | .ref _,_,h=>h
 | .cl _,_,h=>h
 | .fn _,_,h=>h
 | .emp,_,h=>h
 | .scr _,_,h=>h
 | .tup _,_,⟨a,vs,e1,h,r⟩=>⟨a,vs,e1,h,RPs.at r⟩
 | .lst _,_,⟨a,vs,e1,h,r⟩=>⟨a,vs,e1,h,RPs.at r⟩
 | .dct _ _,_,⟨a,vs,e1,h,l,r⟩=>⟨a,vs,e1,h,l,RPs.at r⟩
 | .fdc _ _,_,⟨a,o,vs,e1,h,l,r⟩=>⟨a,o,vs,e1,h,l,RPs.at r⟩
 | .ob _ _ _,_,⟨a,dx,vs,e1,h,l,r⟩=>⟨a,dx,vs,e1,h,l,RPs.at r⟩
 | .exc _ _ _,_,⟨a,d,vs,e1,h,l,hd,hn,r⟩=>⟨a,d,vs,e1,h,l,hd,hn,RPs.at r⟩
theorem RPs.at:∀{xs:List PV} {vs:List V},RPs E Z xs vs->RPs (E.at f z) Z xs vs
 | [],_,h=>h
 | _::_,_,⟨v,r,e1,h,t⟩=>⟨v,r,e1,RP.at h,RPs.at t⟩
end
mutual
theorem RP.un:∀{x:PV} {v:V},RP (E.at f z) Z x v->RP E Z x v
 | .non,_,h=>h
 | .bl _,_,h=>h
 | .int _,_,h=>h
 | .str _,_,h=>h
 | .ty _,_,h=>h
 | .ref _,_,h=>h
 | .cl _,_,h=>h
 | .fn _,_,h=>h
 | .emp,_,h=>h
 | .scr _,_,h=>h
 | .tup _,_,⟨a,vs,e1,h,r⟩=>⟨a,vs,e1,h,RPs.un r⟩
 | .lst _,_,⟨a,vs,e1,h,r⟩=>⟨a,vs,e1,h,RPs.un r⟩
 | .dct _ _,_,⟨a,vs,e1,h,l,r⟩=>⟨a,vs,e1,h,l,RPs.un r⟩
 | .fdc _ _,_,⟨a,o,vs,e1,h,l,r⟩=>⟨a,o,vs,e1,h,l,RPs.un r⟩
 | .ob _ _ _,_,⟨a,dx,vs,e1,h,l,r⟩=>⟨a,dx,vs,e1,h,l,RPs.un r⟩
 | .exc _ _ _,_,⟨a,d,vs,e1,h,l,hd,hn,r⟩=>⟨a,d,vs,e1,h,l,hd,hn,RPs.un r⟩
theorem RPs.un:∀{xs:List PV} {vs:List V},RPs (E.at f z) Z xs vs->RPs E Z xs vs
 | [],_,h=>h
 | _::_,_,⟨v,r,e1,h,t⟩=>⟨v,r,e1,RP.un h,RPs.un t⟩
end
variable{F H:Hp}{G:Gh}
end
abbrev PX:=J6->List Str->List PV->Gh->Prop
def WkX(x:PX):PX:=λc ns xs G=>∃G2:Gh,(∀a o,G2 a=some o->G a=some o)/\x c ns xs G2
def KX(E:Ev)(F Z:Hp)(x:PX)(EX:XK):Prop:= ∀c ns xs d vs Z1 G1 H1,aP Z Z1->Sim E F H1 Z1 G1->ns.length=vs.length->RPs E Z1 xs vs->(∀dd,d=some dd->Z1 dd=some (.xd (ns.zip vs)))->(d=none->ns=[])->x c ns xs G1->EX (.ref (E.cls c)) d H1
noncomputable abbrev PSt:=List (Option PV)
def RSl(E:Ev)(Z:Hp):Option PV->Option V->Prop
 | none,_=>True
 | some x,o=>∃v,o=some v/\RP E Z x v
inductive RSt(E:Ev)(Z:Hp):PSt->St->Prop
 | nil:RSt E Z [] []
 | cons {o:Option PV} {u:Option V} {Y':PSt} {Y:St}:RSl E Z o u->RSt E Z Y' Y->RSt E Z (o::Y') (u::Y)
section
variable{E:Ev}{Z Z':Hp}
theorem RSl.mono(e:aP Z Z'):∀{o:Option PV} {u:Option V},RSl E Z o u->RSl E Z' o u
 | none,_,_=>trivial
 | some _,_,⟨v,a,r⟩=>⟨v,a,r.mono e⟩
theorem RSt.mono(e:aP Z Z'):∀{Y':PSt} {Y:St},RSt E Z Y' Y->RSt E Z' Y' Y
 | _,_,.nil=>.nil
 | _,_,.cons a b=>.cons (a.mono e) (RSt.mono e b)
theorem RSt.get:∀{Y':PSt} {Y:St} {i:Nat} {x:PV},RSt E Z Y' Y->Y'[i]? =some (some x)->∃v,Y[i]? =some (some v)/\RP E Z x v
 | _,_,_,_,.nil,e=>by simp at e
 | _,_,0,x,.cons a _,e=>by
   simp at e;subst e
   obtain⟨v,e1,r⟩:=a;subst e1;exact⟨v,rfl,r⟩
 | _,_,i+1,x,.cons _ b,e=>by
   obtain⟨v,e1,r⟩:=RSt.get (i:=i) b (by simpa using e);exact⟨v,by simpa using e1,r⟩
theorem RSt.set{v:V}(r:RP E Z x v):∀{Y':PSt} {Y:St} (i:Nat),RSt E Z Y' Y->RSt E Z (Y'.set i (some x)) (Y.set i (some v))
 | _,_,_,.nil=>.nil
 | _,_,0,.cons _ b=>.cons ⟨v,rfl,r⟩ b
 | _,_,i+1,.cons a b=>.cons a (RSt.set r i b)
theorem RSt.nones:∀(n:Nat),RSt E Z (List.replicate n none) (List.replicate n none)
 | 0=>.nil
 | n+1=>.cons trivial (RSt.nones n)
theorem RSt.append:∀{a b:PSt} {c d:St},RSt E Z a c->RSt E Z b d->RSt E Z (a++b) (c++d)
 | _,_,_,_,.nil,h=>h
 | _,_,_,_,.cons r t,h=>.cons r (RSt.append t h)
theorem RSt.vals:∀{xs:List PV} {vs:List V},RPs E Z xs vs->RSt E Z (xs.map some) (vs.map some)
 | [],_,h=>by cases h;exact .nil
 | _::_,_,⟨v,r,e,h,t⟩=>by subst e;exact .cons ⟨v,rfl,h⟩ (RSt.vals t)
noncomputable def aC(n:Nat)(xs:List PV):PSt:=xs.map some++List.replicate (n-xs.length) none
def RSt.start(r:RPs E Z xs vs):RSt E Z (aC N.length xs) (L2.start N vs):=by
 unfold aC L2.start;rw[r.length];exact RSt.append (RSt.vals r) (RSt.nones _)
end
abbrev PK1:=PV->Gh->Prop
abbrev PTE:=PSt->Gh->PK1->Prop
abbrev PTT:=PSt->Gh->(Bool->Gh->Prop)->Prop
abbrev PTA:=PSt->Gh->(List PV->Gh->Prop)->Prop
structure dL where
 nx:PSt->Gh->Prop
 rt:PK1
 bk:PSt->Gh->Prop
 ct:PSt->Gh->Prop
abbrev PTS:=dL->PSt->Gh->Prop
def Kq(E:Ev)(F Z:Hp)(Q':PK1)(Q:VK):Prop:= ∀x v Z1 G1 H1,aP Z Z1->Sim E F H1 Z1 G1->RP E Z1 x v->Q' x G1->Q v H1
def KA(E:Ev)(F:Hp)(n:Nat)(Z:Hp)(Q':List PV->Gh->Prop)(Q:List V->Hp->Prop):Prop:= ∀xs vs Z1 G1 H1,xs.length=n->aP Z Z1->Sim E F H1 Z1 G1->RPs E Z1 xs vs->Q' xs G1->Q vs H1
def KT(E:Ev)(F Z:Hp)(Q':Bool->Gh->Prop)(Q:Bool->Hp->Prop):Prop:= ∀b Z1 G1 H1,aP Z Z1->Sim E F H1 Z1 G1->Q' b G1->Q b H1
def KSt(E:Ev)(F Z:Hp)(Q':PSt->Gh->Prop)(Q:St->Hp->Prop):Prop:= ∀Y' Y Z1 G1 H1,aP Z Z1->Sim E F H1 Z1 G1->RSt E Z1 Y' Y->Q' Y' G1->Q Y H1
structure KD(E:Ev)(F Z:Hp)(D':dL)(D:AY):Prop where
 nx:KSt E F Z D'.nx D.nx
 rt:Kq E F Z D'.rt D.rt
 bk:KSt E F Z D'.bk D.bk
 ct:KSt E F Z D'.ct D.ct
def Kq.mono{E:Ev}{F Z Z2:Hp}{Q':PK1}{Q:VK}(e:aP Z Z2)(k:Kq E F Z Q' Q):Kq E F Z2 Q' Q:=λx v Z1 G1 H1 s=>k x v Z1 G1 H1 (e.trans s)
def KT.mono{E:Ev}{F Z Z2:Hp}{Q':Bool->Gh->Prop}{Q:Bool->Hp->Prop}(e:aP Z Z2)(k:KT E F Z Q' Q):KT E F Z2 Q' Q:=λx Z1 G1 H1 s=>k x Z1 G1 H1 (e.trans s)
def KSt.mono{E:Ev}{F Z Z2:Hp}{Q':PSt->Gh->Prop}{Q:St->Hp->Prop}(e:aP Z Z2)(k:KSt E F Z Q' Q):KSt E F Z2 Q' Q:=λx v Z1 G1 H1 s=>k x v Z1 G1 H1 (e.trans s)
def KD.mono{E:Ev}{F Z Z2:Hp}{D':dL}{D:AY}(e:aP Z Z2)(k:KD E F Z D' D):KD E F Z2 D' D:=⟨k.nx.mono e,k.rt.mono e,k.bk.mono e,k.ct.mono e⟩
def low(E:Ev)(F:Hp)(t:PTE):TE:=λY H Q=>∃Y' Z G Q',RSt E Z Y' Y/\Sim E F H Z G/\t Y' G Q'/\Kq E F Z Q' Q
def rG(E:Ev)(F:Hp)(t:PTT):TT:=λY H Q=>∃Y' Z G Q',RSt E Z Y' Y/\Sim E F H Z G/\t Y' G Q'/\KT E F Z Q' Q
def yZ(E:Ev)(F:Hp)(n:Nat)(t:PTA):TA:=λY H Q=>∃Y' Z G Q',RSt E Z Y' Y/\Sim E F H Z G/\t Y' G Q'/\KA E F n Z Q' Q
def aCy(E:Ev)(F:Hp)(t:PTS):TS:=λD Y H=>∃Y' Z G D',RSt E Z Y' Y/\Sim E F H Z G/\t D' Y' G/\KD E F Z D' D
noncomputable def bE(G:Gh):PV->Option (List PV)
 | .lst xs=>some xs
 | .ref a=>match G a with
   | some (.lst xs)=>some xs
   | _=>none
 | _=>none
section
variable{E:Ev}{F H Z:Hp}{G:Gh}{x:PV}{v:V}{xs:List PV}
def bH(S:Sim E F H Z G)(r:RP E Z x v)(h:bE G x=some xs):∃a vs,v= .ref a/\H a=some (.lst vs)/\RPs E Z xs vs:=by
 cases x with
 | lst ys =>
   cases h;obtain⟨a,vs,e,q,t⟩:=r;exact⟨a,vs,e,S.z _ _ q,t⟩
 | ref a =>
   have e:v= .ref a:=r;subst e;unfold bE at h;dsimp only at h;split at h
   . rename_i ys e;cases h;obtain⟨_,o',q,vs,e',t⟩:=S.g _ _ e;subst e';exact⟨a,vs,rfl,q,t⟩
   . cases h
 | _=>cases h
def cZ(S:Sim E F H Z G)(r:RP E Z (.tup xs) v):∃a vs,v= .ref a/\SqT E.K H a vs/\RPs E Z xs vs:=by
 obtain⟨a,vs,e,q,t⟩:=r;exact⟨a,vs,e,bF S.z q,t⟩
def Kq.here(k:Kq E F Z Q' Q)(S:Sim E F H Z G)(q:Q' x G)(r:RP E Z x v):Q v H:=k x v Z G H (aP.refl Z) S r q
theorem aT:RP E Z (.int i) (.int i):=rfl
theorem oM:RP E Z (.str i) (.str i):=rfl
theorem cF:RP E Z (.bl i) (.bl i):=rfl
theorem oK:RP E Z .non .non:=rfl
def Kq.newZ(k:Kq E F Z Q' Q)(S:Sim E F H Z G)(n:H p=none)(r:RP E (upd Z p o) x (.ref p))(q:Q' x G)(ht:isT o=false:=by rfl):Q (.ref p) (upd H p o) :=
 k x (.ref p) (upd Z p o) G _ (aV (S.zn n) o) (S.fz n ht) r q
def fI(n:Z p=none)(r:RPs E Z xs vs):RP E (upd Z p (.tup vs)) (.tup xs) (.ref p):=⟨p,vs,rfl,SqT.of aS,r.mono (aV n _)⟩
def eG(n:Z p=none)(r:RPs E Z xs vs):RP E (upd Z p (.lst vs)) (.lst xs) (.ref p):=⟨p,vs,rfl,aS,r.mono (aV n _)⟩
end
abbrev P2:=PV->PV->Gh->PK1->Prop
def fV(E:Ev)(F:Hp)(p:P2):R2:=λv u H Q=>∃x y Z G Q',RP E Z x v/\RP E Z y u/\Sim E F H Z G/\p x y G Q'/\Kq E F Z Q' Q
def pI(C:Int->Int->Prop)(g:Int->Int->PV):P2:=λx y G Q=>match x,y with
 | .int i,.int j=>C i j/\Q (g i j) G
 | _,_=>False
def fS(hg:∀Z i j,RP E Z (g' i j) (g i j))(h:fV E F (pI C g') v u H Q):rI C g v u H Q:=by
 obtain⟨x,y,Z,G,Q',r1,r2,S,q,k⟩:=h;unfold pI at q;split at q
 . obtain⟨c,q⟩:=q;exact⟨_,_,r1,r2,c,k.here S q (hg _ _ _)⟩
 . exact q.elim
def vR(x y:PV)(G:Gh)(Q:PK1):Prop:=match x,y with
 | .int i,.int j=>Q (.int (i+j)) G
 | .str i,.str j=>i.length+j.length<=sizeLine/\Q (.str (i++j)) G
 | .tup xs,.tup ys=>xs.length+ys.length<=sizeLine/\Q (.tup (xs++ys)) G
 | x,y=>∃xs ys,bE G x=some xs/\bE G y=some ys/\xs.length+ys.length<=sizeLine/\Q (.lst (xs++ys)) G
def ZE(r1:RP E Z x v)(r2:RP E Z y u)(S:Sim E F H Z G)(hx:bE G x=some xs)(hy:bE G y=some ys)(hz:xs.length+ys.length<=sizeLine)(q:Q' (.lst (xs++ys)) G)(k:Kq E F Z Q' Q):aE1 v u H Q:=by
 obtain⟨a,vs,rfl,ha,ta⟩:=bH S r1 hx;obtain⟨b,us,rfl,hb,tb⟩:=bH S r2 hy;exact⟨a,b,vs,us,rfl,rfl,ha,hb,by rw[<-ta.length,<-tb.length];exact hz,λp n=>k.newZ S n (eG (S.zn n) (ta.append tb)) q⟩
def aA5(K:W.Frag):R2:=λx y H Q=>∃a b ys,x= .ref a/\y= .ref b/\SqT K H a []/\SqT K H b ys/\Q (.ref b) H
def QM:OpR X (binaryOp .Add) (aA5 X.K):=by
 intro j0 s Y H x y v u Q I rx ry h;obtain⟨a,b,ys,rfl,rfl,ha,hb,q⟩:=h;cases rx;cases ry;obtain⟨its,r1,p1,_⟩:=I.tuple ha;obtain⟨its2,r2,p2,_⟩:=I.tuple hb;obtain⟨⟨cls,dd,data,sl⟩,ho,hc,n,hd⟩:=id p1;obtain⟨⟨cls2,dd2,data2,sl2⟩,ho2,hc2,n2,hd2⟩:=id p2;simp only at hc hd hc2 hd2;subst hc hd hc2 hd2;cases r1;exact concat_meets ⟨_,ho,rfl⟩ ⟨_,ho2,rfl⟩ noFill_tuple_add seq_tuple_add PySem.F.slot_tuple_add PySem.F.entry_tuple_add (PySem.F.args_tuple_add_2 _ _)
   (tuple_addW0 a b #[] its2.toArray n n2 dd dd2 sl sl2 rfl) ⟨ho,ho2,⟨.ref b,H,I,rfl,q⟩⟩
section
variable{X:Cx}{E:Ev}{F:Hp}
def YF(hK:E.K=X.K):OpR X (binaryOp .Add) (fV E F vR):=by
 refine(aCK.or (EB.or ((YD.or QM).or SJ))).imp λv u H Q h=>?_;obtain⟨x,y,Z,G,Q',r1,r2,S,q,k⟩:=h;unfold vR at q;split at q
 . exact .inl ⟨_,_,r1,r2,k.here S q aT⟩
 . exact .inr (.inl ⟨_,_,r1,r2,q.1,k.here S q.2 oM⟩)
 . rename_i xs ys;have r1':=r1;have r2':=r2;obtain⟨a,vs,rfl,ha,ta⟩:=cZ S r1;obtain⟨b,us,rfl,hb,tb⟩:=cZ S r2;obtain⟨hz,q⟩:=q;by_cases ev:vs=[]
   . subst ev;have ex:xs=[]:=List.eq_nil_of_length_eq_zero ta.length;subst ex;exact .inr (.inr (.inl (.inr ⟨a,b,us,rfl,rfl,hK▸ha,hK▸hb,k.here S q r2'⟩)))
   . refine .inr (.inr (.inl (.inl ⟨a,b,vs,us,rfl,rfl,hK▸ha,hK▸hb,ev,by rw[<-ta.length,<-tb.length];exact hz,λe=>?_,λ_ p n=>k.newZ S n (fI (S.zn n) (ta.append tb)) q⟩)));subst e;have ey:ys=[]:=List.eq_nil_of_length_eq_zero tb.length;subst ey;rw[List.append_nil] at q;exact k.here S q r1'
 . obtain⟨xs,ys,hx,hy,hz,q⟩:=q;exact .inr (.inr (.inr (ZE r1 r2 S hx hy hz q k)))
def aAf(_ j:Int):Prop:=0<j
def aA0(x y:PV)(G:Gh)(Q:PK1):Prop:=match x,y with
 | .int i,.int j=>mZ i j/\Q (.int (i*j)) G
 | .tup xs,.int k=>xs≠[]/\1<=k/\xs.length*k.toNat<=10000/\Q (.tup (List.replicate k.toNat xs).flatten) G
 | _,_=>False
noncomputable def vI:Operator->P2
 | .Add=>vR
 | .Sub=>pI (λ_ _=>True) λi j=>.int (i-j)
 | .Mult=>aA0
 | .FloorDiv=>pI rA λi j=>.int (i/j)
 | .Mod=>pI aAf λi j=>.int (i%j)
 | .Pow=>pI MU λi j=>.int (i^j.toNat)
 | .LShift=>pI MU λi j=>.int (i*2^j.toNat)
 | .RShift=>pI (λ_ j=>0<=j) λi j=>.int (i/2^j.toNat)
 | .BitAnd=>pI (λ_ _=>True) λi j=>.int (Builtin.bitAnd i j)
 | _=>λ_ _ _ _=>False
theorem RPs.rep(r:RPs E Z xs vs):∀n:Nat,RPs E Z (List.replicate n xs).flatten (List.replicate n vs).flatten
 | 0=>rfl
 | n+1=>by rw[List.replicate_succ,List.replicate_succ,List.flatten_cons,List.flatten_cons];exact r.append (RPs.rep r n)
def oI(h:rI (λ_ _=>True) g v u H Q):rI0 g v u H Q:=by
 obtain⟨i,j,a,b,_,q⟩:=h;exact⟨i,j,a,b,q⟩
theorem US(hK:E.K=X.K):∀(op:Operator),OpR X (binaryOp op) (fV E F (vI op))
 | .Add=>YF hK
 | .Sub=>aCr.imp λ_ _ _ _ h=>oI (fS (λ_ _ _=>aT) h)
 | .Mult=>(WL.or ZA).imp λv u H Q h=>by
   obtain⟨x,y,Z,G,Q',r1,r2,S,q,k⟩:=h
   replace q:aA0 x y G Q':=q
   unfold aA0 at q;split at q
   . exact .inl ⟨_,_,r1,r2,q.1,k.here S q.2 aT⟩
   . obtain⟨a,vs,rfl,ha,ta⟩:=cZ S r1;obtain⟨ne,h1,hz,q⟩:=q;refine .inr ⟨a,_,vs,rfl,r2,hK▸ha,λe=>?_,h1,by rw[<-ta.length];exact hz,λe=>?_,λp n=>k.newZ S n (fI (S.zn n) (ta.rep _)) q⟩
     . subst e;exact ne (List.eq_nil_of_length_eq_zero ta.length)
     . subst e;refine k.here S q ?_;simpa [List.replicate] using r1
   . exact q.elim
 | .FloorDiv=>ND.imp λ_ _ _ _ h=>fS (λ_ _ _=>aT) h
 | .Mod=>aA1.imp λ_ _ _ _ h=>fS (λ_ _ _=>aT) h
 | .Pow=>aCf.imp λ_ _ _ _ h=>fS (λ_ _ _=>aT) h
 | .LShift=>aBX.imp λ_ _ _ _ h=>fS (λ_ _ _=>aT) h
 | .Div=>λ_ _ _ _ _ _ _ _ _ _ _ _ h=>(by obtain⟨_,_,_,_,_,_,_,_,q,_⟩:=h;exact q.elim)
 | .RShift=>aBm.imp λ_ _ _ _ h=>fS (λ_ _ _=>aT) h
 | .BitOr=>λ_ _ _ _ _ _ _ _ _ _ _ _ h=>(by obtain⟨_,_,_,_,_,_,_,_,q,_⟩:=h;exact q.elim)
 | .BitXor=>λ_ _ _ _ _ _ _ _ _ _ _ _ h=>(by obtain⟨_,_,_,_,_,_,_,_,q,_⟩:=h;exact q.elim)
 | .BitAnd=>aA4.imp λ_ _ _ _ h=>oI (fS (λ_ _ _=>aT) h)
 | .MatMult=>λ_ _ _ _ _ _ _ _ _ _ _ _ h=>(by obtain⟨_,_,_,_,_,_,_,_,q,_⟩:=h;exact q.elim)
end
mutual
noncomputable def peq:PV->PV->Bool
 | .non,y=>match y with|.non=>true|_=>false
 | .bl a,y=>match y with|.bl b=>a==b|.int j=>(if a then 1 else 0)==j|_=>false
 | .int i,y=>match y with|.int j=>i==j|.bl b=>i==(if b then 1 else 0)|_=>false
 | .str a,y=>match y with|.str b=>a==b|_=>false
 | .tup xs,y=>match y with|.tup ys=>oJ xs ys|_=>false
 | .lst xs,y=>match y with|.lst ys=>oJ xs ys|_=>false
 | _,_=>false
noncomputable def oJ:List PV->List PV->Bool
 | [],ys=>match ys with | []=>true|_=>false
 | x::xs,ys=>match ys with|y::r=>peq x y&&oJ xs r | []=>false
end
mutual
noncomputable def dat:PV->Option PyData
 | .non=>some .none
 | .bl b=>some (.bool b)
 | .int i=>some (.int i)
 | .str x=>some (.str x)
 | .tup xs=>match mB xs with|some ds=>some (.tuple ds)|none=>none
 | .lst xs=>match mB xs with|some ds=>some (.list ds)|none=>none
 | _=>none
noncomputable def mB:List PV->Option (List PyData)
 | []=>some []
 | x::xs=>match dat x,mB xs with|some d,some ds=>some (d::ds)|_,_=>none
end
mutual
theorem ES:∀{x y:PV} {d e:PyData},dat x=some d->dat y=some e->PyData.eqv d e=peq x y
 | .non,y,d,e,h,q=>by
   simp only[dat] at h;cases h;cases y<;>simp only[dat] at q<;>(try split at q)<;>cases q<;>simp only[PyData.eqv,peq]
 | .bl _,y,d,e,h,q=>by
   simp only[dat] at h;cases h;cases y<;>simp only[dat] at q<;>(try split at q)<;>cases q<;>simp only[PyData.eqv,peq]
 | .int _,y,d,e,h,q=>by
   simp only[dat] at h;cases h;cases y<;>simp only[dat] at q<;>(try split at q)<;>cases q<;>simp only[PyData.eqv,peq]
 | .str _,y,d,e,h,q=>by
   simp only[dat] at h;cases h;cases y<;>simp only[dat] at q<;>(try split at q)<;>cases q<;>simp only[PyData.eqv,peq]
 | .tup xs,y,d,e,h,q=>by
   simp only[dat] at h;split at h
   . rename_i ds hd;cases h;cases y with
     | tup ys =>
       simp only[dat] at q;split at q
       . rename_i es he;cases q;simp only[PyData.eqv,peq];exact peqs_ok hd he
       . cases q
     | _=>simp only[dat] at q<;>(try split at q)<;>cases q<;>simp only[PyData.eqv,peq]
   . cases h
 | .lst xs,y,d,e,h,q=>by
   simp only[dat] at h;split at h
   . rename_i ds hd;cases h;cases y with
     | lst ys =>
       simp only[dat] at q;split at q
       . rename_i es he;cases q;simp only[PyData.eqv,peq];exact peqs_ok hd he
       . cases q
     | _=>simp only[dat] at q<;>(try split at q)<;>cases q<;>simp only[PyData.eqv,peq]
   . cases h
 | .scr _,y,d,e,h,q=>by simp[dat] at h
 | .ob _ _ _,y,d,e,h,q=>by simp[dat] at h
 | .ref _,y,d,e,h,q=>by simp[dat] at h
 | .ty _,y,d,e,h,q=>by simp[dat] at h
 | .cl _,y,d,e,h,q=>by simp[dat] at h
 | .fn _,y,d,e,h,q=>by simp[dat] at h
 | .emp,y,d,e,h,q=>by simp[dat] at h
 | .dct _ _,y,d,e,h,q=>by simp[dat] at h
 | .fdc _ _,y,d,e,h,q=>by simp[dat] at h
 | .exc _ _ _,y,d,e,h,q=>by simp[dat] at h
theorem peqs_ok:∀{xs ys:List PV} {ds es:List PyData},mB xs=some ds->mB ys=some es->PyData.eqvAll ds es=oJ xs ys
 | [],[],_,_,h,q=>by simp only[mB] at h q;cases h;cases q;simp only[PyData.eqvAll,oJ]
 | [],y::ys,_,_,h,q=>by
   simp only[mB] at h q;cases h;split at q<;>cases q
   simp only[PyData.eqvAll,oJ]
 | x::xs,[],_,_,h,q=>by
   simp only[mB] at h q;cases q;split at h<;>cases h
   simp only[PyData.eqvAll,oJ]
 | x::xs,y::ys,_,_,h,q=>by
   simp only[mB] at h q;split at h<;>cases h
   rename_i hd hds;split at q<;>cases q
   rename_i he hes;simp only[PyData.eqvAll,oJ];rw[ES hd he,peqs_ok hds hes]
end
section
variable{X:Cx}{E:Ev}{j0:List (Addr×Obj)}{Y:L2.St}{F H Z:Hp}{s:J5}
mutual
theorem wW(I:Inv X j0 Y H s)(hK:E.K=X.K)(hz:aP Z H):∀{x:PV} {v:V} {u:Value} {d:PyData},RP E Z x v->aM v u->dat x=some d->∃as,Reads s.heap u d as
 | .non,v,u,d,r,rv,h=>by
   simp only[dat] at h;cases h;cases(show v= .non from r);cases rv;exact⟨[],.none⟩
 | .bl b,v,u,d,r,rv,h=>by
   simp only[dat] at h;cases h;cases(show v= .bl b from r);cases rv;exact⟨[],.bool b⟩
 | .int i,v,u,d,r,rv,h=>by
   simp only[dat] at h;cases h;cases(show v= .int i from r);obtain⟨t,rfl⟩:=rv;exact⟨[],.int i t⟩
 | .str x,v,u,d,r,rv,h=>by
   simp only[dat] at h;cases h;cases(show v= .str x from r);obtain⟨t,rfl⟩:=rv;exact⟨[],.str x t⟩
 | .tup xs,v,u,d,r,rv,h=>by
   simp only[dat] at h;split at h<;>cases h
   rename_i ds hd;obtain⟨a,vs,rfl,q,t⟩:=r;cases rv;obtain⟨its,rv,ht,_⟩:=I.tuple (hK▸bF hz q);obtain⟨o,ho,hc,n,hd'⟩:=ht;obtain⟨as,q'⟩:=dats_reads I hK hz t rv hd;exact⟨as,.tuple ho hc hd' (by simpa using q')⟩
 | .lst xs,v,u,d,r,rv,h=>by
   simp only[dat] at h;split at h<;>cases h
   rename_i ds hd;obtain⟨a,vs,rfl,q,t⟩:=r;cases rv;obtain⟨_,its,n,rv,ho⟩:=I.hok _ _ (hz _ _ q);obtain⟨as,q'⟩:=dats_reads I hK hz t rv hd;exact⟨_::as,.list ho rfl rfl (by simpa using q')⟩
 | .scr _,v,u,d,r,rv,h=>by simp[dat] at h
 | .ob _ _ _,v,u,d,r,rv,h=>by simp[dat] at h
 | .ref _,v,u,d,r,rv,h=>by simp[dat] at h
 | .ty _,v,u,d,r,rv,h=>by simp[dat] at h
 | .cl _,v,u,d,r,rv,h=>by simp[dat] at h
 | .fn _,v,u,d,r,rv,h=>by simp[dat] at h
 | .emp,v,u,d,r,rv,h=>by simp[dat] at h
 | .dct _ _,v,u,d,r,rv,h=>by simp[dat] at h
 | .fdc _ _,v,u,d,r,rv,h=>by simp[dat] at h
 | .exc _ _ _,v,u,d,r,rv,h=>by simp[dat] at h
theorem dats_reads(I:Inv X j0 Y H s)(hK:E.K=X.K)(hz:aP Z H):∀{xs:List PV} {vs:List V} {us:List Value} {ds:List PyData},RPs E Z xs vs->aI vs us->mB xs=some ds->∃as,ReadsAll s.heap us ds as
 | [],_,_,_,r,rv,h=>by
   simp only[mB] at h;cases h;cases r;cases rv;exact⟨[],.nil⟩
 | x::xs,_,_,_,r,rv,h=>by
   simp only[mB] at h;split at h<;>cases h
   rename_i hd hds;obtain⟨v,r',rfl,r1,r2⟩:=r;cases rv with
   | cons q1 q2 =>
     obtain⟨as,a⟩:=wW I hK hz r1 q1 hd;obtain⟨bs,b⟩:=dats_reads I hK hz r2 q2 hds;exact⟨as++bs,.cons a b⟩
end
noncomputable def UJ:Key->PyData
 | .inl i=>.int i
 | .inr x=>.str x
mutual
noncomputable def dte:PV->Option PyData
 | .non=>some .none
 | .bl b=>some (.bool b)
 | .int i=>some (.int i)
 | .str x=>some (.str x)
 | .tup xs=>match yP xs with|some ds=>some (.tuple ds)|none=>none
 | .emp=>some (.dict [])
 | .dct ks xs=>match yP xs with|some ds=>some (.dict ((ks.map UJ).zip ds))|none=>none
 | _=>none
noncomputable def yP:List PV->Option (List PyData)
 | []=>some []
 | x::xs=>match dte x,yP xs with|some d,some ds=>some (d::ds)|_,_=>none
end
theorem uY:∀{ks:List Key} {vs:List V} {ws:List (Key×Value)} {es:List DictEntry},ks.length=vs.length->KV (ks.zip vs) ws->Pairs (cP P w) es ws->ReadsAll h (es.map (·.key)) (ks.map UJ) []/\aI vs (es.map (·.val))
 | [],[],_,_,_,r,p=>by cases r;cases p;exact⟨.nil,.nil⟩
 | [],_::_,_,_,l,_,_=>by cases l
 | _::_,[],_,_,l,_,_=>by cases l
 | k::ks,v::vs,_,_,l,r,p=>by
   rw[List.zip_cons_cons] at r;cases r with
   | cons r1 r2 =>
     cases p with
     | cons p1 p2 p3 =>
       obtain⟨a,b⟩:=uY (h:=h) (Nat.succ.inj l) r2 p3;obtain⟨e1,e2⟩:=r1;refine⟨?_,.cons (by show L2.aM v (DictEntry.val _);rw[p2];exact e2) b⟩;rw[<-e1] at p1;rcases k with i|x
       . obtain⟨t,e⟩:=Value.isInt_shape (k:=i) p1;rw[List.map_cons,List.map_cons,e];exact .cons (as:=[]) (bs:=[]) (.int i t) a
       . obtain⟨t,e⟩:=Value.isStrOf_shape (x:=x) p1;rw[List.map_cons,List.map_cons,e];exact .cons (as:=[]) (bs:=[]) (.str x t) a
theorem CB:∀{xs:List PV} {ds:List PyData},yP xs=some ds->xs.length=ds.length
 | [],_,h=>by simp only[yP] at h;cases h;rfl
 | x::xs,_,h=>by
   simp only[yP] at h;split at h<;>cases h
   rename_i h1 h2;rw[List.length_cons,List.length_cons,CB h2]
mutual
theorem KQ(I:Inv X j0 Y H s)(hK:E.K=X.K)(hz:aP Z H):∀{x:PV} {v:V} {u:Value} {d:PyData},RP E Z x v->aM v u->dte x=some d->∃as,Reads s.heap u d as/\sysModules∉as
 | .non,v,u,d,r,rv,h=>by
   simp only[dte] at h;cases h;cases(show v= .non from r);cases rv;exact⟨[],.none,by simp⟩
 | .bl b,v,u,d,r,rv,h=>by
   simp only[dte] at h;cases h;cases(show v= .bl b from r);cases rv;exact⟨[],.bool b,by simp⟩
 | .int i,v,u,d,r,rv,h=>by
   simp only[dte] at h;cases h;cases(show v= .int i from r);obtain⟨t,rfl⟩:=rv;exact⟨[],.int i t,by simp⟩
 | .str x,v,u,d,r,rv,h=>by
   simp only[dte] at h;cases h;cases(show v= .str x from r);obtain⟨t,rfl⟩:=rv;exact⟨[],.str x t,by simp⟩
 | .tup xs,v,u,d,r,rv,h=>by
   simp only[dte] at h;split at h<;>cases h
   rename_i ds hd;obtain⟨a,vs,rfl,q,t⟩:=r;cases rv;obtain⟨its,rv,ht,_⟩:=I.tuple (hK▸bF hz q);obtain⟨o,ho,hc,n,hd'⟩:=ht;obtain⟨as,q',na⟩:=dtes_reads I hK hz t rv hd;exact⟨as,.tuple ho hc hd' (by simpa using q'),na⟩
 | .emp,v,u,d,r,rv,h=>by
   simp only[dte] at h;cases h;obtain⟨a,rfl,q⟩:=r;cases rv;obtain⟨_,hs,vs,rel,o,es,ep,ho,⟨hc,hd⟩,hl⟩:=I.hok _ _ (hz _ _ q);have ev:vs=[]:=by cases vs with
     | nil=>rfl
     | cons _ _=>cases rel
   subst ev;obtain⟨hd1,_,hp,_⟩:=hl;have ee:es.toList=[]:=by cases hh:es.toList with
     | nil=>rfl
     | cons _ _=>rw[hh] at hp;cases hp
   exact⟨a::[]++[],.dict ho hc hd1 (kvs:=[]) (by rw[ee];exact .nil) (by rw[ee];exact .nil),by
     simp only[List.append_nil,List.mem_singleton];intro z;subst z;rw[beq_self_eq_true] at hs;cases hs⟩
 | .lst _,v,u,d,r,rv,h=>by simp[dte] at h
 | .scr _,v,u,d,r,rv,h=>by simp[dte] at h
 | .ob _ _ _,v,u,d,r,rv,h=>by simp[dte] at h
 | .ref _,v,u,d,r,rv,h=>by simp[dte] at h
 | .ty _,v,u,d,r,rv,h=>by simp[dte] at h
 | .cl _,v,u,d,r,rv,h=>by simp[dte] at h
 | .fn _,v,u,d,r,rv,h=>by simp[dte] at h
 | .dct ks xs,v,u,d,r,rv,h=>by
   simp only[dte] at h;split at h<;>cases h
   rename_i ds hd;obtain⟨a,vs,rfl,q,l,t⟩:=r;cases rv;obtain⟨_,hs,ws,rel,o,es,ep,ho,⟨hc,hd0⟩,hl⟩:=I.hok _ _ (hz _ _ q);obtain⟨hd1,_,hp,_⟩:=hl;obtain⟨rk,rw'⟩:=uY (h:=s.heap) l rel hp;obtain⟨as,q',na⟩:=dtes_reads I hK hz t rw' hd;have ln:(ks.map UJ).length=ds.length:=by rw[List.length_map,l,<-CB hd,t.length]
   exact⟨a::[]++as,.dict ho hc hd1 (kvs:=(ks.map UJ).zip ds) (by rw[List.map_fst_zip (Nat.le_of_eq ln)];exact rk) (by rw[List.map_snd_zip (Nat.le_of_eq ln.symm)];exact q'),by
     simp only[List.cons_append,List.nil_append,List.mem_cons];rintro(z|z)
     . subst z;rw[beq_self_eq_true] at hs;cases hs
     . exact na z⟩
 | .fdc _ _,v,u,d,r,rv,h=>by simp[dte] at h
 | .exc _ _ _,v,u,d,r,rv,h=>by simp[dte] at h
theorem dtes_reads(I:Inv X j0 Y H s)(hK:E.K=X.K)(hz:aP Z H):∀{xs:List PV} {vs:List V} {us:List Value} {ds:List PyData},RPs E Z xs vs->aI vs us->yP xs=some ds->∃as,ReadsAll s.heap us ds as/\sysModules∉as
 | [],_,_,_,r,rv,h=>by
   simp only[yP] at h;cases h;cases r;cases rv;exact⟨[],.nil,by simp⟩
 | x::xs,_,_,_,r,rv,h=>by
   simp only[yP] at h;split at h<;>cases h
   rename_i hd hds;obtain⟨v,r',rfl,r1,r2⟩:=r;cases rv with
   | cons q1 q2 =>
     obtain⟨as,a,na⟩:=KQ I hK hz r1 q1 hd;obtain⟨bs,b,nb⟩:=dtes_reads I hK hz r2 q2 hds;exact⟨as++bs,.cons a b,λz=>(List.mem_append.mp z).elim na nb⟩
end
noncomputable def pur(G:Gh):PV->PV
 | .ref a=>match G a with
   | some (.lst xs)=>.lst xs
   | _=>.ref a
 | x=>x
def shp(x:PV):Bool:=match dat x with|some d=>SeqAt.shaped d|none=>false
def kS(I:Inv X j0 Y H s)(hK:E.K=X.K)(S:Sim E F H Z G)(r:RP E Z x v)(rv:aM v u)(h:dat (pur G x)=some d):∃as,Reads s.heap u d as:=by
 by_cases hx:∃a,x= .ref a
 . obtain⟨a,rfl⟩:=hx;have e:v= .ref a:=r;subst e;cases rv;unfold pur at h;dsimp only at h;split at h
   . rename_i xs e;obtain⟨_,o',q,vs,e',t⟩:=S.g _ _ e;subst e';simp only[dat] at h;split at h<;>cases h
     rename_i ds hd;obtain⟨_,its,n,rv,ho⟩:=I.hok _ _ q;obtain⟨as,q'⟩:=dats_reads I hK S.z t rv hd;exact⟨_::as,.list ho rfl rfl (by simpa using q')⟩
   . simp[dat] at h
 . have e:pur G x=x:=by
     unfold pur;split
     . rename_i a;exact absurd ⟨a,rfl⟩ hx
     . rfl
   rw[e] at h;exact wW I hK S.z r rv h
def pEq(neg:Bool)(x y:PV)(G:Gh)(Q:PK1):Prop:=shp (pur G x)=true/\shp (pur G y)=true/\Q (.bl (if neg then !peq (pur G x) (pur G y) else peq (pur G x) (pur G y))) G
def xK(h:shp x=true):∃d,dat x=some d/\SeqAt.shaped d=true:=by
 unfold shp at h;split at h
 . rename_i d e;exact⟨d,e,h⟩
 . cases h
def aBZ(hr:cJ k X.A)(hK:E.K=X.K):OpR X (compareOp .Eq) (fV E F (pEq false)):=by
 rintro j0 s Y H v w u u' Q I rx ry ⟨x,y,Z,G,Q',r1,r2,S,⟨hx,hy,q⟩,kq⟩;obtain⟨d,e1,a1⟩:=xK hx;obtain⟨e,e2,a2⟩:=xK hy;obtain⟨as,q1⟩:=kS I hK S r1 rx e1;obtain⟨bs,q2⟩:=kS I hK S r2 ry e2;refine eq_dataH q1 q2 a1 a2 hr.units ⟨.bl _,H,I,rfl,?_⟩;rw[ES e1 e2];exact kq.here S q cF
def aBN(hr:cJ k X.A)(hK:E.K=X.K):OpR X (compareOp .NotEq) (fV E F (pEq true)):=by
 rintro j0 s Y H v w u u' Q I rx ry ⟨x,y,Z,G,Q',r1,r2,S,⟨hx,hy,q⟩,kq⟩;obtain⟨d,e1,a1⟩:=xK hx;obtain⟨e,e2,a2⟩:=xK hy;obtain⟨as,q1⟩:=kS I hK S r1 rx e1;obtain⟨bs,q2⟩:=kS I hK S r2 ry e2;refine ne_dataH q1 q2 a1 a2 hr.units ⟨.bl _,H,I,rfl,?_⟩;rw[ES e1 e2];exact kq.here S q cF
end
section
variable{E:Ev}{F H Z:Hp}{G:Gh}{X:Cx}
def FY(r:RPs E Z xs vs)(h:atI xs i=some x):∃v,atI vs i=some v/\RP E Z x v:=by
 unfold atI at *;rw[<-r.length];cases e:ixN xs.length i with
 | none=>rw[e] at h;cases h
 | some j=>rw[e] at h;exact r.get h
noncomputable def BG:List Key->List PV->Key->Option PV
 | j::ks,x::xs,k=>if j=k then some x else BG ks xs k
 | _,_,_=>none
def gR(x y:PV)(G:Gh)(Q:PK1):Prop:=match x,y with
 | .tup xs,.int i=>∃v,atI xs i=some v/\Q v G
 | .scr ns,.int i=>∃n,atI ns i=some n/\Q (.int n) G
 | .str z,.int i=>z.length<=sizeLine/\∃c,atI z.cps.toList i=some c/\Q (.str ⟨#[c]⟩) G
 | .dct ks xs,.int i=>∃v,BG ks xs (.inl i)=some v/\Q v G
 | .dct ks xs,.str z=>∃v,BG ks xs (.inr z)=some v/\Q v G
 | x,.int i=>∃xs v,bE G x=some xs/\atI xs i=some v/\Q v G
 | _,_=>False
theorem uX:∀{ks:List Key} {xs:List PV} {vs:List V},RPs E Z xs vs->BG ks xs k=some x->∃v,valV (ks.zip vs) k=some v/\RP E Z x v
 | [],_,_,_,h=>by cases h
 | _::_,[],_,_,h=>by cases h
 | j::ks,y::ys,_,⟨v,r,e,r1,r2⟩,h=>by
   subst e;unfold BG at h;rw[List.zip_cons_cons];split at h
   . rename_i ej;cases h;exact⟨v,uN ej,r1⟩
   . rename_i ej;rw[uV ej];exact uX (ks:=ks) r2 h
def UN{α β:Type}{f:α->β}{xs:List α}{i:Int}{x:α}(h:atI xs i=some x):atI (xs.map f) i=some (f x):=by
 unfold atI at *;rw[List.length_map];cases e:ixN xs.length i with
 | none=>rw[e] at h;cases h
 | some j =>
   rw[e] at h;have h':xs[j]? =some x:=h;show(xs.map f)[j]? =some (f x);rw[List.getElem?_map,h'];rfl
def aC1(hr:cJ k X.A)(hK:E.K=X.K):IxR X (fV E F gR):=by
 refine(aDa.or (UP hr)).imp λv u H Q h=>?_;obtain⟨x,y,Z,G,Q',r1,r2,S,q,k⟩:=h;unfold gR at q;split at q
 . obtain⟨y,e,q⟩:=q;obtain⟨a,vs,rfl,ha,ta⟩:=cZ S r1;obtain⟨w,e',rw'⟩:=FY ta e;exact .inl (.inr (.inl ⟨a,vs,_,w,rfl,r2,hK▸ha,e',k.here S q rw'⟩))
 . obtain⟨n,e,q⟩:=q;obtain⟨a,rfl,ha⟩:=r1;exact .inl (.inl ⟨a,_,_,_,rfl,r2,hK▸S.z.seq ha,UN e,k.here S q aT⟩)
 . obtain⟨hz,c,e,q⟩:=q;exact .inl (.inr (.inr ⟨_,_,c,r1,r2,hz,e,k.here S q oM⟩))
 . obtain⟨y,e,q⟩:=q;obtain⟨a,vs,rfl,ha,_,ta⟩:=r1;obtain⟨w,e',rw'⟩:=uX ta e;have r2:u=kV (.inl _):=r2;rw[r2];refine .inr ⟨a,w,rfl,?_,k.here S q rw'⟩;rw[<-e'];exact .k (S.z _ _ ha)
 . obtain⟨y,e,q⟩:=q;obtain⟨a,vs,rfl,ha,_,ta⟩:=r1;obtain⟨w,e',rw'⟩:=uX ta e;have r2:u=kV (.inr _):=r2;rw[r2];refine .inr ⟨a,w,rfl,?_,k.here S q rw'⟩;rw[<-e'];exact .k (S.z _ _ ha)
 . obtain⟨xs,y,e0,e,q⟩:=q;obtain⟨a,vs,rfl,ha,ta⟩:=bH S r1 e0;obtain⟨w,e',rw'⟩:=FY ta e;exact .inl (.inl ⟨a,vs,_,w,rfl,r2,SqL.of ha,e',k.here S q rw'⟩)
 . exact q.elim
def DE(o i v:PV)(G:Gh)(Q:Gh->Prop):Prop:= ∃a xs k j,o= .ref a/\i= .int k/\G a=some (.lst xs)/\ixN xs.length k=some j/\Q (gup G a (.lst (xs.set j v)))
def aC4(E:Ev)(F:Hp)(p:PV->PV->PV->Gh->(Gh->Prop)->Prop):KL:=λo i v H Q=>∃o' i' v' Z G Q',RP E Z o' o/\RP E Z i' i/\RP E Z v' v/\Sim E F H Z G/\p o' i' v' G Q'/\∀G1 H1,Sim E F H1 Z G1->Q' G1->Q H1
def HH:UK X (aC4 E F DE):=by
 rintro j0 s Y H o i v ov iv u Q I ro ri rv ⟨o',i',v',Z,G,Q',r1,r2,r3,S,⟨a,xs,k,j,e1,e2,hG,ix,q⟩,kq⟩;subst e1 e2;have e1:o= .ref a:=r1;have e2:i= .int k:=r2;subst e1 e2;obtain⟨_,o',hH,vs,e,t⟩:=S.g _ _ hG;subst e;exact QG j0 s Y H (.ref a) (.int k) v ov iv u Q I ro ri rv ⟨a,vs,k,j,rfl,rfl,hH,by rw[<-t.length];exact ix,kq _ _ (S.set (go:=.lst (xs.set j v')) hG ⟨_,rfl,t.set r3 j⟩) q⟩
def lP(xs:List PV)(lo hi:Option Int):List PV:=(xs.drop (HT.sIx xs.length 0 lo)).take (HT.sIx xs.length xs.length hi-HT.sIx xs.length 0 lo)
def FG{lo hi:Option Int}(r:RPs E Z xs vs):RPs E Z (lP xs lo hi) (AL vs lo hi):=by
 unfold lP AL;rw[r.length];exact(r.drop _).take _
def eY(x:PV)(lo hi:Option Int)(G:Gh)(Q:PK1):Prop:=match x with
 | .tup xs=>Q (.tup (lP xs lo hi)) G
 | .scr ns=>Q (.lst (lP (ns.map .int) lo hi)) G
 | x=>∃xs,bE G x=some xs/\Q (.lst (lP xs lo hi)) G
def aE8(E:Ev)(F:Hp)(p:PV->Option Int->Option Int->Gh->PK1->Prop):V->Option Int->Option Int->Hp->VK->Prop:=λv lo hi H Q=>∃x Z G Q',RP E Z x v/\Sim E F H Z G/\p x lo hi G Q'/\Kq E F Z Q' Q
def SlR.imp{r r':V->Option Int->Option Int->Hp->VK->Prop}(h:SlR X r)(f:∀x l u H Q,r' x l u H Q->r x l u H Q):SlR X r':=λj0 s Y H x v vl vu lo hi sl Q I rx hs pl pu q=>h j0 s Y H x v vl vu lo hi sl Q I rx hs pl pu (f _ _ _ _ _ q)
def aBf(hK:E.K=X.K):SlR X (aE8 E F eY):=by
 refine SlR.imp (SlR.or (SlR.or aAt UL) XZ) λv lo hi H Q h=>?_;obtain⟨x,Z,G,Q',r1,S,q,k⟩:=h;unfold eY at q;split at q
 . rename_i xs;have r0:=r1;obtain⟨a,vs,rfl,ha,ta⟩:=cZ S r1;by_cases w:HT.sIx vs.length 0 lo=0/\HT.sIx vs.length vs.length hi=vs.length
   . refine .inl (.inr ⟨a,vs,rfl,hK▸ha,w,?_⟩);have e:lP xs lo hi=xs:=by
       unfold lP;rw[ta.length,w.1,w.2,List.drop_zero,Nat.sub_zero,<-ta.length,List.take_length]
     rw[e] at q;exact k _ _ _ _ _ (aP.refl _) S r0 q
   . exact .inl (.inl ⟨a,vs,rfl,hK▸ha,w,λp n=>k.newZ S n (fI (S.zn n) (FG ta)) q⟩)
 . obtain⟨a,rfl,ha⟩:=r1;exact .inr ⟨a,_,rfl,hK▸S.z.seq ha,λp n=>k.newZ S n (eG (S.zn n) (FG (RPs.ofInts _))) q⟩
 . obtain⟨xs,e0,q⟩:=q;obtain⟨a,vs,rfl,ha,ta⟩:=bH S r1 e0;exact .inr ⟨a,vs,rfl,SqL.of ha,λp n=>k.newZ S n (eG (S.zn n) (FG ta)) q⟩
def pG(x:PV)(G:Gh)(Q:Bool->Gh->Prop):Prop:=match x with
 | .non=>Q false G
 | .bl b=>Q b G
 | .int i=>Q (i !=0) G
 | .str y=>y.length<=sizeLine/\Q ((y.length:Int)!=0) G
 | .tup xs=>Q (!xs.isEmpty) G
 | x=>∃xs,bE G x=some xs/\Q (!xs.isEmpty) G
def xA(r:RPs E Z xs vs):xs.isEmpty=vs.isEmpty:=by
 cases xs with
 | nil=>cases r;rfl
 | cons x xs=>obtain⟨_,_,e,_,_⟩:=r;subst e;rfl
def sD(hK:E.K=X.K)(S:Sim E F H Z G)(r:RP E Z x v)(q:pG x G Q'):∃b,JU X.K v H b/\Q' b G:=by
 unfold pG at q;split at q
 . cases(show v= .non from r);exact⟨_,rfl,q⟩
 . cases(show v= .bl _ from r);exact⟨_,rfl,q⟩
 . cases(show v= .int _ from r);exact⟨_,rfl,q⟩
 . cases(show v= .str _ from r);exact⟨_,⟨q.1,rfl⟩,q.2⟩
 . obtain⟨a,vs,rfl,ha,ta⟩:=cZ S r;exact⟨_,.inr (.inl ⟨vs,hK▸ha,by rw[xA ta]⟩),q⟩
 . obtain⟨xs,e0,q⟩:=q;obtain⟨a,vs,rfl,ha,ta⟩:=bH S r e0;exact⟨_,.inl ⟨vs,SqL.of ha,by rw[xA ta]⟩,q⟩
inductive Bn where
 | len|abs|max|min|int|str|isi|tuple|list|all|any|sum|bool|repr|divmod
 deriving DecidableEq
abbrev Sp3:=List PV->Gh->PK1->Prop
def aBQ(E:Ev)(F:Hp)(p:List PV->Gh->PK1->Prop):List V->Hp->VK->Prop:=λvs H Q=>∃xs Z G Q',RPs E Z xs vs/\Sim E F H Z G/\p xs G Q'/\Kq E F Z Q' Q
noncomputable def oW:PV->Gh->Option J6
 | .non,_=>some "NoneType"
 | .bl _,_=>some "bool"
 | .int _,_=>some "int"
 | .str _,_=>some "str"
 | .tup _,_=>some "tuple"
 | .lst _,_=>some "list"
 | .emp,_=>some "dict"
 | .dct _ _,_=>some "dict"
 | .ref a,G=>match G a with
   | some (.lst _)=>some "list"
   | _=>none
 | _,_=>none
noncomputable def JV:PV->Gh->Option J6
 | .ob c _ _,_=>some c
 | .ref a,G=>match G a with
   | some (.ins c _ _)=>some c
   | _=>none
 | _,_=>none
structure OL(E:Ev)(cs:List J6):Prop where
 own:∀c∈cs,VC E.K (E.cls c)
 plain:∀c∈cs,∀n∈OI,W.kitOne E.K (.type n) (.ref (E.cls c))=some false
 other:∀c∈cs,∀T∈pB,W.kitOne E.K (.ref (E.cls c)) (.type T)=some false
 apart:∀c∈cs,∀c'∈cs,c≠c'->W.kitOne E.K (.ref (E.cls c)) (.ref (E.cls c'))=some false
noncomputable def vW:List PV->Option Bool
 | []=>some true
 | .bl b::r=>(vW r).map (b&&·)
 | _::_=>none
noncomputable def TJ:List PV->Option Bool
 | []=>some false
 | .bl b::r=>(TJ r).map (b||·)
 | _::_=>none
noncomputable def EQ:List PV->Option Int
 | []=>some 0
 | .int i::r=>(EQ r).map (i + ·)
 | _::_=>none
theorem IC:∀{xs:List PV} {b:Bool},vW xs=some b->∃bs:List Bool,xs=bs.map PV.bl/\b=bs.all id
 | [],b,h=>by cases h;exact⟨[],rfl,rfl⟩
 | x::r,b,h=>by
   cases x with
   | bl c =>
     unfold vW at h;cases e:vW r with
     | none=>rw[e] at h;cases h
     | some d =>
       rw[e] at h;cases h;obtain⟨bs,e1,e2⟩:=IC e;exact⟨c::bs,by rw[e1];rfl,by rw[e2];rfl⟩
   | _=>cases h
theorem GV:∀{xs:List PV} {b:Bool},TJ xs=some b->∃bs:List Bool,xs=bs.map PV.bl/\b=bs.any id
 | [],b,h=>by cases h;exact⟨[],rfl,rfl⟩
 | x::r,b,h=>by
   cases x with
   | bl c =>
     unfold TJ at h;cases e:TJ r with
     | none=>rw[e] at h;cases h
     | some d =>
       rw[e] at h;cases h;obtain⟨bs,e1,e2⟩:=GV e;exact⟨c::bs,by rw[e1];rfl,by rw[e2];rfl⟩
   | _=>cases h
theorem IB:∀{xs:List PV} {b:Int},EQ xs=some b->∃bs:List Int,xs=bs.map PV.int/\b=bs.sum
 | [],b,h=>by cases h;exact⟨[],rfl,rfl⟩
 | x::r,b,h=>by
   cases x with
   | int c =>
     unfold EQ at h;cases e:EQ r with
     | none=>rw[e] at h;cases h
     | some d =>
       rw[e] at h;cases h;obtain⟨bs,e1,e2⟩:=IB e;exact⟨c::bs,by rw[e1];rfl,by rw[e2];rfl⟩
   | _=>cases h
theorem RPs.bools:∀{bs:List Bool} {vs:List V},RPs E Z (bs.map PV.bl) vs->vs=bs.map V.bl
 | [],_,h=>h
 | _::_,_,⟨v,r,e1,h,t⟩=>by
   have h':v=V.bl _:=h;subst e1 h';rw[RPs.bools t];rfl
def bU(cs:List J6):Bn->List PV->Gh->PK1->Prop
 | .len,[x],G,Q=>(∃xs,x= .tup xs/\Q (.int xs.length) G)∨(∃ns,x= .scr ns/\Q (.int ns.length) G)∨(∃z,x= .str z/\z.length<=sizeLine/\Q (.int z.length) G)∨∃xs,bE G x=some xs/\Q (.int xs.length) G
 | .abs,[.int i],G,Q=>Q (.int (i.natAbs:Int)) G
 | .max,[.int i,.int j],G,Q=>Q (.int (max i j)) G
 | .max,[.tup xs],G,Q=>∃ns:List Int,xs=ns.map PV.int/\ns≠[]/\∀m,m∈ns->(∀x∈ns,x<=m)->Q (.int m) G
 | .max,[.lst xs],G,Q=>∃ns:List Int,xs=ns.map PV.int/\ns≠[]/\∀m,m∈ns->(∀x∈ns,x<=m)->Q (.int m) G
 | .min,[.int i,.int j],G,Q=>Q (.int (min i j)) G
 | .min,[.lst xs],G,Q=>∃ns:List Int,xs=ns.map PV.int/\ns≠[]/\∀m,m∈ns->(∀x∈ns,m<=x)->Q (.int m) G
 | .int,[.int i],G,Q=>Q (.int i) G
 | .int,[.bl b],G,Q=>Q (.int (if b then 1 else 0)) G
 | .str,[.int i],G,Q=>i.natAbs.log2<1920/\Q (.str (toString i)) G
 | .str,[.non],G,Q=>Q (.str (Str.ofString "None")) G
 | .isi,[x,.ty T],G,Q=>T∈pB/\((∃n,oW x G=some n/\Q (.bl (AH n T)) G)∨∃c,JV x G=some c/\c∈cs/\Q (.bl false) G)
 | .isi,[x,.cl c],G,Q=>c∈cs/\((∃n,oW x G=some n/\Q (.bl false) G)∨∃c',JV x G=some c'/\c'∈cs/\Q (.bl (decide (c'=c))) G)
 | .tuple,[x],G,Q=>(∃xs,x= .tup xs/\Q x G)∨∃xs,bE G x=some xs/\Q (.tup xs) G
 | .list,[x],G,Q=>(∃xs,x= .tup xs/\Q (.lst xs) G)∨∃xs,bE G x=some xs/\Q (.lst xs) G
 | .all,[x],G,Q=>∃xs b,bE G x=some xs/\vW xs=some b/\Q (.bl b) G
 | .any,[x],G,Q=>∃xs b,bE G x=some xs/\TJ xs=some b/\Q (.bl b) G
 | .sum,[x],G,Q=>(∃xs b,bE G x=some xs/\EQ xs=some b/\Q (.int b) G)∨∃ns:List Int,x= .tup (ns.map PV.int)/\Q (.int ns.sum) G
 | _,_,_,_=>False
noncomputable def aA3:Bn->Value
 | .len=>.builtin "len"
 | .abs=>.builtin "abs"
 | .max=>.builtin "max"
 | .min=>.builtin "min"
 | .int=>.type "int"
 | .str=>.type "str"
 | .isi=>.builtin "isinstance"
 | .tuple=>.type "tuple"
 | .list=>.type "list"
 | .all=>.builtin "all"
 | .any=>.builtin "any"
 | .sum=>.builtin "sum"
 | .bool=>.type "bool"
 | .repr=>.builtin "repr"
 | .divmod=>.builtin "divmod"
def oG(r:RPs E Z [x] vs):∃v,vs=[v]/\RP E Z x v:=by
 obtain⟨v,t,e,r1,r2⟩:=r;have e2:t=[]:=r2;subst e2;exact⟨v,e,r1⟩
def YH(r:RPs E Z [x,y] vs):∃v u,vs=[v,u]/\RP E Z x v/\RP E Z y u:=by
 obtain⟨v,t,e,r1,u,t',e',r2,r3⟩:=r;have e2:t'=[]:=r3;subst e2 e';exact⟨v,u,e,r1,r2⟩
def xS(S:Sim E F H Z G)(r:RP E Z x v)(h:oW x G=some n):n∈OI/\(tyN H v=some n∨(n="tuple"/\∃a vs,v= .ref a/\SqT E.K H a vs)):=by
 cases x with
 | non=>cases h;cases(show v= .non from r);exact⟨by decide,.inl rfl⟩
 | bl b=>cases h;cases(show v= .bl b from r);exact⟨by decide,.inl rfl⟩
 | int b=>cases h;cases(show v= .int b from r);exact⟨by decide,.inl rfl⟩
 | str b=>cases h;cases(show v= .str b from r);exact⟨by decide,.inl rfl⟩
 | tup xs =>
   cases h;obtain⟨a,vs,rfl,ha,_⟩:=cZ S r;exact⟨by decide,.inr ⟨rfl,a,vs,rfl,ha⟩⟩
 | lst xs =>
   cases h;obtain⟨a,vs,rfl,ha,_⟩:=bH (xs:=xs) S r rfl;exact⟨by decide,.inl (by simp only[tyN,ha])⟩
 | emp =>
   cases h;obtain⟨a,rfl,ha⟩:=r;exact⟨by decide,.inl (by simp only[tyN,S.z _ _ ha])⟩
 | dct ks xs =>
   cases h;obtain⟨a,vs,rfl,ha,_,_⟩:=r;exact⟨by decide,.inl (by simp only[tyN,S.z _ _ ha])⟩
 | ref a =>
   unfold oW at h;dsimp only at h;split at h
   . rename_i xs e;cases h;obtain⟨a',vs,rfl,ha,_⟩:=bH (xs:=xs) S r (by unfold bE;dsimp only;rw[e]);exact⟨by decide,.inl (by simp only[tyN,ha])⟩
   . cases h
 | _=>cases h
def GS{j0:List (Addr×Obj)}{Y:L2.St}{s:J5}{x:PV}{v:V}{u c:Value}{n:J6}{b:Bool}{Q:VK}(hK:E.K=X.K)(I:Inv X j0 Y H s)(S:Sim E F H Z G)(r:RP E Z x v)(rv:aM v u)(h:oW x G=some n)
   (e:W.kitOne X.K (.type n) c=some b) (q:Q (.bl b) H):wpAny (model X.prog X.w) X.A (call (.builtin "isinstance") [u,c]) (EP X j0 Y Q) X.xe s:=by
 obtain⟨_,t|⟨hn,a,vs,hv,ha⟩⟩:=xS S r h
 . exact xF I rv (aAY t) e λtk=>⟨.bl b,H,I.tok tk,rfl,q⟩
 . subst hn hv;cases rv;obtain⟨its,_,⟨o,h1,h2,_⟩,_⟩:=I.tuple (hK▸ha);exact W.kia_one W.kitx_tuple I.kIn ⟨o,h1,h2⟩ e (λz=>nomatch z) λtk=>⟨.bl b,H,I.tok tk,rfl,q⟩
def VN(S:Sim E F H Z G)(r:RP E Z x v)(h:JV x G=some c):∃a dx fs,v= .ref a/\H a=some (.ins (E.cls c) dx fs):=by
 cases x with
 | ob c' ns xs =>
   cases h;obtain⟨a,dx,vs,rfl,q,_,_⟩:=r;exact⟨a,dx,_,rfl,S.z _ _ q⟩
 | ref a =>
   unfold JV at h;dsimp only at h;split at h
   . rename_i c' ns xs e;cases h;have e1:v= .ref a:=r;subst e1;obtain⟨_,o',q,dx,vs,e',_,_⟩:=S.g _ _ e;subst e';exact⟨a,dx,_,rfl,q⟩
   . cases h
 | _=>cases h
def zR{j0:List (Addr×Obj)}{Y:L2.St}{s:J5}{x:PV}{v:V}{u t:Value}{c:J6}{b:Bool}{Q:VK}(hK:E.K=X.K)(I:Inv X j0 Y H s)(S:Sim E F H Z G)(r:RP E Z x v)(rv:aM v u)(h:JV x G=some c)(O:VC E.K (E.cls c))
   (e:W.kitOne X.K (.ref (E.cls c)) t=some b) (q:Q (.bl b) H):wpAny (model X.prog X.w) X.A (call (.builtin "isinstance") [u,t]) (EP X j0 Y Q) X.xe s:=by
 obtain⟨a,dx,fs,rfl,ha⟩:=VN S r h;have O:VC X.K (E.cls c):=hK▸O;exact xF I rv (.ins ha O.cl O.ha O.hn O.htk O.hm) e λtk=>⟨.bl b,H,I.tok tk,rfl,q⟩
def aU.or(h:aU X f r)(h':aU X f r'):aU X f (λxs H Q=>r xs H Q∨r' xs H Q):=by
 intro j0 s Y H xs us Q I rs q;rcases q with q|q
 . exact h j0 s Y H xs us Q I rs q
 . exact h' j0 s Y H xs us Q I rs q
def yJ:aU X (.type "str") (λxs H Q=>xs=[.non]/\Q (.str (Str.ofString "None")) H):=by
 intro j0 s Y H xs us Q I r h;obtain⟨rfl,q⟩:=h;obtain⟨u,rfl,ru⟩:=dI r;cases ru;exact PySem.P.str_of_none ⟨.str _,H,I.tok _,⟨_,rfl⟩,q⟩
def noC(h:∀xs G Q,¬p xs G Q):aU X f (aBQ E F p):=by rintro _ _ _ _ _ _ _ _ _ ⟨_,_,_,_,_,_,q,_⟩;exact absurd q (h _ _ _)
noncomputable def WJ:Bn->Bool
 | .max=>true
 | .min=>true
 | .all=>true
 | .any=>true
 | .sum=>true
 | .len=>false
 | .abs=>false
 | .int=>false
 | .str=>false
 | .isi=>false
 | .tuple=>false
 | .list=>false
 | .bool=>false
 | .repr=>false
 | .divmod=>false
theorem XW(hK:E.K=X.K)(C:OL E cs):∀b,(WJ b=true->X.calm=true)->aU X (aA3 b) (aBQ E F (bU cs b))
 | .len,hc=>by
   refine(aU.or zE xY).imp λvs H Q h=>?_;obtain⟨xs,Z,G,Q',r,S,q,k⟩:=h
   match xs,q with
   | [x],q =>
     obtain⟨v,rfl,rr⟩:=oG r;rcases q with ⟨ys,rfl,q⟩|⟨ns,rfl,q⟩|⟨z,rfl,hz,q⟩|⟨ys,e,q⟩
     . obtain⟨a,vs,rfl,ha,ta⟩:=cZ S rr;exact .inl ⟨a,vs,rfl,.inr (hK▸ha),k.here S q (by rw[ta.length];exact aT)⟩
     . obtain⟨a,rfl,ha⟩:=rr;exact .inl ⟨a,_,rfl,.inl (hK▸S.z.seq ha),k.here S q (by rw[List.length_map];exact aT)⟩
     . exact .inr ⟨z,by rw[show v= .str z from rr],hz,k.here S q aT⟩
     . obtain⟨a,vs,rfl,ha,ta⟩:=bH S rr e;exact .inl ⟨a,vs,rfl,.inl (SqL.of ha),k.here S q (by rw[ta.length];exact aT)⟩
 | .abs,hc=>by
   refine KH.imp λvs H Q h=>?_;obtain⟨xs,Z,G,Q',r,S,q,k⟩:=h
   match xs,q with
   | [.int i],q =>
     obtain⟨v,rfl,rr⟩:=oG r;exact⟨i,by rw[show v= .int i from rr],k.here S q aT⟩
 | .max,hc=>by
   refine(aU.or (aU.or (LP (hc rfl)) (JM (hc rfl))) (MD (hc rfl))).imp λvs H Q h=>?_;obtain⟨xs,Z,G,Q',r,S,q,k⟩:=h
   match xs,q with
   | [.int i,.int j],q =>
     obtain⟨v,u,rfl,r1,r2⟩:=YH r;have e:max i j=if j>i then j else i:=by split<;>omega
     exact .inl (.inl ⟨i,j,by rw[show v= .int i from r1,show u= .int j from r2],k.here S q (by rw[e];exact aT)⟩)
   | [.tup ys],q =>
     obtain⟨v,rfl,rr⟩:=oG r;obtain⟨ns,rfl,hne,q⟩:=q;obtain⟨a,vs,rfl,ha,ta⟩:=cZ S rr;exact .inl (.inr ⟨a,ns,rfl,by rw[<-ta.ints];exact hK▸ha,hne,λm h1 h2=>k.here S (q m h1 h2) aT⟩)
   | [.lst ys],q =>
     obtain⟨v,rfl,rr⟩:=oG r;obtain⟨ns,rfl,hne,q⟩:=q;obtain⟨a,vs,rfl,ha,ta⟩:=bH S rr rfl;exact .inr ⟨a,ns,rfl,by rw[<-ta.ints];exact ha,hne,λm h1 h2=>k.here S (q m h1 h2) aT⟩
 | .min,hc=>by
   refine(aU.or (LG (hc rfl)) (MG (hc rfl))).imp λvs H Q h=>?_;obtain⟨xs,Z,G,Q',r,S,q,k⟩:=h
   match xs,q with
   | [.int i,.int j],q =>
     obtain⟨v,u,rfl,r1,r2⟩:=YH r;have e:min i j=if j<i then j else i:=by split<;>omega
     exact .inl ⟨i,j,by rw[show v= .int i from r1,show u= .int j from r2],k.here S q (by rw[e];exact aT)⟩
   | [.lst ys],q =>
     obtain⟨v,rfl,rr⟩:=oG r;obtain⟨ns,rfl,hne,q⟩:=q;obtain⟨a,vs,rfl,ha,ta⟩:=bH S rr rfl;exact .inr ⟨a,ns,rfl,by rw[<-ta.ints];exact ha,hne,λm h1 h2=>k.here S (q m h1 h2) aT⟩
 | .int,hc=>by
   refine MC.imp λvs H Q h=>?_;obtain⟨xs,Z,G,Q',r,S,q,k⟩:=h
   match xs,q with
   | [.int i],q =>
     obtain⟨v,rfl,rr⟩:=oG r;exact .inl ⟨i,by rw[show v= .int i from rr],k.here S q aT⟩
   | [.bl i],q =>
     obtain⟨v,rfl,rr⟩:=oG r;exact .inr ⟨i,by rw[show v= .bl i from rr],k.here S q aT⟩
 | .str,hc=>by
   refine(xR.or yJ).imp λvs H Q h=>?_;obtain⟨xs,Z,G,Q',r,S,q,k⟩:=h
   match xs,q with
   | [.int i],q =>
     obtain⟨v,rfl,rr⟩:=oG r;exact .inl ⟨i,by rw[show v= .int i from rr],q.1,k.here S q.2 oM⟩
   | [.non],q =>
     obtain⟨v,rfl,rr⟩:=oG r;exact .inr ⟨by rw[show v= .non from rr],k.here S q oM⟩
 | .isi,hc=>by
   intro j0 s Y H vs us Q I rv h;obtain⟨xs,Z,G,Q',r,S,q,k⟩:=h
   match xs,q with
   | [x,.ty T],q =>
     obtain⟨v,w',rfl,r1,r2⟩:=YH r;obtain⟨u,u',rfl,rv1,rv2⟩:=GJ rv;have e:w'= .ty T:=r2;subst e;have e2:u'= .type T:=rv2;subst e2;obtain⟨hT,⟨n,hn,q⟩|⟨c,hcn,hcs,q⟩⟩:=q
     . exact GS hK I S r1 rv1 hn (aBt X.K n (xS S r1 hn).1 T hT) (k.here S q cF)
     . exact zR hK I S r1 rv1 hcn (C.own c hcs) (hK▸C.other c hcs T hT) (k.here S q cF)
   | [x,.cl c],q =>
     obtain⟨v,w',rfl,r1,r2⟩:=YH r;obtain⟨u,u',rfl,rv1,rv2⟩:=GJ rv;have e:w'= .ref (E.cls c):=r2;subst e;have e2:u'= .ref (E.cls c):=rv2;subst e2;obtain⟨hcs,⟨n,hn,q⟩|⟨c',hcn,hcs',q⟩⟩:=q
     . exact GS hK I S r1 rv1 hn (hK▸C.plain c hcs n (xS S r1 hn).1) (k.here S q cF)
     . by_cases e:c'=c
       . subst e;rw[decide_eq_true rfl] at q;exact zR hK I S r1 rv1 hcn (C.own _ hcs') (by unfold W.kitOne;rw[ja (beq_self_eq_true _)]) (k.here S q cF)
       . rw[decide_eq_false e] at q;exact zR hK I S r1 rv1 hcn (C.own _ hcs') (hK▸C.apart c' hcs' c hcs e) (k.here S q cF)
 | .tuple,hc=>by
   refine wE.imp λvs H Q h=>?_;obtain⟨xs,Z,G,Q',r,S,q,k⟩:=h
   match xs,q with
   | [x],q =>
     obtain⟨v,rfl,rr⟩:=oG r;rcases q with ⟨ys,rfl,q⟩|⟨ys,e,q⟩
     . obtain⟨a,vs,e,ha,ta⟩:=cZ S rr;subst e;exact⟨a,vs,rfl,.inr ⟨hK▸ha,k.here S q rr⟩⟩
     . obtain⟨a,vs,rfl,ha,ta⟩:=bH S rr e;exact⟨a,vs,rfl,.inl ⟨SqL.of ha,λl n=>k.newZ S n (fI (S.zn n) ta) q⟩⟩
 | .list,hc=>by
   refine yC.imp λvs H Q h=>?_;obtain⟨xs,Z,G,Q',r,S,q,k⟩:=h
   match xs,q with
   | [x],q =>
     obtain⟨v,rfl,rr⟩:=oG r;rcases q with ⟨ys,rfl,q⟩|⟨ys,e,q⟩
     . obtain⟨a,vs,rfl,ha,ta⟩:=cZ S rr;exact⟨a,vs,rfl,.inr (hK▸ha),λl n=>k.newZ S n (eG (S.zn n) ta) q⟩
     . obtain⟨a,vs,rfl,ha,ta⟩:=bH S rr e;exact⟨a,vs,rfl,.inl (SqL.of ha),λl n=>k.newZ S n (eG (S.zn n) ta) q⟩
 | .divmod,hc=>noC λxs G Q q=>by unfold bU at q;exact q
 | .all,hc=>by
   refine(JY (hc rfl)).imp λvs H Q h=>?_;obtain⟨xs,Z,G,Q',r,S,q,k⟩:=h
   match xs,q with
   | [x],q =>
     obtain⟨v,rfl,rr⟩:=oG r;obtain⟨ys,b,e,eb,q⟩:=q;obtain⟨bs,e1,e2⟩:=IC eb;subst e1 e2;obtain⟨a,vs,rfl,ha,ta⟩:=bH S rr e;exact⟨a,bs,rfl,by rw[<-ta.bools];exact ha,k.here S q cF⟩
 | .any,hc=>by
   refine(ID (hc rfl)).imp λvs H Q h=>?_;obtain⟨xs,Z,G,Q',r,S,q,k⟩:=h
   match xs,q with
   | [x],q =>
     obtain⟨v,rfl,rr⟩:=oG r;obtain⟨ys,b,e,eb,q⟩:=q;obtain⟨bs,e1,e2⟩:=GV eb;subst e1 e2;obtain⟨a,vs,rfl,ha,ta⟩:=bH S rr e;exact⟨a,bs,rfl,by rw[<-ta.bools];exact ha,k.here S q cF⟩
 | .sum,hc=>by
   refine(aU.or (KS (hc rfl)) (KY (hc rfl))).imp λvs H Q h=>?_;obtain⟨xs,Z,G,Q',r,S,q,k⟩:=h
   match xs,q with
   | [x],q =>
     obtain⟨v,rfl,rr⟩:=oG r;rcases q with ⟨ys,b,e,eb,q⟩|⟨ns,rfl,q⟩
     . obtain⟨bs,e1,e2⟩:=IB eb;subst e1 e2;obtain⟨a,vs,rfl,ha,ta⟩:=bH S rr e;exact .inl ⟨a,bs,rfl,by rw[<-ta.ints];exact ha,k.here S q aT⟩
     . obtain⟨a,vs,rfl,ha,ta⟩:=cZ S rr;exact .inr ⟨a,ns,rfl,by rw[<-ta.ints];exact hK▸ha,k.here S q aT⟩
 | .bool,hc=>noC λxs G Q q=>by unfold bU at q;exact q
 | .repr,hc=>noC λxs G Q q=>by unfold bU at q;exact q
end
inductive Ar where
 | arg (i:Nat)|non|bl (b:Bool)|int (i:Int)|str (x:Str)
 deriving DecidableEq
noncomputable def Ar.val(xs:List PV):Ar->PV
 | .arg i=>xs.getD i .non
 | .non=>.non
 | .bl b=>.bl b
 | .int i=>.int i
 | .str x=>.str x
inductive CE where
 | var (i:Nat)|int (i:Int)|bl (b:Bool)|non|str (x:Str)|glo (x:Str)
 | bin (op:Operator) (a b:CE)|neg (a:CE)|no (a:CE)
 | cmp (op:CmpOp) (a b:CE)|chn (op op':CmpOp) (a b c:CE)
 | an (a b:CE)|oo (a b:CE)|ite (c a b:CE)|tst (a:CE)|tsb (a:CE)
 | tup (es:CE)|lst (m:Bool) (es:CE)|nil|cons (a b:CE)
 | idx (a i:CE)|sli (a lo hi:CE)|rev (a:CE)|att (a:CE) (f:Str)
 | cal (f:Str) (es:CE)|cak (f:Str) (es ks:CE) (ar:List Ar)|blt (b:Bn) (es:CE)|app (a e:CE)
 | cmpr (m:Bool) (tg it ts el:CE) (js:List (Option Nat))
 | isq (e:CE)|irg (es:CE)|ien (e:CE)|iel (e:CE)|izp (es:CE)
 | gn (i:Nat)|gt (n:Nat) (gs:CE)|gs (o i:CE)|cmn (m dc:Bool) (tg it ts bd:CE) (js:List (Option Nat))|gen (tg it ts bd:CE)|eml (e:CE)|mlm (m:Str) (ls:List (J6×Str)) (a es:CE) (i:Nat) (lc:CE)|cvl (i:Nat) (es:CE)
 | dct (es:CE)|ladd (a b:CE)|lrp (a b:CE)|gl (n:Nat) (gs:CE)|met (m:Str) (ls:List (J6×Str×List Ar)) (a es:CE)
inductive CS where
 | nil|seq (a b:CS)|ex (e:CE)|asg (g e:CE)|par (i j:Nat) (a b:CE)|par3 (i j l:Nat) (a b c:CE)|sub (o i e:CE)|dpu (o i e:CE)|dde (o i:CE)|fld (o:CE) (f:Str) (e:CE)|fda (o:CE) (f:Str) (e:CE)|aug (i:Nat) (e:CE)|ags (o i e:CE)
 | iff (c:CE) (a b:CS)|wh (c:CE) (b:CS)|fr (g it:CE) (b:CS)|ret (e:CE)|retN|nev
 | tri (b:CS) (i:Nat) (cs:List J6)|trh (b:CS) (j:Nat) (h:CS) (cs:List J6)
local macro_rules|`(%[$x|_])=>`(CE.cons $x CE.nil)|`(%[$x,$y,*|_])=>`(CE.cons $x %[$y,*|_])
structure Tb where
 S:Str->Sp3
 gv:Str->PV
 cs:List J6
 fl:List (J6×Str)
 fam:PX->Str->Sp3:=λ_ _ _ _ _=>False
 xp:PX:=λ_ _ _ _=>False
 xi:List (J6×Str×Bool):=[]
 fx:List (J6×Str):=[]
 SL:Str->Sp3->Sp3:=λ_ _ _ _ _=>False
 la:Addr:=0
 Sl:Sp3:=λ_ _ _=>False
noncomputable abbrev Tb.at(T:Tb)(x:PX):Tb:={T with S:=T.fam x,xp:=x}
def WZ(x:PV)(G:Gh)(Q:PK1):Prop:=match x with
 | .int i=>Q (.int (-i)) G
 | _=>False
def pIs(neg:Bool)(x y:PV)(G:Gh)(Q:PK1):Prop:=match y with
 | .non=>(x= .non/\Q (.bl (!neg)) G)∨(x≠.non/\Q (.bl neg) G)
 | .bl b=>∃c,x= .bl c/\Q (.bl (if neg then !(c==b) else c==b)) G
 | _=>False
noncomputable def flP:PV->Bool
 | .non=>true
 | .bl _=>true
 | .int _=>true
 | .str _=>true
 | _=>false
def pIn(neg:Bool)(x y:PV)(G:Gh)(Q:PK1):Prop:= ∃xs,(y= .tup xs∨bE G y=some xs)/\flP x=true/\xs.all flP=true/\Q (.bl (if neg=true then !(xs.any λz=>peq z x) else xs.any λz=>peq z x)) G
noncomputable def jK:CmpOp->P2
 | .Lt=>pI (λ_ _=>True) λi j=>.bl (decide (i<j))
 | .LtE=>pI (λ_ _=>True) λi j=>.bl (decide (i<=j))
 | .Gt=>pI (λ_ _=>True) λi j=>.bl (decide (j<i))
 | .GtE=>pI (λ_ _=>True) λi j=>.bl (decide (j<=i))
 | .Eq=>pEq false
 | .NotEq=>pEq true
 | .Is=>pIs false
 | .IsNot=>pIs true
 | .In=>pIn false
 | .NotIn=>pIn true
def KF(T:Tb)(x:PV)(f:Str)(G:Gh)(Q:PK1):Prop:= ∃c ns xs v,(x= .ob c ns xs∨∃a,x= .ref a/\G a=some (.ins c ns xs))/\(c,f)∈T.fl/\(ns.zip xs).lookup f=some v/\Q v G
abbrev PTG:=PV->PSt->Gh->(PSt->Gh->Prop)->Prop
abbrev PTI:=PSt->Gh->((Gh->Prop)->List PV->Gh->Prop)->Prop
noncomputable def gD(js:List (Option Nat))(Y:PSt):PSt:=js.map λo=>match o with|none=>none|some j=>(Y[j]?).getD none
noncomputable def cL(chk:Gh->Prop)(g:PTG)(ts:PTT)(te:PTE):List PV->List PV->PSt->Gh->(List PV->Gh->Prop)->Prop
 | [],acc,_,G,Q=>chk G/\Q acc G
 | x::r,acc,Y,G,Q=>chk G/\g x Y G λY2 G2=>ts Y2 G2 λok G3=>if ok=true then te Y2 G3 λy G4=>cL chk g ts te r (acc++[y]) Y2 G4 Q else cL chk g ts te r acc Y2 G3 Q
noncomputable def gE(chk:Gh->Prop)(g:PTG)(tb:PTS)(D:dL):List PV->PSt->Gh->Prop
 | [],Y,G=>chk G/\D.nx Y G
 | x::r,Y,G=>chk G/\g x Y G λY2 G2=>tb {D with nx:=gE chk g tb D r,ct:=gE chk g tb D r,bk:=D.nx} Y2 G2
def lO(m:Bool)(G:Gh)(xs:List PV)(Q:PK1):Prop:=if m=true then ∀p,G p=none->Q (.ref p) (gup G p (.lst xs)) else Q (.lst xs) G
noncomputable def iW(lo:Int)(n:Nat):List PV:=(List.range n).map λ(k:Nat)=>PV.int (lo+(k:Int))
noncomputable def nM(xs:List PV):List PV:=xs.zipIdx.map λp=>PV.tup [.int (p.2:Int),p.1]
noncomputable def SY:PV->Option (List PV)
 | .tup ys=>some ys
 | .lst ys=>some ys
 | _=>none
noncomputable def yS(n:Nat)(yss:List (List PV)):List PV:=(List.range n).map λi=>PV.tup (yss.map λys=>ys.getD i .non)
def pA(x:PV)(G:Gh)(R:(Gh->Prop)->List PV->Gh->Prop):Prop:=match x with
 | .tup xs=>R (λ_=>True) xs G
 | .lst xs=>R (λ_=>True) xs G
 | .scr ns=>R (λ_=>True) (ns.map .int) G
 | .ref a=>∃xs,G a=some (.lst xs)/\R (λG'=>G' a=some (.lst xs)) xs G
 | _=>False
mutual
noncomputable def pln:PV->Bool
 | .non=>true
 | .bl _=>true
 | .int _=>true
 | .str _=>true
 | .tup xs=>IG xs
 | .ob c _ xs=>c=="Shade"&&IG xs
 | _=>false
noncomputable def IG:List PV->Bool
 | []=>true
 | x::r=>pln x&&IG r
end
def QY(x y:PV)(G:Gh)(Q:PK1):Prop:= ∃xs ys,bE G x=some xs/\bE G y=some ys/\xs.length+ys.length<=sizeLine/\∀p,G p=none->Q (.ref p) (gup G p (.lst (xs++ys)))
def aAy(x y:PV)(G:Gh)(Q:PK1):Prop:= ∃xs k,bE G x=some xs/\y= .int k/\0<=k/\k<=100/\xs.length*k.toNat<=1000/\∀p,G p=none->Q (.ref p) (gup G p (.lst (List.replicate k.toNat xs).flatten))
noncomputable def rN:Nat->PSt->(PV->Prop)->Prop
 | 0,Y,k=>match Y with
   | some v::_=>k v
   | _=>False
 | n+1,Y,k=>match Y with
   | _::r=>rN n r k
   | []=>False
theorem bI{v:PV}{r:PSt}{k:PV->Prop}:rN 0 (some v::r) k=k v:=rfl
theorem bK{n:Nat}{x:Option PV}{r:PSt}{k:PV->Prop}:rN (n+1) (x::r) k=rN n r k:=rfl
theorem BD:∀{i:Nat} {Y:PSt},rN i Y k↔∃v,Y[i]? =some (some v)/\k v
 | 0,[]=>by simp[rN]
 | 0,none::r=>by simp[rN]
 | 0,some v::r=>by simp[rN]
 | n+1,[]=>by simp[rN]
 | n+1,x::r=>by simp only[rN,List.getElem?_cons_succ];exact BD
noncomputable def kP:Key->PV
 | .inl i=>.int i
 | .inr x=>.str x
def flK:List (Key×PV)->List PV
 | []=>[]
 | p::r=>kP p.1::p.2::flK r
noncomputable def aCw(ks:List Key)(k:Key):Bool:=ks.any λj=>decide (j=k)
def dPk(ks:List Key)(k:Key):List Key:=if aCw ks k=true then ks else ks++[k]
def dPx{α:Type}(ks:List Key)(xs:List α)(k:Key)(v:α):List α:=if aCw ks k=true then ks.zipWith (λj x=>if j=k then v else x) xs else xs++[v]
noncomputable def dDk(ks:List Key)(k:Key):List Key:=ks.filter λj=>decide (j≠k)
noncomputable def dDx{α:Type}:List Key->List α->Key->List α
 | j::ks,x::xs,k=>if j=k then dDx ks xs k else x::dDx ks xs k
 | _,_,_=>[]
def cmD(m:Bool)(p:Addr)(Q:PK1):dL:=⟨λ_ G=>if m=true then Q (.ref p) G else ∃ys,G p=some (.lst ys)/\Q (.lst ys) (xI G p),λ_ _=>False,λ_ _=>False,λ_ _=>False⟩
noncomputable def cm0(dc:Bool):GO:=if dc=true then .dct [] [] else .lst []
mutual
noncomputable def wpE(T:Tb):CE->PTE
 | .var i=>λY G Q=>rN i Y λv=>Q v G
 | .int i=>λ_ G Q=>Q (.int i) G
 | .bl b=>λ_ G Q=>Q (.bl b) G
 | .non=>λ_ G Q=>Q .non G
 | .str x=>λ_ G Q=>Q (.str x) G
 | .glo x=>λ_ G Q=>Q (T.gv x) G
 | .bin op a b=>λY G Q=>wpE T a Y G λx G1=>wpE T b Y G1 λy G2=>vI op x y G2 Q
 | .neg a=>λY G Q=>wpE T a Y G λx G1=>WZ x G1 Q
 | .no a=>λY G Q=>wpE T a Y G λx G1=>pG x G1 λb G2=>Q (.bl (!b)) G2
 | .cmp op a b=>λY G Q=>wpE T a Y G λx G1=>wpE T b Y G1 λy G2=>jK op x y G2 Q
 | .chn op op' a b c=>λY G Q=>wpE T a Y G λx G1=>wpE T b Y G1 λy G2=>jK op x y G2 λz G3=>∃k,z= .bl k/\if k=true then wpE T c Y G3 λw G4=>jK op' y w G4 Q else Q (.bl false) G3
 | .dct es=>λY G Q=>wpL T es Y G λxs G1=>∃kvs:List (Key×PV),xs=flK kvs/\(kvs.map (·.1)).Nodup/\kvs.length<=15/\Q (.dct (kvs.map (·.1)) (kvs.map (·.2))) G1
 | .ladd a b=>λY G Q=>wpE T a Y G λx G1=>wpE T b Y G1 λy G2=>QY x y G2 Q
 | .lrp a b=>λY G Q=>wpE T a Y G λx G1=>wpE T b Y G1 λy G2=>aAy x y G2 Q
 | .an a b=>λY G Q=>wpE T a Y G λx G1=>pG x G1 λc G2=>if c=true then wpE T b Y G2 Q else Q x G2
 | .oo a b=>λY G Q=>wpE T a Y G λx G1=>pG x G1 λc G2=>if c=true then Q x G2 else wpE T b Y G2 Q
 | .ite c a b=>λY G Q=>wpT T c Y G λk G1=>if k=true then wpE T a Y G1 Q else wpE T b Y G1 Q
 | .tup es=>λY G Q=>wpL T es Y G λxs G1=>xs.length<=sizeLine/\Q (.tup xs) G1
 | .lst m es=>λY G Q=>wpL T es Y G λxs G1=>xs.length<=sizeLine/\lO m G1 xs Q
 | .idx a i=>λY G Q=>wpE T a Y G λx G1=>wpE T i Y G1 λy G2=>gR x y G2 Q
 | .sli a lo hi=>λY G Q=>wpE T a Y G λx G1=>wpO T lo Y G1 λl G2=>wpO T hi Y G2 λh G3=>eY x l h G3 Q
 | .rev a=>λY G Q=>wpE T a Y G λx G1=>(∃xs,bE G1 x=some xs/\Q (.lst xs.reverse) G1)∨∃xs,x= .tup xs/\Q (.tup xs.reverse) G1
 | .att a f=>λY G Q=>wpE T a Y G λx G1=>KF T x f G1 Q
 | .cal f es=>λY G Q=>wpL T es Y G λxs G1=>T.S f xs G1 Q
 | .cak f es ks ar=>λY G Q=>wpL T es Y G λxs G1=>wpL T ks Y G1 λzs G2=>T.S f (ar.map (Ar.val (xs++zs))) G2 Q
 | .blt b es=>λY G Q=>wpL T es Y G λxs G1=>bU T.cs b xs G1 Q
 | .app a e=>λY G Q=>wpE T a Y G λx G1=>(∃ys,bE G1 x=some ys)/\wpE T e Y G1 λy G2=>∃p xs,x= .ref p/\G2 p=some (.lst xs)/\xs.length<sizeLine/\Q .non (gup G2 p (.lst (xs++[y])))
 | .cmpr m tg it ts el js=>λY G Q=>wpI T it Y G λchk xs G1=>xs.length<=sizeLine/\cL chk (wpG T tg) (wpT T ts) (wpE T el) xs [] (gD js Y) G1 λys G2=>lO m G2 ys Q
 | .met m ls a es=>λY G Q=>wpE T a Y G λx G1=>∃c ky ar ns xs,(c,ky,ar)∈ls/\(x= .ob c ns xs∨∃p,x= .ref p/\G1 p=some (.ins c ns xs))/\m∉ns/\wpL T es Y G1 λys G2=>T.S ky (x::ar.map (Ar.val ys)) G2 Q
 | .cmn m dc tg it ts bd js=>λY G Q=>wpI T it Y G λchk xs G1=>∀p,G1 p=none->gE chk (wpG T tg) (λD Y G=>wpT T ts Y G λk G2=>if k=true then wpC T bd p D Y G2 else D.nx Y G2) (cmD m p Q) xs (gD js Y) (gup G1 p (cm0 dc))
 | .gen _ _ _ _=>λ_ _ _=>False
 | .eml _=>λ_ _ _=>False
 | .mlm m ls a es i lc=>λY G Q=>wpE T a Y G λx G1=>∃c ky ns xs own,(c,ky)∈ls/\(x= .ob c ns xs∨∃p,x= .ref p/\G1 p=some (.ins c ns xs))/\m∉ns/\Y[i]? =some (some own)/\wpL T es Y G1 λys G2=>T.SL ky (λzs G3 Q3=>∃z,zs=[z]/\wpE T lc [some own,some z] G3 Q3) (x::ys) G2 Q
 | .cvl i es=>λY G Q=>Y[i]? =some (some (.ref T.la))/\wpL T es Y G λxs G1=>xs.length=1/\T.Sl xs G1 Q
 | .tst _=>λ_ _ _=>False
 | .tsb _=>λ_ _ _=>False
 | .nil=>λ_ _ _=>False
 | .cons _ _=>λ_ _ _=>False
 | .isq _=>λ_ _ _=>False
 | .irg _=>λ_ _ _=>False
 | .ien _=>λ_ _ _=>False
 | .iel _=>λ_ _ _=>False
 | .izp _=>λ_ _ _=>False
 | .gn _=>λ_ _ _=>False
 | .gt _ _=>λ_ _ _=>False
 | .gl _ _=>λ_ _ _=>False
 | .gs _ _=>λ_ _ _=>False
noncomputable def wpC(T:Tb):CE->Addr->PTS
 | .gen tg it ts bd=>λp D Y G=>wpI T it Y G λchk xs G1=>gE chk (wpG T tg) (λD Y G=>wpT T ts Y G λk G2=>if k=true then wpC T bd p D Y G2 else D.nx Y G2) D xs Y G1
 | .eml e=>λp D Y G=>wpE T e Y G λy G1=>∃ys,G1 p=some (.lst ys)/\ys.length<sizeLine/\D.nx Y (gup G1 p (.lst (ys++[y])))
 | _=>λ_ _ _ _=>False
noncomputable def wpL(T:Tb):CE->PTA
 | .nil=>λ_ G Q=>Q [] G
 | .cons a b=>λY G Q=>wpE T a Y G λx G1=>wpL T b Y G1 λxs G2=>Q (x::xs) G2
 | _=>λ_ _ _=>False
noncomputable def wpT(T:Tb):CE->PTT
 | .an a b=>λY G Q=>wpT T a Y G λc G1=>if c=true then wpT T b Y G1 Q else Q false G1
 | .oo a b=>λY G Q=>wpT T a Y G λc G1=>if c=true then Q true G1 else wpT T b Y G1 Q
 | .no a=>λY G Q=>wpT T a Y G λc G1=>Q (!c) G1
 | .tst a=>λY G Q=>wpE T a Y G λx G1=>pG x G1 Q
 | .tsb a=>λY G Q=>wpE T a Y G λx G1=>∃k,x= .bl k/\Q k G1
 | .nil=>λ_ G Q=>Q true G
 | _=>λ_ _ _=>False
noncomputable def wpO(T:Tb):CE->PSt->Gh->(Option Int->Gh->Prop)->Prop
 | .nil=>λ_ G Q=>Q none G
 | .tst e=>λY G Q=>wpE T e Y G λx G1=>∃i,x= .int i/\Q (some i) G1
 | _=>λ_ _ _=>False
noncomputable def wpI(T:Tb):CE->PTI
 | .isq e=>λY G R=>wpE T e Y G λx G1=>pA x G1 R
 | .irg es=>λY G R=>wpL T es Y G λxs G1=>(∃j,xs=[.int j]/\-(2^62)<=j/\j<2^62/\R (λ_=>True) (iW 0 j.toNat) G1)∨(∃i j,xs=[.int i,.int j]/\(-(2^62)<=i/\i<2^62/\-(2^62)<=j/\j<2^62)/\R (λ_=>True) (iW i (j-i).toNat) G1)
 | .ien e=>λY G R=>wpE T e Y G λx G1=>∃xs,x= .tup xs/\R (λ_=>True) (nM xs) G1
 | .iel e=>λY G R=>wpE T e Y G λx G1=>∃xs,x= .lst xs/\R (λ_=>True) (nM xs) G1
 | .izp es=>λY G R=>wpL T es Y G λxs G1=>(xs.length=2∨xs.length=3)/\∃n yss,xs.map SY=yss.map some/\((∀ys∈yss,ys.length=n)∨∃a b,yss=[a,b]/\b.length=n/\n<a.length)/\R (λ_=>True) (yS n yss) G1
 | _=>λ_ _ _=>False
noncomputable def wpG(T:Tb):CE->PTG
 | .gn i=>λx Y G Q=>Q (Y.set i (some x)) G
 | .gt n gs=>λx Y G Q=>(∃xs,x= .tup xs/\xs.length=n/\cQ T gs xs Y G Q)
 | .gl n gs=>λx Y G Q=>(∃xs,bE G x=some xs/\xs.length=n/\cQ T gs xs Y G Q)
 | .gs a i=>λx Y G Q=>wpE T a Y G λo G1=>wpE T i Y G1 λy G2=>DE o y x G2 λG3=>Q Y G3
 | _=>λ_ _ _ _=>False
noncomputable def cQ(T:Tb):CE->List PV->PSt->Gh->(PSt->Gh->Prop)->Prop
 | .nil=>λxs Y G Q=>xs=[]/\Q Y G
 | .cons a b=>λxs Y G Q=>∃x r,xs=x::r/\wpG T a x Y G λY1 G1=>cQ T b r Y1 G1 Q
 | _=>λ_ _ _ _=>False
end
theorem NV:wpE T (.cmn m dc tg it ts bd js) Y G Q=(wpI T it Y G λchk xs G1=>∀p,G1 p=none->gE chk (wpG T tg) (λD Y G=>wpT T ts Y G λk G2=>if k=true then wpC T bd p D Y G2 else D.nx Y G2) (cmD m p Q) xs (gD js Y) (gup G1 p (cm0 dc))):=rfl
theorem aFz:wpE T (.mlm m ls a es i lc) Y G Q=(wpE T a Y G λx G1=>∃c ky ns xs own,(c,ky)∈ls/\(x= .ob c ns xs∨∃p,x= .ref p/\G1 p=some (.ins c ns xs))/\m∉ns/\Y[i]? =some (some own)/\wpL T es Y G1 λys G2=>T.SL ky (λzs G3 Q3=>∃z,zs=[z]/\wpE T lc [some own,some z] G3 Q3) (x::ys) G2 Q):=rfl
theorem aF5:wpE T (.cvl i es) Y G Q=(Y[i]? =some (some (.ref T.la))/\wpL T es Y G λxs G1=>xs.length=1/\T.Sl xs G1 Q):=rfl
theorem bJ:wpE T (.var i) Y G Q=(rN i Y λv=>Q v G):=rfl
theorem bQ:wpE T (.int i) Y G Q=(Q (.int i) G):=rfl
theorem wR:wpE T (.bl b) Y G Q=(Q (.bl b) G):=rfl
theorem jS:wpE T (.non) Y G Q=(Q .non G):=rfl
theorem aF4:wpE T (.str x) Y G Q=(Q (.str x) G):=rfl
theorem iP:wpE T (.glo x) Y G Q=(Q (T.gv x) G):=rfl
theorem cR:wpE T (.bin op a b) Y G Q=(wpE T a Y G λx G1=>wpE T b Y G1 λy G2=>vI op x y G2 Q):=rfl
theorem tO:wpE T (.neg a) Y G Q=(wpE T a Y G λx G1=>WZ x G1 Q):=rfl
theorem ZX:wpE T (.no a) Y G Q=(wpE T a Y G λx G1=>pG x G1 λb G2=>Q (.bl (!b)) G2):=rfl
theorem cE:wpE T (.cmp op a b) Y G Q=(wpE T a Y G λx G1=>wpE T b Y G1 λy G2=>jK op x y G2 Q):=rfl
theorem sQ:wpE T (.chn op op' a b c) Y G Q=(wpE T a Y G λx G1=>wpE T b Y G1 λy G2=>jK op x y G2 λz G3=>∃k,z= .bl k/\if k=true then wpE T c Y G3 λw G4=>jK op' y w G4 Q else Q (.bl false) G3):=rfl
theorem aFy:wpE T (.dct es) Y G Q=(wpL T es Y G λxs G1=>∃kvs:List (Key×PV),xs=flK kvs/\(kvs.map (·.1)).Nodup/\kvs.length<=15/\Q (.dct (kvs.map (·.1)) (kvs.map (·.2))) G1):=rfl
theorem aFo:wpE T (.ladd a b) Y G Q=(wpE T a Y G λx G1=>wpE T b Y G1 λy G2=>QY x y G2 Q):=rfl
theorem aBT:wpE T (.lrp a b) Y G Q=(wpE T a Y G λx G1=>wpE T b Y G1 λy G2=>aAy x y G2 Q):=rfl
theorem wY:wpE T (.an a b) Y G Q=(wpE T a Y G λx G1=>pG x G1 λc G2=>if c=true then wpE T b Y G2 Q else Q x G2):=rfl
theorem aDD:wpE T (.oo a b) Y G Q=(wpE T a Y G λx G1=>pG x G1 λc G2=>if c=true then Q x G2 else wpE T b Y G2 Q):=rfl
theorem aBJ:wpE T (.ite c a b) Y G Q=(wpT T c Y G λk G1=>if k=true then wpE T a Y G1 Q else wpE T b Y G1 Q):=rfl
theorem gA:wpE T (.tup es) Y G Q=(wpL T es Y G λxs G1=>xs.length<=sizeLine/\Q (.tup xs) G1):=rfl
theorem dO:wpE T (.lst m es) Y G Q=(wpL T es Y G λxs G1=>xs.length<=sizeLine/\lO m G1 xs Q):=rfl
theorem cD:wpE T (.idx a i) Y G Q=(wpE T a Y G λx G1=>wpE T i Y G1 λy G2=>gR x y G2 Q):=rfl
theorem tX{a lo hi:CE}{Q:PK1}:wpE T (.sli a lo hi) Y G Q=(wpE T a Y G λx G1=>wpO T lo Y G1 λl G2=>wpO T hi Y G2 λh G3=>eY x l h G3 Q):=rfl
theorem aCm:wpE T (.rev a) Y G Q=(wpE T a Y G λx G1=>(∃xs,bE G1 x=some xs/\Q (.lst xs.reverse) G1)∨∃xs,x= .tup xs/\Q (.tup xs.reverse) G1):=rfl
theorem OC:wpE T (.att a f) Y G Q=(wpE T a Y G λx G1=>KF T x f G1 Q):=rfl
theorem bP:wpE T (.cal f es) Y G Q=(wpL T es Y G λxs G1=>T.S f xs G1 Q):=rfl
theorem sX:wpE T (.cak f es ks ar) Y G Q=(wpL T es Y G λxs G1=>wpL T ks Y G1 λzs G2=>T.S f (ar.map (Ar.val (xs++zs))) G2 Q):=rfl
theorem bS:wpE T (.blt b es) Y G Q=(wpL T es Y G λxs G1=>bU T.cs b xs G1 Q):=rfl
theorem aF2:wpE T (.app a e) Y G Q=(wpE T a Y G λx G1=>(∃ys,bE G1 x=some ys)/\wpE T e Y G1 λy G2=>∃p xs,x= .ref p/\G2 p=some (.lst xs)/\xs.length<sizeLine/\Q .non (gup G2 p (.lst (xs++[y])))):=rfl
theorem bO:wpE T (.cmpr m tg it ts el js) Y G Q=(wpI T it Y G λchk xs G1=>xs.length<=sizeLine/\cL chk (wpG T tg) (wpT T ts) (wpE T el) xs [] (gD js Y) G1 λys G2=>lO m G2 ys Q):=rfl
theorem aF8:wpE T (.met m ls a es) Y G Q=(wpE T a Y G λx G1=>∃c ky ar ns xs,(c,ky,ar)∈ls/\(x= .ob c ns xs∨∃p,x= .ref p/\G1 p=some (.ins c ns xs))/\m∉ns/\wpL T es Y G1 λys G2=>T.S ky (x::ar.map (Ar.val ys)) G2 Q):=rfl
noncomputable def GA(f:Str):List Str->List Str
 | []=>[f]
 | n::r=>if n=f then n::r else n::GA f r
noncomputable def sG{α:Type}(f:Str)(v:α):List Str->List α->List α
 | [],_=>[v]
 | n::r,x::xs=>if n=f then v::xs else x::sG f v r xs
 | _::_,[]=>[]
def wpS:Tb->CS->PTS
 | T,.nil=>λD Y G=>D.nx Y G
 | T,.seq a b=>λD Y G=>wpS T a {D with nx:=wpS T b D} Y G
 | T,.ex e=>λD Y G=>wpE T e Y G λ_ G1=>D.nx Y G1
 | T,.asg g e=>λD Y G=>wpE T e Y G λx G1=>wpG T g x Y G1 D.nx
 | T,.par i j a b=>λD Y G=>wpE T a Y G λx G1=>wpE T b Y G1 λy G2=>D.nx ((Y.set i (some x)).set j (some y)) G2
 | T,.par3 i j l a b c=>λD Y G=>wpE T a Y G λx G1=>wpE T b Y G1 λy G2=>wpE T c Y G2 λz G3=>D.nx (((Y.set i (some x)).set j (some y)).set l (some z)) G3
 | T,.dpu o i e=>λD Y G=>wpE T e Y G λv G1=>wpE T o Y G1 λx G2=>wpE T i Y G2 λy G3=>∃p k ks xs,x= .ref p/\y=kP k/\G3 p=some (.dct ks xs)/\ks.length<sizeLine/\D.nx Y (gup G3 p (.dct (dPk ks k) (dPx ks xs k v)))
 | T,.dde o i=>λD Y G=>wpE T o Y G λx G1=>wpE T i Y G1 λy G2=>∃p k ks xs,x= .ref p/\y=kP k/\G2 p=some (.dct ks xs)/\aCw ks k=true/\D.nx Y (gup G2 p (.dct (dDk ks k) (dDx ks xs k)))
 | T,.sub o i e=>λD Y G=>wpE T e Y G λv G1=>wpE T o Y G1 λx G2=>wpE T i Y G2 λy G3=>DE x y v G3 λG4=>D.nx Y G4
 | T,.fld o f e=>λD Y G=>wpE T e Y G λv G1=>wpE T o Y G1 λx G2=>∃p c ns xs,x= .ref p/\G2 p=some (.ins c ns xs)/\(c,f)∈T.fl/\ns.length<1000/\D.nx Y (gup G2 p (.ins c (GA f ns) (sG f v ns xs)))
 | T,.fda o f e=>λD Y G=>wpE T o Y G λx G1=>∃p c ns xs i,x= .ref p/\G1 p=some (.ins c ns xs)/\(c,f)∈T.fl/\(ns.zip xs).lookup f=some (.int i)/\wpE T e Y G1 λy G2=>∃j ns' xs',y= .int j/\G2 p=some (.ins c ns' xs')/\ns'.length<1000/\D.nx Y (gup G2 p (.ins c (GA f ns') (sG f (.int (i+j)) ns' xs')))
 | T,.aug i e=>λD Y G=>∃a,Y[i]? =some (some (.int a))/\wpE T e Y G λy G1=>∃b,y= .int b/\D.nx (Y.set i (some (.int (a+b)))) G1
 | T,.ags o i e=>λD Y G=>wpE T o Y G λx G1=>wpE T i Y G1 λy G2=>∃p xs k a,x= .ref p/\y= .int k/\G2 p=some (.lst xs)/\atI xs k=some (.int a)/\wpE T e Y G2 λz G3=>∃b,z= .int b/\DE x y (.int (a+b)) G3 λG4=>D.nx Y G4
 | T,.iff c a b=>λD Y G=>wpT T c Y G λk G1=>if k=true then wpS T a D Y G1 else wpS T b D Y G1
 | T,.wh c b=>λD Y G=>∃W:Nat->PSt->Gh->Prop,(∃m,W m Y G)/\∀m Y G,W m Y G->wpT T c Y G λk G1=>if k=true then wpS T b {D with nx:=λY' G'=>∃m',m'<m/\W m' Y' G',ct:=λY' G'=>∃m',m'<m/\W m' Y' G',bk:=D.nx} Y G1 else D.nx Y G1
 | T,.fr g it b=>λD Y G=>wpI T it Y G λchk xs G1=>gE chk (wpG T g) (wpS T b) D xs Y G1
 | T,.ret e=>λD Y G=>wpE T e Y G D.rt
 | T,.retN=>λD _ G=>D.rt .non G
 | T,.nev=>λ_ _ _=>False
 | T,.tri b i cs=>λD Y G=>wpS (T.at (WkX λc ns xs G1=>c∈cs/\D.nx ((List.replicate Y.length none).set i (some (.exc c ns xs))) G1)) b D Y G
 | T,.trh b j h cs=>λD Y G=>wpS (T.at (WkX λc ns xs G1=>c∈cs/\wpS T h ⟨λY2 G2=>D.nx (Y2.set j none) G2,D.rt,λY2 G2=>D.bk (Y2.set j none) G2,λY2 G2=>D.ct (Y2.set j none) G2⟩ ((List.replicate Y.length none).set j (some (.exc c ns xs))) G1)) b D Y G
def JE(X:Cx)(E:Ev)(e:Expr)(t:PTE):Prop:= ∀F,PE X e (low E F t)
def JT(X:Cx)(E:Ev)(e:Expr)(t:PTT):Prop:= ∀F,PT X e (rG E F t)
def JW(X:Cx)(E:Ev)(e:Expr)(t:PTT):Prop:= ∀F,PW X e (rG E F t)
def JA(X:Cx)(E:Ev)(es:List Expr)(t:PTA):Prop:= ∀F,PA X es (yZ E F es.length t)
def JS(X:Cx)(E:Ev)(s:Stmt)(t:PTS):Prop:= ∀F,PS X s (aCy E F t)
def JSs(X:Cx)(E:Ev)(s:List Stmt)(t:PTS):Prop:= ∀F,PSs X s (aCy E F t)
def RF(E:Ev)(F:Hp)(t:PTG):TG:=λv Y H Q=>∃x Y' Z G Q',RP E Z x v/\RSt E Z Y' Y/\Sim E F H Z G/\t x Y' G Q'/\KSt E F Z Q' Q
def JG(X:Cx)(E:Ev)(e:Expr)(t:PTG):Prop:= ∀F,PG X e (RF E F t)
def aDC(E:Ev)(F:Hp)(t:List PV->PSt->Gh->(PSt->Gh->Prop)->Prop):TGs:=λvs Y H Q=>∃xs Y' Z G Q',RPs E Z xs vs/\RSt E Z Y' Y/\Sim E F H Z G/\t xs Y' G Q'/\KSt E F Z Q' Q
def JGs(X:Cx)(E:Ev)(es:List Expr)(t:List PV->PSt->Gh->(PSt->Gh->Prop)->Prop):Prop:= ∀F,PGs X es (aDC E F t)
def PT.imp{X:Cx}{e:Expr}{t t':TT}(h:PT X e t)(g:∀Y H Q,t' Y H Q->t Y H Q):PT X e t':=λj0 s Y H Q I q=>h j0 s Y H Q I (g _ _ _ q)
def PW.imp{X:Cx}{e:Expr}{t t':TT}(h:PW X e t)(g:∀Y H Q,t' Y H Q->t Y H Q):PW X e t':=λwh j0 s Y H Q I q=>h wh j0 s Y H Q I (g _ _ _ q)
def PA.imp{X:Cx}{es:List Expr}{t t':TA}(h:PA X es t)(g:∀Y H Q,t' Y H Q->t Y H Q):PA X es t':=λpos j0 s Y H Q I q=>h pos j0 s Y H Q I (g _ _ _ q)
def PSs.imp{X:Cx}{st:List Stmt}{t t':TS}(h:PSs X st t)(g:∀D Y H,t' D Y H->t D Y H):PSs X st t':=λj0 s Y H D I q=>h j0 s Y H D I (g _ _ _ q)
def PGs.imp{X:Cx}{es:List Expr}{t t':TGs}(h:PGs X es t)(g:∀vs Y H Q,t' vs Y H Q->t vs Y H Q):PGs X es t':=λj0 s Y H v u Q I r q=>h j0 s Y H v u Q I r (g _ _ _ _ q)
section
variable{X:Cx}{E:Ev}{T:Tb}{k:Nat}{pos:Pos}{a b c:Expr}{ta tb tc:PTE}
structure Pl(X:Cx)(E:Ev)(T:Tb)(k:Nat):Prop where
 hK:E.K=X.K
 calm:40<=k->X.calm=true
 room:cJ k X.A
 cls:OL E T.cs
 fld:∀c f,(c,f)∈T.fl->Cls X.K (E.cls c)/\cY X.K (E.cls c) f
def Kq.go(k:Kq E F Z Q' Q)(s:aP Z Z1)(S:Sim E F H1 Z1 G1)(r:RP E Z1 x v)(q:Q' x G1):Q v H1:=k x v Z1 G1 H1 s S r q
def aCZ(hN:X.N[i]? =some x)(hv:Vis X.env.scope x)(hd:(x==("__debug__":Str))=false)(hcd:(x==("__classdict__":Str))=false):JE X E (.Name x pos) (wpE T (.var i)):=λF =>
 (MW hN hv hd hcd).imp<|by
   rintro Y H Q ⟨Y',Z,G,Q',rs,S,h,kq⟩;have h:=BD.mp h;obtain⟨x,e,q⟩:=h;obtain⟨v,e',r⟩:=rs.get e;exact⟨v,e',kq.here S q r⟩
def aCb:JE X E (.Constant (.int i) j pos) (wpE T (.int i)):=λF=>SO.imp<|by rintro Y H Q ⟨Y',Z,G,Q',rs,S,h,kq⟩;exact kq.here S h aT
def aDr:JE X E (.Constant (.bool i) j pos) (wpE T (.bl i)):=λF=>aE6.imp<|by rintro Y H Q ⟨Y',Z,G,Q',rs,S,h,kq⟩;exact kq.here S h cF
def aAM:JE X E (.Constant .none j pos) (wpE T .non):=λF=>aAL.imp<|by rintro Y H Q ⟨Y',Z,G,Q',rs,S,h,kq⟩;exact kq.here S h oK
def aBy:JE X E (.Constant (.str i) j pos) (wpE T (.str i)):=λF=>aCG.imp<|by rintro Y H Q ⟨Y',Z,G,Q',rs,S,h,kq⟩;exact kq.here S h oM
def aCS(hg:Gl X x)(hm:X.mg x=some u)(r:aM v u)(hr:RP E (λ_=>none) (T.gv x) v)(hd:(x==("__debug__":Str))=false):JE X E (.Name x pos) (wpE T (.glo x)):=λF =>
 (UO hg hm r hd).imp<|by rintro Y H Q ⟨Y',Z,G,Q',rs,S,h,kq⟩;exact kq.here S h (hr.mono λ_ _ z=>by cases z)
def aDN(hg:Gl X x)(hm:X.mg x=none)(hv:bootBuiltins x=some (.type n))(hgv:T.gv x= .ty n)(hn:x≠"__name__")(hd:(x==("__debug__":Str))=false):JE X E (.Name x pos) (wpE T (.glo x)):=λF =>
 (XS (v:=.ty n) hg hm hv rfl hn hd).imp<|by rintro Y H Q ⟨Y',Z,G,Q',rs,S,h,kq⟩;rw[iP,hgv] at h;exact kq.here S h rfl
def JN(h:low E F (λY G Q=>ta Y G λx G1=>tb Y G1 λy G2=>p x y G2 Q) Y H Q):tOp (fV E F p) (low E F ta) (low E F tb) Y H Q:=by
 obtain⟨Y',Z,G,Q',rs,S,h,kq⟩:=h;refine⟨Y',Z,G,_,rs,S,h,λx v Z1 G1 H1 s1 S1 r1 q1=>⟨Y',Z1,G1,_,rs.mono s1,S1,q1,λy u Z2 G2 H2 s2 S2 r2 q2=>?_⟩⟩;exact⟨x,y,Z2,G2,Q',r1.mono s2,r2,S2,q2,kq.mono (s1.trans s2)⟩
def aAG(P:Pl X E T k)(ha:JE X E a (wpE T a'))(hb:JE X E b (wpE T b')):JE X E (.BinOp a op b pos) (wpE T (.bin op a' b')):=λF =>
 (OZ (US P.hK op) (ha F) (hb F)).imp λY H Q h=>JN (by exact h)
def aAK(ha:JE X E a (wpE T a')):JE X E (.UnaryOp .USub a pos) (wpE T (.neg a')):=λF =>
 (ZG OQ (ha F)).imp<|by
   rintro Y H Q ⟨Y',Z,G,Q',rs,S,h,kq⟩;refine⟨Y',Z,G,_,rs,S,h,λx v Z1 G1 H1 s1 S1 r1 q1=>?_⟩;unfold WZ at q1;split at q1
   . exact⟨_,r1,kq.go s1 S1 aT q1⟩
   . exact q1.elim
def WB(he:PE X a te):PE X (.UnaryOp .Not a pos) (λY H Q=>te Y H λx H1=>∃b,JU X.K x H1 b/\Q (.bl (!b)) H1):=by
 intro j0 s Y H Q I h;refine UnaryOp_ (thn (he j0 s Y H _ I h) λv s1 zz=>?_);obtain⟨x,H1,I1,r1,b,tv,q⟩:=zz;exact not_of (thn (zM j0 s1 Y H1 x v (λc H2=>Q (.bl (!c)) H2) I1 r1 ⟨b,tv,q⟩)<|by rintro c s2 ⟨H2,I2,q2⟩;exact⟨.bl (!c),H2,I2,rfl,q2⟩)
def aE2(P:Pl X E T k)(ha:JE X E a (wpE T a')):JE X E (.UnaryOp .Not a pos) (wpE T (.no a')):=λF =>
 (WB (ha F)).imp<|by
   rintro Y H Q ⟨Y',Z,G,Q',rs,S,h,kq⟩;refine⟨Y',Z,G,_,rs,S,h,λx v Z1 G1 H1 s1 S1 r1 q1=>?_⟩;obtain⟨c,tv,q⟩:=sD P.hK S1 r1 q1;exact⟨c,tv,kq.go s1 S1 cF q⟩
def VI{j4:List Expr}(ha:PE X a te)(hb:PE X (.BoolOp .And (b::j4) pos) tf):PE X (.BoolOp .And (a::b::j4) pos) (λY H Q=>te Y H λx H1=>∃c,JU X.K x H1 c/\if c=true then tf Y H1 Q else Q x H1):=by
 intro j0 s Y H Q I h;refine BoolOp_and (thn (ha j0 s Y H _ I h) λv s1 zz=>?_);obtain⟨x,H1,I1,r1,c,tv,q1⟩:=zz;refine thn (zM j0 s1 Y H1 x v (λd H2=>d=c/\H2=H1) I1 r1 ⟨c,tv,rfl,rfl⟩) λd s2 zz=>?_;obtain⟨H2,I2,e1,e2⟩:=zz;subst e1 e2;cases d with
 | true=>exact hb j0 s2 Y H2 Q I2 q1
 | false=>exact⟨x,H2,I2,r1,q1⟩
def aCD{j4:List Expr}(ha:PE X a te)(hb:PE X (.BoolOp .Or (b::j4) pos) tf):PE X (.BoolOp .Or (a::b::j4) pos) (λY H Q=>te Y H λx H1=>∃c,JU X.K x H1 c/\if c=true then Q x H1 else tf Y H1 Q):=by
 intro j0 s Y H Q I h;refine BoolOp_or (thn (ha j0 s Y H _ I h) λv s1 zz=>?_);obtain⟨x,H1,I1,r1,c,tv,q1⟩:=zz;refine thn (zM j0 s1 Y H1 x v (λd H2=>d=c/\H2=H1) I1 r1 ⟨c,tv,rfl,rfl⟩) λd s2 zz=>?_;obtain⟨H2,I2,e1,e2⟩:=zz;subst e1 e2;cases d with
 | false=>exact hb j0 s2 Y H2 Q I2 q1
 | true=>exact⟨x,H2,I2,r1,q1⟩
def aDl{j4:List Expr}(P:Pl X E T k)(ha:JE X E a (wpE T a'))(hb:JE X E (.BoolOp .And (b::j4) pos) (wpE T b')):JE X E (.BoolOp .And (a::b::j4) pos) (wpE T (.an a' b')):=λF =>
 (VI (ha F) (hb F)).imp<|by
   rintro Y H Q ⟨Y',Z,G,Q',rs,S,h,kq⟩;refine⟨Y',Z,G,_,rs,S,h,λx v Z1 G1 H1 s1 S1 r1 q1=>?_⟩;obtain⟨c,tv,q⟩:=sD P.hK S1 r1 q1;refine⟨c,tv,?_⟩;cases c with
   | true=>rw[ja rfl] at q ⊢;exact⟨Y',Z1,G1,Q',rs.mono s1,S1,q,kq.mono s1⟩
   | false=>rw[j9 Bool.false_ne_true] at q ⊢;exact kq.go s1 S1 r1 q
def aEj{j4:List Expr}(P:Pl X E T k)(ha:JE X E a (wpE T a'))(hb:JE X E (.BoolOp .Or (b::j4) pos) (wpE T b')):JE X E (.BoolOp .Or (a::b::j4) pos) (wpE T (.oo a' b')):=λF =>
 (aCD (ha F) (hb F)).imp<|by
   rintro Y H Q ⟨Y',Z,G,Q',rs,S,h,kq⟩;refine⟨Y',Z,G,_,rs,S,h,λx v Z1 G1 H1 s1 S1 r1 q1=>?_⟩;obtain⟨c,tv,q⟩:=sD P.hK S1 r1 q1;refine⟨c,tv,?_⟩;cases c with
   | false=>rw[j9 Bool.false_ne_true] at q ⊢;exact⟨Y',Z1,G1,Q',rs.mono s1,S1,q,kq.mono s1⟩
   | true=>rw[ja rfl] at q ⊢;exact kq.go s1 S1 r1 q
def aCk(ha:JE X E a t):JE X E (.BoolOp op [a] pos) t:=λF=>aCP (ha F)
def aBo(hc:JT X E c (wpT T c'))(ha:JE X E a (wpE T a'))(hb:JE X E b (wpE T b')):JE X E (.IfExp c a b pos) (wpE T (.ite c' a' b')):=λF =>
 (TZ (hc F) (ha F) (hb F)).imp<|by
   rintro Y H Q ⟨Y',Z,G,Q',rs,S,h,kq⟩;refine⟨Y',Z,G,_,rs,S,h,λd Z1 G1 H1 s1 S1 q=>?_⟩;cases d with
   | true=>rw[ja rfl] at q ⊢;exact⟨Y',Z1,G1,Q',rs.mono s1,S1,q,kq.mono s1⟩
   | false=>rw[j9 Bool.false_ne_true] at q ⊢;exact⟨Y',Z1,G1,Q',rs.mono s1,S1,q,kq.mono s1⟩
def iD(r:RP E Z x v):(v= .non)↔x= .non:=by
 cases x with
 | non=>exact⟨λ_=>rfl,λ_=>r⟩
 | bl b=>rw[show v= .bl b from r];exact⟨(λz=>nomatch z),(λz=>nomatch z)⟩
 | int b=>rw[show v= .int b from r];exact⟨(λz=>nomatch z),(λz=>nomatch z)⟩
 | str b=>rw[show v= .str b from r];exact⟨(λz=>nomatch z),(λz=>nomatch z)⟩
 | ty b=>rw[show v= .ty b from r];exact⟨(λz=>nomatch z),(λz=>nomatch z)⟩
 | ref b=>rw[show v= .ref b from r];exact⟨(λz=>nomatch z),(λz=>nomatch z)⟩
 | cl b=>rw[show v= .ref _ from r];exact⟨(λz=>nomatch z),(λz=>nomatch z)⟩
 | fn b=>rw[show v= .ref _ from r];exact⟨(λz=>nomatch z),(λz=>nomatch z)⟩
 | emp=>obtain⟨a,rfl,_⟩:=r;exact⟨(λz=>nomatch z),(λz=>nomatch z)⟩
 | dct ks xs=>obtain⟨_,_,rfl,_⟩:=r;exact⟨(λz=>nomatch z),(λz=>nomatch z)⟩
 | fdc ks xs=>obtain⟨_,_,_,rfl,_⟩:=r;exact⟨(λz=>nomatch z),(λz=>nomatch z)⟩
 | tup xs=>obtain⟨_,_,rfl,_⟩:=r;exact⟨(λz=>nomatch z),(λz=>nomatch z)⟩
 | lst xs=>obtain⟨_,_,rfl,_⟩:=r;exact⟨(λz=>nomatch z),(λz=>nomatch z)⟩
 | scr xs=>obtain⟨_,rfl,_⟩:=r;exact⟨(λz=>nomatch z),(λz=>nomatch z)⟩
 | ob _ _ xs=>obtain⟨_,_,_,rfl,_⟩:=r;exact⟨(λz=>nomatch z),(λz=>nomatch z)⟩
 | exc _ _ xs=>obtain⟨_,_,_,rfl,_⟩:=r;exact⟨(λz=>nomatch z),(λz=>nomatch z)⟩
def aCo:OpR X (compareOp .Is) (λx y H Q=>∃i j,x= .bl i/\y= .bl j/\Q (.bl (i==j)) H):=by
 rintro j0 s Y H x y v u Q I rx ry ⟨i,j,e1,e2,q⟩;subst e1 e2;cases rx;cases ry;exact is_bool ⟨.bl _,H,I,rfl,q⟩
def VZ:OpR X (compareOp .IsNot) (λx y H Q=>∃i j,x= .bl i/\y= .bl j/\Q (.bl (!(i==j))) H):=by
 rintro j0 s Y H x y v u Q I rx ry ⟨i,j,e1,e2,q⟩;subst e1 e2;cases rx;cases ry;exact isnot_bool ⟨.bl _,H,I,rfl,q⟩
def aB2:OpR X (compareOp .Is) (fV E F (pIs false)):=by
 refine(aBc.or aCo).imp λv u H Q h=>?_;obtain⟨x,y,Z,G,Q',r1,r2,S,q,k⟩:=h;unfold pIs at q;split at q
 . refine .inl ⟨r2,?_⟩;rcases q with ⟨e,q⟩|⟨e,q⟩
   . rw[decide_eq_true ((iD r1).mpr e)];exact k.here S q cF
   . rw[decide_eq_false λz=>e ((iD r1).mp z)];exact k.here S q cF
 . obtain⟨c,e,q⟩:=q;subst e;exact .inr ⟨_,_,r1,r2,k.here S q cF⟩
 . exact q.elim
def WK:OpR X (compareOp .IsNot) (fV E F (pIs true)):=by
 refine(XU.or VZ).imp λv u H Q h=>?_;obtain⟨x,y,Z,G,Q',r1,r2,S,q,k⟩:=h;unfold pIs at q;split at q
 . refine .inl ⟨r2,?_⟩;rcases q with ⟨e,q⟩|⟨e,q⟩
   . rw[decide_eq_true ((iD r1).mpr e)];exact k.here S q cF
   . rw[decide_eq_false λz=>e ((iD r1).mp z)];exact k.here S q cF
 . obtain⟨c,e,q⟩:=q;subst e;exact .inr ⟨_,_,r1,r2,k.here S q cF⟩
 . exact q.elim
def ZR(r:RP E Z x v)(h:flP x=true):lF v=true:=by
 cases x<;>first|(cases h;done)|skip
 . rw[show v= .non from r];rfl
 . rw[show v= .bl _ from r];rfl
 . rw[show v= .int _ from r];rfl
 . rw[show v= .str _ from r];rfl
def aDg(r:RP E Z x v)(ry:RP E Z y u)(h:flP x=true)(hy:flP y=true):eqV v u=peq x y:=by
 cases x<;>first|(cases h;done)|skip
 all_goals (cases y<;>first|(cases hy;done)|skip)
 all_goals
   first
   | rw[show v= .non from r]
   | rw[show v= .bl _ from r]
   | rw[show v= .int _ from r]
   | rw[show v= .str _ from r]
 all_goals
   first
   | rw[show u= .non from ry]
   | rw[show u= .bl _ from ry]
   | rw[show u= .int _ from ry]
   | rw[show u= .str _ from ry]
 all_goals simp only[eqV,peq]
theorem aAd(r:RP E Z x v)(h:flP x=true):∀{xs:List PV} {vs:List V},RPs E Z xs vs->xs.all flP=true->vs.all lF=true/\inV v vs=xs.any λz=>peq z x
 | [],_,hr,_=>by cases hr;exact⟨rfl,rfl⟩
 | y::ys,_,⟨u,us,e,r1,r2⟩,ha=>by
   subst e;rw[List.all_cons,Bool.and_eq_true] at ha;obtain⟨a,b⟩:=aAd r h r2 ha.2;refine⟨by rw[List.all_cons,ZR r1 ha.1,a];rfl,?_⟩;unfold inV at b ⊢;rw[List.any_cons,List.any_cons,b,aDg r1 r ha.1 h]
def QO(hK:E.K=X.K)(h:fV E F (pIn neg) v u H Q):rIn X.K neg v u H Q:=by
 obtain⟨x,y,Z,G,Q',r1,r2,S,⟨xs,hx,h1,h2,q⟩,k⟩:=h;have key:∀{a:Addr} {vs:List V},RPs E Z xs vs->(SqL X.K H a vs∨SqT X.K H a vs)->u= .ref a->rIn X.K neg v u H Q:=λ{a vs} t hs e=>by
   obtain⟨a1,a2⟩:=aAd r1 h1 t h2;refine⟨a,vs,e,hs,ZR r1 h1,a1,?_⟩;rw[a2];exact k.here S q cF
 rcases hx with rfl|hx
 . obtain⟨a,vs,rfl,ha,ta⟩:=cZ S r2;exact key ta (.inr (hK▸ha)) rfl
 . obtain⟨a,vs,rfl,ha,ta⟩:=bH S r2 hx;exact key ta (.inl (SqL.of ha)) rfl
theorem kO(P:Pl X E T k):∀op,OpR X (compareOp op) (fV E F (jK op))
 | .Lt=>aEB.imp λ_ _ _ _ h=>oI (fS (λ_ _ _=>cF) h)
 | .LtE=>aDS.imp λ_ _ _ _ h=>oI (fS (λ_ _ _=>cF) h)
 | .Gt=>aEq.imp λ_ _ _ _ h=>oI (fS (λ_ _ _=>cF) h)
 | .GtE=>aEg.imp λ_ _ _ _ h=>oI (fS (λ_ _ _=>cF) h)
 | .Eq=>aBZ P.room P.hK
 | .NotEq=>aBN P.room P.hK
 | .Is=>aB2
 | .IsNot=>WK
 | .In=>IN.imp λ_ _ _ _ h=>QO P.hK h
 | .NotIn=>zP.imp λ_ _ _ _ h=>QO P.hK h
def aB1(P:Pl X E T k)(hm:behindInMarks op b=false)(ha:JE X E a (wpE T a'))(hb:JE X E b (wpE T b')):JE X E (.Compare a [op] [b] pos) (wpE T (.cmp op a' b')):=λF =>
 (UR (kO P op) (ha F) (hb F) hm).imp λY H Q h=>JN (by exact h)
def aC2(P:Pl X E T k)(hm:behindInMarks op b=false)(ha:JE X E a (wpE T a'))(hb:JE X E b (wpE T b')):JT X E (.Compare a [op] [b] pos) (wpT T (.tsb (.cmp op a' b'))):=λF =>
 PT.imp (YS (kO P op) (ha F) (hb F) hm) λY H Q h=>JN (by
   obtain⟨Y',Z,G,Q',rs,S,h,kq⟩:=h;rw[wpT] at h;exact⟨Y',Z,G,_,rs,S,h,by rintro x v Z1 G1 H1 s1 S1 r1 ⟨kk,e,q⟩;subst e;exact⟨kk,r1,kq _ Z1 G1 H1 s1 S1 q⟩⟩)
def GK(h:low E F (wpE T (.chn op op' a' b' c')) Y H Q):DL (fV E F (jK op)) (fV E F (jK op')) (low E F (wpE T a')) (low E F (wpE T b')) (low E F (wpE T c')) Y H Q:=by
 obtain⟨Y',Z,G,Q',rs,S,h,kq⟩:=h;refine⟨Y',Z,G,_,rs,S,h,λx v Z1 G1 H1 s1 S1 r1 q1=>⟨Y',Z1,G1,_,rs.mono s1,S1,q1,λy u Z2 G2 H2 s2 S2 r2 q2=>⟨x,y,Z2,G2,_,r1.mono s2,r2,S2,q2,?_⟩⟩⟩;rintro z w Z3 G3 H3 s3 S3 r3 ⟨kk,e,q3⟩;subst e;refine⟨kk,r3,?_⟩;have sz:=(s1.trans s2).trans s3;cases kk with
 | true =>
   rw[ja rfl] at q3 ⊢;exact⟨Y',Z3,G3,_,rs.mono sz,S3,q3,λz' w' Z4 G4 H4 s4 S4 r4 q4=>⟨y,z',Z4,G4,Q',(r2.mono s3).mono s4,r4,S4,q4,kq.mono (sz.trans s4)⟩⟩
 | false =>
   rw[j9 Bool.false_ne_true] at q3 ⊢;exact kq.go sz S3 cF q3
def aCL(P:Pl X E T k)(hm:lastMarks [op,op'] [b,c]=false)(ha:JE X E a (wpE T a'))(hb:JE X E b (wpE T b'))(hc:JE X E c (wpE T c')):JE X E (.Compare a [op,op'] [b,c] pos) (wpE T (.chn op op' a' b' c')):=λF =>
 (OS (kO P op) (kO P op') (ha F) (hb F) (hc F) hm).imp λY H Q h=>GK h
def aC5(P:Pl X E T k)(hm:lastMarks [op,op'] [b,c]=false)(ha:JE X E a (wpE T a'))(hb:JE X E b (wpE T b'))(hc:JE X E c (wpE T c')):JT X E (.Compare a [op,op'] [b,c] pos) (wpT T (.tsb (.chn op op' a' b' c'))):=λF =>
 PT.imp (OX (kO P op) (kO P op') (ha F) (hb F) (hc F) hm) λY H Q h=>GK (by
   obtain⟨Y',Z,G,Q',rs,S,h,kq⟩:=h;rw[wpT] at h;exact⟨Y',Z,G,_,rs,S,h,by rintro x v Z1 G1 H1 s1 S1 r1 ⟨kk,e,q⟩;subst e;exact⟨kk,r1,kq _ Z1 G1 H1 s1 S1 q⟩⟩)
def yL(P:Pl X E T k)(ha:JE X E a (wpE T a'))(he:∀whole,isTrue a X.env whole=(do let v <-whole;standAt a.pos;holding [v] (truthy v))):JT X E a (wpT T (.tst a')):=λF =>
 PT.imp (OW (ha F) he)<|by
   rintro Y H Q ⟨Y',Z,G,Q',rs,S,h,kq⟩;rw[wpT] at h;refine⟨Y',Z,G,_,rs,S,h,λx v Z1 G1 H1 s1 S1 r1 q1=>?_⟩;obtain⟨c,tv,q⟩:=sD P.hK S1 r1 q1;exact⟨c,tv,kq _ Z1 G1 H1 s1 S1 q⟩
def aBg(ha:JT X E a (wpT T a')):JW X E (.BoolOp .And [a] pos) (wpT T a'):=λF=>WE (ha F)
def aAB(ha:JT X E a (wpT T a')):JW X E (.BoolOp .Or [a] pos) (wpT T a'):=λF=>aCM (ha F)
def aEk(h:rG E F (wpT T (.an a' b')) Y H Q):aEt (rG E F (wpT T a')) (rG E F (wpT T b')) Y H Q:=by
 obtain⟨Y',Z,G,Q',rs,S,h,kq⟩:=h;rw[wpT] at h;refine⟨Y',Z,G,_,rs,S,h,λd Z1 G1 H1 s1 S1 q=>?_⟩;cases d with
 | true=>rw[ja rfl] at q ⊢;exact⟨Y',Z1,G1,Q',rs.mono s1,S1,q,kq.mono s1⟩
 | false=>rw[j9 Bool.false_ne_true] at q ⊢;exact kq _ _ _ _ s1 S1 q
def aDF(h:rG E F (wpT T (.oo a' b')) Y H Q):tOr (rG E F (wpT T a')) (rG E F (wpT T b')) Y H Q:=by
 obtain⟨Y',Z,G,Q',rs,S,h,kq⟩:=h;rw[wpT] at h;refine⟨Y',Z,G,_,rs,S,h,λd Z1 G1 H1 s1 S1 q=>?_⟩;cases d with
 | false=>rw[j9 Bool.false_ne_true] at q ⊢;exact⟨Y',Z1,G1,Q',rs.mono s1,S1,q,kq.mono s1⟩
 | true=>rw[ja rfl] at q ⊢;exact kq _ _ _ _ s1 S1 q
def aFh{j4:List Expr}(ha:JT X E a (wpT T a'))(hb:JW X E (.BoolOp .And (b::j4) pos) (wpT T b')):JW X E (.BoolOp .And (a::b::j4) pos) (wpT T (.an a' b')):=λF=>PW.imp (aCJ (ha F) (hb F)) λ_ _ _ h=>aEk h
def aDz{j4:List Expr}(ha:JT X E a (wpT T a'))(hb:JW X E (.BoolOp .Or (b::j4) pos) (wpT T b')):JW X E (.BoolOp .Or (a::b::j4) pos) (wpT T (.oo a' b')):=λF=>PW.imp (aFm (ha F) (hb F)) λ_ _ _ h=>aDF h
def JW.jt(h:JW X E e t):JT X E e t:=λF=>(h F).pt
def aEn(ha:JT X E a (wpT T a')):JT X E (.UnaryOp .Not a pos) (wpT T (.no a')):=λF =>
 PT.imp (aC3 (ha F))<|by
   rintro Y H Q ⟨Y',Z,G,Q',rs,S,h,kq⟩;rw[wpT] at h;exact⟨Y',Z,G,_,rs,S,h,λd Z1 G1 H1 s1 S1 q=>kq _ _ _ _ s1 S1 q⟩
def aBw:JA X E [] (wpL T .nil):=λF=>PA.imp jN<|by rintro Y H Q ⟨Y',Z,G,Q',rs,S,h,kq⟩;rw[wpL] at h;exact kq [] [] Z G H rfl (aP.refl Z) S rfl h
def WI(ha:JE X E e (wpE T a'))(hr:JA X E es (wpL T b'))(hs:starEach (e::es) X.env=(false,eval e X.env)::starEach es X.env):JA X E (e::es) (wpL T (.cons a' b')):=λF =>
 PA.imp (dY (ha F) (hr F) hs)<|by
   rintro Y H Q ⟨Y',Z,G,Q',rs,S,h,kq⟩;rw[wpL] at h;exact⟨Y',Z,G,_,rs,S,h,λx v Z1 G1 H1 s1 S1 r1 q1=>⟨Y',Z1,G1,_,rs.mono s1,S1,q1,λxs vs Z2 G2 H2 l2 s2 S2 r2 q2=>kq (x::xs) (v::vs) _ _ _ (by rw[List.length_cons,l2];rfl) (s1.trans s2) S2 ⟨v,vs,rfl,r1.mono s2,r2⟩ q2⟩⟩
def aAF(h:JA X E es (wpL T es')):JE X E (.Tuple es x1 pos) (wpE T (.tup es')):=λF =>
 (aCA (h F)).imp<|by
   rintro Y H Q ⟨Y',Z,G,Q',rs,S,h,kq⟩;refine⟨Y',Z,G,_,rs,S,h,λxs vs Z1 G1 H1 l1 s1 S1 r1 q1=>⟨by rw[<-r1.length];exact q1.1,λp n=>(kq.mono s1).newZ S1 n (fI (S1.zn n) r1) q1.2⟩⟩
def sS(S:Sim E F H Z G)(n:H p=none)(r:RPs E Z xs vs)(q:lO m G xs Q')(kq:Kq E F Z Q' Q):Q (.ref p) (upd H p (.lst vs)):=by
 unfold lO at q;cases m with
 | true =>
   rw[ja rfl] at q;exact kq (.ref p) _ _ _ _ (aP.refl Z) (S.new (go:=.lst xs) n ⟨vs,rfl,r⟩) rfl (q p (S.gn n))
 | false =>
   rw[j9 Bool.false_ne_true] at q;exact kq.newZ S n (eG (S.zn n) r) q
def aAR(h:JA X E es (wpL T es')):JE X E (.List es pos) (wpE T (.lst m es')):=λF =>
 (aAx (h F)).imp<|by
   rintro Y H Q ⟨Y',Z,G,Q',rs,S,h,kq⟩;refine⟨Y',Z,G,_,rs,S,h,λxs vs Z1 G1 H1 l1 s1 S1 r1 q1=>⟨by rw[<-r1.length];exact q1.1,λp n=>sS S1 n r1 q1.2 (kq.mono s1)⟩⟩
def aBb(P:Pl X E T k)(ha:JE X E a (wpE T a'))(hb:JE X E b (wpE T b'))(hs:yV b):JE X E (.Subscript a b pos) (wpE T (.idx a' b')):=λF =>
 (aD4 (aC1 P.room P.hK) (ha F) (hb F) hs).imp λY H Q h=>JN (by exact h)
noncomputable def aFx(E:Ev)(F:Hp)(t:PSt->Gh->(Option Int->Gh->Prop)->Prop):TO:=λY H Q=>∃Y' Z G Q',RSt E Z Y' Y/\Sim E F H Z G/\t Y' G Q'/\∀o Z1 G1 H1,aP Z Z1->Sim E F H1 Z1 G1->Q' o G1->Q o H1
def JO(X:Cx)(E:Ev)(e:Option Expr)(t:PSt->Gh->(Option Int->Gh->Prop)->Prop):Prop:= ∀F,PO X e (aFx E F t)
def PO.imp{e:Option Expr}{t t':TO}(h:PO X e t)(g:∀Y H Q,t' Y H Q->t Y H Q):PO X e t':=λj0 s Y H Q I q=>h j0 s Y H Q I (g _ _ _ q)
def aC8:JO X E none (wpO T .nil):=λF=>PO.imp WW<|by rintro Y H Q ⟨Y',Z,G,Q',rs,S,h,kq⟩;rw[wpO] at h;exact kq _ _ _ _ (aP.refl Z) S h
def UZ(ha:JE X E a (wpE T a')):JO X E (some a) (wpO T (.tst a')):=λF=>PO.imp (GZ (ha F))<|by
 rintro Y H Q ⟨Y',Z,G,Q',rs,S,h,kq⟩;rw[wpO] at h;exact⟨Y',Z,G,_,rs,S,h,by rintro x v Z1 G1 H1 s1 S1 r1 ⟨i,e,q⟩;subst e;exact⟨i,r1,kq _ _ _ _ s1 S1 q⟩⟩
def aAW{lo hi:Option Expr}{p2:Pos}(P:Pl X E T k)(ha:JE X E a (wpE T a'))(hl:JO X E lo (wpO T l'))(hu:JO X E hi (wpO T h')):JE X E (.Subscript a (.Slice lo hi none p2) pos) (wpE T (.sli a' l' h')):=λF =>
 (QW (aBf P.hK) (ha F) (hl F) (hu F)).imp<|by
   rintro Y H Q ⟨Y',Z,G,Q',rs,S,h,kq⟩;refine⟨Y',Z,G,_,rs,S,h,λx v Z1 G1 H1 s1 S1 r1 q1=>⟨Y',Z1,G1,_,rs.mono s1,S1,q1,λo Z2 G2 H2 s2 S2 q2=>⟨Y',Z2,G2,_,(rs.mono s1).mono s2,S2,q2,λo' Z3 G3 H3 s3 S3 q3=>?_⟩⟩⟩;exact⟨x,Z3,G3,Q',(r1.mono s2).mono s3,S3,q3,kq.mono ((s1.trans s2).trans s3)⟩
def aB0(P:Pl X E T k)(ha:JE X E a (wpE T a')):JE X E (.Subscript a (.Slice none none (some (.UnaryOp .USub (.Constant (.int 1) k1 p1) p2)) p3) pos) (wpE T (.rev a')):=λF =>
 (VX (ha F)).imp<|by
   rintro Y H Q ⟨Y',Z,G,Q',rs,S,h,kq⟩;refine⟨Y',Z,G,_,rs,S,h,λx v Z1 G1 H1 s1 S1 r1 hq=>?_⟩;rcases hq with ⟨xs,e,q1⟩|⟨xs,e,q1⟩
   . obtain⟨a,vs,rfl,ha,ta⟩:=bH S1 r1 e;exact⟨a,vs,rfl,.inl ⟨ha,λp n=>(kq.mono s1).newZ S1 n (eG (S1.zn n) ta.reverse) q1⟩⟩
   . subst e;obtain⟨a,vs,rfl,ha,ta⟩:=cZ S1 r1;exact⟨a,vs,rfl,.inr ⟨P.hK▸ha,λp n=>(kq.mono s1).newZ S1 n (fI (S1.zn n) ta.reverse) q1⟩⟩
theorem lR{ns:List Str}:∀{ns:List Str} {xs:List PV} {vs:List V},RPs E Z xs vs->(ns.zip xs).lookup f=some x->∃v,(ns.zip vs).lookup f=some v/\RP E Z x v
 | [],_,_,_,h=>by cases h
 | _::_,[],_,_,h=>by cases h
 | n::ns,y::ys,_,⟨v,r,e,r1,r2⟩,h=>by
   subst e;rw[List.zip_cons_cons,List.lookup_cons] at h;rw[List.zip_cons_cons,List.lookup_cons];cases hb:f==n with
   | true=>rw[hb] at h;cases h;exact⟨v,rfl,r1⟩
   | false=>rw[hb] at h;exact lR (ns:=ns) r2 h
def aCj(P:Pl X E T k)(ha:JE X E a (wpE T a'))(hb:attributeBase a f X.env (eval a X.env)=eval a X.env):JE X E (.Attribute a f pos) (wpE T (.att a' f)):=λF =>
 (aAp (ha F) hb).imp<|by
   rintro Y H Q ⟨Y',Z,G,Q',rs,S,h,kq⟩;refine⟨Y',Z,G,_,rs,S,h,λx v Z1 G1 H1 s1 S1 r1 zz=>?_⟩;obtain⟨c,ns,xs,y,hx,hf,hl,q⟩:=zz;obtain⟨h1,h2⟩:=P.fld c f hf;rcases hx with e|⟨a,e,hG⟩
   . subst e;obtain⟨p,dx,vs,e,hp,_,t⟩:=r1;obtain⟨w,e1,e2⟩:=lR (ns:=ns) t hl;exact⟨p,_,dx,_,w,e,S1.z _ _ hp,h1,h2,e1,kq.go s1 S1 e2 q⟩
   . subst e;obtain⟨_,o',hp,dx,vs,e',_,t⟩:=S1.g _ _ hG;subst e';obtain⟨w,e1,e2⟩:=lR (ns:=ns) t hl;exact⟨a,_,dx,_,w,r1,hp,h1,h2,e1,kq.go s1 S1 e2 q⟩
def aAv(P:Pl X E T k)(h40:WJ bb=true->40<=k)(hg:Gl X x)(hm:X.mg x=none)(hv:bootBuiltins x=some (aA3 bb))(hn:x≠"__name__")(hd:(x==("__debug__":Str))=false)
   (ha:JA X E (e::es) (wpL T es')) (he:starEach (e::es) X.env=(false,eval e X.env)::starEach es X.env) (hpl:(backTo pos (starEach es X.env)).any (·.1)=false):JE X E (.Call (.Name x p) (e::es) [] pos) (wpE T (.blt bb es')):=λF=>by
 have main:PE X (.Call (.Name x p) (e::es) [] pos) (tCB (aBQ E F (bU T.cs bb)) (yZ E F (e::es).length (wpL T es'))):=by
   have hc:=XW (F:=F) (cs:=T.cs) P.hK P.cls bb λz=>P.calm (h40 z);cases bb<;>first
     | exact SX hc hg hm hv (ha F) hn hd he hpl
     | exact KW hc hg hm hv (ha F) hn hd he hpl
 exact main.imp<|by
   rintro Y H Q ⟨Y',Z,G,Q',rs,S,h,kq⟩;exact⟨Y',Z,G,_,rs,S,h,λxs vs Z1 G1 H1 l1 s1 S1 r1 q1=>⟨xs,Z1,G1,Q',r1,S1,q1,kq.mono s1⟩⟩
def gF(E:Ev)(sp:Sp3):Sp:=λvs H Q _=>∃xs Z G F Q',RPs E Z xs vs/\Sim E F H Z G/\sp xs G Q'/\Kq E F Z Q' Q
abbrev SpX:=List PV->Gh->PX->Prop
def AN(E:Ev)(sp:Sp3)(spx:SpX):Sp:=λvs H Q EX=>∃xs Z G F,RPs E Z xs vs/\Sim E F H Z G/\((∃Q',sp xs G Q'/\Kq E F Z Q' Q)∨∃x,spx xs G x/\KX E F Z x EX)
def aE5(h:∀e s',xeO X EX e s'->X.xe e s'):jU (CXo X.prog X.w) X EX:=by
 rintro j0 Y H s e s' I ⟨a,C,d,H',ee,ho,hb,un,hok,x,q⟩;have J:=I.call' ho un hok hb λb z=>nomatch z;exact h _ _ ⟨a,C,d,Y,H',ee,J.nopins,.inr (x.mono I.lo_le),q⟩
def Co(X:Cx)(E:Ev)(sp3:Sp3)(k:Nat)(ad:Addr)(fd:J8)(ps:List Str):Prop:= ∃(CX:CXT) (sp:Sp) (EX:XK),bM X.prog X.w X.K X.mg X.base CX k ad fd ps sp/\jU CX X EX/\∀vs H Q,gF E sp3 vs H Q E0->sp vs H Q EX
def Co.of{sp3:Sp3}{ad:Addr}{fd:J8}{ps:List Str}(K:bM X.prog X.w X.K X.mg X.base CX0 k ad fd ps (gF E sp3)):Co X E sp3 k ad fd ps:=⟨CX0,_,E0,K,aEi,λ_ _ _ h=>h⟩
def Co.ofX{sp3 sp:Sp3}{spx:SpX}{ad:Addr}{fd:J8}{ps:List Str}{x:PX}{EX:XK}(K:bM X.prog X.w X.K X.mg X.base (CXo X.prog X.w) k ad fd ps (AN E sp spx))(h:∀xs G Q,sp3 xs G Q->sp xs G Q∨spx xs G x)
   (hx:∀e s',xeO X EX e s'->X.xe e s') (kx:KX E E.f0 E.z0 x EX):Co X E sp3 k ad fd ps:=by
 refine⟨_,_,EX,K,aE5 hx,λvs H Q ⟨xs,Z,G,F,Q',r,S,q,kq⟩=>⟨xs,Z,G,F,r,S,?_⟩⟩;rcases h _ _ _ q with q|q
 . exact .inl ⟨Q',q,kq⟩
 . exact .inr ⟨x,q,λc ns ys d vs Z1 G1 H1 s1 S1 l r hd hn q=>kx c ns ys d vs Z1 G1 H1 S1.z0 S1.weakF l r hd hn q⟩
def SZ{f:Str}{x:Str}{p:Pos}{e:Expr}{es:List Expr}{es':CE}{ad:Addr}{fd:J8}{ps:List Str}(K:Co X E (T.S f) k ad fd ps)(hr:cJ k X.A)(hg:Gl X x)(hm:X.mg x=some (.ref ad))(hk:W.keepIn X.K (.ref ad)=true)
   (hb:bG X.K fd ps []) (hd:(x==("__debug__":Str))=false) (ha:JA X E (e::es) (wpL T es')) (he:starEach (e::es) X.env=(false,eval e X.env)::starEach es X.env) (hpl:(backTo pos (starEach es X.env)).any (·.1)=false) :
   JE X E (.Call (.Name x p) (e::es) [] pos) (wpE T (.cal f es')):=λF=>by
 obtain⟨CX,sp,EX,K,hp,hl⟩:=K;exact(WS K hr hg hm hk hb .nil hp (ha F) hd he hpl).imp<|by
   rintro Y H Q ⟨Y',Z,G,Q',rs,S,h,kq⟩;exact⟨Y',Z,G,_,rs,S,h,λxs vs Z1 G1 H1 l1 s1 S1 r1 q1=>by
     show sp (vs++[]) H1 Q EX;rw[List.append_nil];exact hl _ _ _ ⟨xs,Z1,G1,F,Q',r1,S1,q1,kq.mono s1⟩⟩
structure aFN(X:Cx)(E:Ev)(T:Tb):Prop where
 xi:∀c n r,(c,n,r)∈T.xi->XAt X.K (E.cls c)/\((∃a,X.mg n=some (.ref a)/\W.kitOne X.K (.ref (E.cls c)) (.ref a)=some r)∨∃t,X.mg n=none/\bootBuiltins n=some (.type t)/\n≠"__name__"/\W.kitOne X.K (.ref (E.cls c)) (.type t)=some r)
 fx:∀c f,(c,f)∈T.fx->XAt X.K (E.cls c)/\W.findIn X.K (.ref (E.cls c)) f=some none
def MX:OpR X (binaryOp .Add) (fV E F QY):=SJ.imp λv u H Q h=>by
 obtain⟨x,y,Z,G,Q',r1,r2,S,⟨xs,ys,hx,hy,hz,q⟩,k⟩:=h;obtain⟨a,vs,rfl,ha,ta⟩:=bH S r1 hx;obtain⟨b,us,rfl,hb,tb⟩:=bH S r2 hy;exact⟨a,b,vs,us,rfl,rfl,ha,hb,by rw[<-ta.length,<-tb.length];exact hz,λp n=>sS (m:=true) S n (ta.append tb) (by unfold lO;rw[ja rfl];exact q) k⟩
def YY(ha:JE X E a (wpE T a'))(hb:JE X E b (wpE T b')):JE X E (.BinOp a .Add b pos) (wpE T (.ladd a' b')):=λF =>
 (OZ MX (ha F) (hb F)).imp λY H Q h=>JN (by exact h)
def WP:OpR X (binaryOp .Mult) (fV E F aAy):=aAH.imp λv u H Q h=>by
 obtain⟨x,y,Z,G,Q',r1,r2,S,⟨xs,i,hx,rfl,h0,h1,hz,q⟩,k⟩:=h;obtain⟨a,vs,rfl,ha,ta⟩:=bH S r1 hx;obtain rfl:u= .int i:=r2;exact⟨a,i,vs,rfl,rfl,ha,by omega,by omega,by rw[<-ta.length,sizeLine_eq];omega,λp n=>sS (m:=true) S n (ta.rep _) (by unfold lO;rw[ja rfl];exact q) k⟩
def aBG(ha:JE X E a (wpE T a'))(hb:JE X E b (wpE T b')):JE X E (.BinOp a .Mult b pos) (wpE T (.lrp a' b')):=λF =>
 (OZ WP (ha F) (hb F)).imp λY H Q h=>JN (by exact h)
def aBI(ha:JE X E a (wpE T a'))(hb:JE X E e (wpE T b'))(hbase:attributeBase a "append" X.env (eval a X.env)=eval a X.env)
   (hs:starEach [e] X.env=[(false,eval e X.env)]) (hline:(apos.endLine==pos.line)=true):JE X E (.Call (.Attribute a "append" apos) [e] [] pos) (wpE T (.app a' b')):=λF=>by
 refine(aEW PySem.F.plainAttrs_list PySem.F.slot_list_append PySem.F.type_list_append oY (ha F) (dY (hb F) jN hs) hbase (by rw[hs];rfl) hline hs rfl).imp λY H Q ⟨Y',Z,G,Q',rs,S,h,kq⟩=>?_;refine⟨Y',Z,G,_,rs,S,h,λx v Z1 G1 H1 s1 S1 r1 zz=>?_⟩;obtain⟨⟨ys,hy⟩,q1⟩:=zz;obtain⟨a1,vs,rfl,hH,ta⟩:=bH S1 r1 hy;refine⟨.inl ⟨rfl,vs,SqL.of hH⟩,Y',Z1,G1,_,rs.mono s1,S1,q1,λy u Z2 G2 H2 s2 S2 r2 zz=>?_⟩;obtain⟨p,xs,ex,hG,hz,q⟩:=zz;subst ex;have e1:V.ref a1= .ref p:=r1;cases e1;obtain⟨_,o',hp,us,e',t⟩:=S2.g _ _ hG;subst e';refine⟨a1,us,u,rfl,rfl,hp,by rw[<-t.length];exact hz,kq.go (s1.trans s2) (S2.set (go:=.lst (xs++[y])) hG ⟨us++[u],rfl,t.append ⟨u,[],rfl,r2,rfl⟩⟩) oK q⟩
noncomputable def bwN:Bn->Option Str
 | .len=>some "__len__"
 | .bool=>some "__len__"
 | .str=>some "__str__"
 | .repr=>some "__repr__"
 | _=>none
mutual
theorem aBP:∀{x:PV} {d:PyData},dat x=some d->d.hasDict=false
 | .non,d,h=>by simp only[dat] at h;cases h;rfl
 | .bl _,d,h=>by simp only[dat] at h;cases h;rfl
 | .int _,d,h=>by simp only[dat] at h;cases h;rfl
 | .str _,d,h=>by simp only[dat] at h;cases h;rfl
 | .tup xs,d,h=>by
   simp only[dat] at h;split at h
   . rename_i ds e;cases h;unfold PyData.hasDict;exact dats_nd e
   . cases h
 | .lst xs,d,h=>by
   simp only[dat] at h;split at h
   . rename_i ds e;cases h;unfold PyData.hasDict;exact dats_nd e
   . cases h
 | .scr _,d,h=>by simp[dat] at h
 | .ob _ _ _,d,h=>by simp[dat] at h
 | .ref _,d,h=>by simp[dat] at h
 | .ty _,d,h=>by simp[dat] at h
 | .cl _,d,h=>by simp[dat] at h
 | .fn _,d,h=>by simp[dat] at h
 | .emp,d,h=>by simp[dat] at h
 | .dct _ _,d,h=>by simp[dat] at h
 | .fdc _ _,d,h=>by simp[dat] at h
theorem dats_nd:∀{xs:List PV} {ds:List PyData},mB xs=some ds->PyData.hasDictAll ds=false
 | [],ds,h=>by simp only[mB] at h;cases h;rfl
 | x::xs,ds,h=>by
   simp only[mB] at h;split at h
   . rename_i d ds' e1 e2;cases h;unfold PyData.hasDictAll;rw[aBP e1,dats_nd e2];rfl
   . cases h
end
end
section
variable{X:Cx}{E:Ev}{T:Tb}{k:Nat}{F H Z:Hp}{G:Gh}
def HF{Y:L2.St}{s:J5}{vs:List V}(h1:SqT X.K H a vs)(h2:H a=some (.ins C dx fs))(I:Inv X j0 Y H s):False:=by
 obtain⟨its,_,⟨o,ho,hc,_⟩,_⟩:=I.tuple h1;obtain⟨od,J⟩:=VJ I h2;have e:=J.at_.symm.trans ho;cases e;have hc2:=J.cls.symm.trans hc;cases hc2
mutual
theorem aBK{Y:L2.St}(hK:E.K=X.K)(I:Inv X j0 Y H s)(S:Sim E F H Z G):∀{x y:PV} {v:V},pln x=true->pln y=true->RP E Z x v->RP E Z y v->x=y
 | x,y,v,hx,hy,rx,ry=>by
   cases x with
   | tup xs =>
     obtain⟨a,vs,e,q,t⟩:=rx;subst e;cases y with
     | tup ys =>
       obtain⟨a',vs',e',q',t'⟩:=ry;cases e';have e:=I.tuple_inj (hK▸bF S.z q) (hK▸bF S.z q');subst e;rw[rps_inj hK I S (by unfold pln at hx;exact hx) (by unfold pln at hy;exact hy) t t']
     | ob c' ns' ys =>
       obtain⟨a',dx',ws',e',hz',_,_⟩:=ry;cases e';exact(HF (hK▸bF S.z q) (S.z _ _ hz') I).elim
     | _=>first|(cases ry;done)|(unfold pln at hy;cases hy)
   | ob c ns xs =>
     obtain⟨a,dx,ws,e,hz,hl,t⟩:=rx;subst e;cases y with
     | tup ys =>
       obtain⟨a',vs',e',q',t'⟩:=ry;cases e';exact(HF (hK▸bF S.z q') (S.z _ _ hz) I).elim
     | ob c' ns' ys =>
       obtain⟨a',dx',ws',e',hz',hl',t'⟩:=ry;cases e';rw[hz] at hz';have z:=Option.some.inj hz';injection z with _ _ z3;have e1:ns=ns':=by
         have:=congrArg (List.map Prod.fst) z3;rw[List.map_fst_zip ooq,List.map_fst_zip ooq] at this;exact this
       have e2:ws=ws':=by
         have:=congrArg (List.map Prod.snd) z3;rw[List.map_snd_zip ooq,List.map_snd_zip ooq] at this;exact this
       subst e1 e2;unfold pln at hx hy;rw[Bool.and_eq_true,beq_iff_eq] at hx hy;rw[hx.1,hy.1,rps_inj hK I S hx.2 hy.2 t t']
     | _=>first|(cases ry;done)|(unfold pln at hy;cases hy)
   | _ =>first
     | (unfold pln at hx;cases hx;done)
     | (cases y with
       | tup ys=>obtain⟨a',vs',e',q',t'⟩:=ry;rw[e'] at rx;cases rx
       | ob c' ns' ys=>obtain⟨a',dx',ws',e',_⟩:=ry;rw[e'] at rx;cases rx
       | _=>first|(unfold pln at hy;cases hy;done)|(have h1:=(show v=_ from rx).symm.trans (show v=_ from ry);cases h1;rfl)|(have h1:=(show v=_ from rx).symm.trans (show v=_ from ry);cases h1))
theorem rps_inj{Y:L2.St}{s:J5}(hK:E.K=X.K)(I:Inv X j0 Y H s)(S:Sim E F H Z G):∀{xs ys:List PV} {vs:List V},IG xs=true->IG ys=true->RPs E Z xs vs->RPs E Z ys vs->xs=ys
 | [],[],_,_,_,_,_=>rfl
 | [],y::ys,vs,_,_,rx,ry=>by
   obtain⟨v,r,e,_⟩:=ry;rw[e] at rx;cases rx
 | x::xs,[],vs,_,_,rx,ry=>by
   obtain⟨v,r,e,_⟩:=rx;rw[e] at ry;cases ry
 | x::xs,y::ys,vs,hx,hy,rx,ry=>by
   obtain⟨v,r,e,r1,r2⟩:=rx;obtain⟨v',r',e',r1',r2'⟩:=ry;subst e;cases e';unfold IG at hx hy;rw[Bool.and_eq_true] at hx hy;rw[aBK hK I S hx.1 hy.1 r1 r1',rps_inj hK I S hx.2 hy.2 r2 r2']
end
variable{a b:Expr}{pos:Pos}
end
section
variable{X:Cx}{E:Ev}{T:Tb}{k:Nat}{pos:Pos}{a b c e:Expr}
def xH(hN:X.N.Nodup)(hi:X.N[i]? =some x)(hx:Loc X.env.scope x)(hf:X.fn x=true∨X.env.scope.names.lookup x=some .local):JG X E (.Name x pos) (wpG T (.gn i)):=λF =>
 (yM hN hi hx hf).imp<|by
   rintro v Y H Q ⟨x,Y',Z,G,Q',r,rs,S,h,kq⟩;rw[wpG] at h;exact kq _ _ _ _ _ (aP.refl Z) S (rs.set r i) h
def VV:JGs X E [] (cQ T .nil):=λF=>PGs.imp UX<|by
 rintro vs Y H Q ⟨xs,Y',Z,G,Q',r,rs,S,h,kq⟩;rw[cQ] at h;obtain⟨e,h⟩:=h;subst e;exact⟨r,kq _ _ _ _ _ (aP.refl Z) S rs h⟩
def NX(h1:JG X E e (wpG T a'))(h2:JGs X E es (cQ T b'))(hs:(assignEach (e::es) X.env).map (·.2)=assign e X.env::(assignEach es X.env).map (·.2)):JGs X E (e::es) (cQ T (.cons a' b')):=λF =>
 PGs.imp (OB (h1 F) (h2 F) hs)<|by
   rintro vs Y H Q ⟨xs,Y',Z,G,Q',r,rs,S,h,kq⟩;rw[cQ] at h;obtain⟨x,t,e,h⟩:=h;subst e;obtain⟨v,u,e,r1,r2⟩:=r;exact⟨v,u,e,x,Y',Z,G,_,r1,rs,S,h,λY1 Y2 Z1 G1 H1 s1 S1 rs1 q1=>⟨t,Y1,Z1,G1,Q',r2.mono s1,rs1,S1,q1,kq.mono s1⟩⟩
def SK(P:Pl X E T k)(h40:40<=k)(h:JGs X E es (cQ T gs))(hn:(assignEach es X.env).length=n)(hst:(assignEach es X.env).findIdx? (·.1)=none):JG X E (.Tuple es x1 pos) (wpG T (.gt n gs)):=λF =>
 (aAJ (P.calm h40) (h F) hn hst).imp<|by
   rintro v Y H Q ⟨x,Y',Z,G,Q',r,rs,S,h,kq⟩;rw[wpG] at h;obtain⟨xs,e,hl,h⟩:=h;subst e;obtain⟨a,vs,e,ha,t⟩:=cZ S r;exact⟨a,vs,e,P.hK▸ha,by rw[<-t.length];exact hl,xs,Y',Z,G,Q',t,rs,S,h,kq⟩
def aB6(P:Pl X E T k)(h40:40<=k)(h:JGs X E es (cQ T gs))(hn:(assignEach es X.env).length=n)(hst:(assignEach es X.env).findIdx? (·.1)=none):JG X E (.Tuple es x1 pos) (wpG T (.gl n gs)):=λF =>
 (aCp (P.calm h40) (h F) hn hst).imp<|by
   rintro v Y H Q ⟨x,Y',Z,G,Q',r,rs,S,h,kq⟩;rw[wpG] at h;obtain⟨xs,e,hl,h⟩:=h;obtain⟨a,vs,e,ha,t⟩:=bH (xs:=xs) S r e;exact⟨a,vs,e,ha,by rw[<-t.length];exact hl,xs,Y',Z,G,Q',t,rs,S,h,kq⟩
def pC(E:Ev)(J:It)(Z:Hp)(chk:Gh->Prop)(xs:List PV):Prop:= ∀F (i:Nat) Z1 G1 H1,aP Z Z1->Sim E F H1 Z1 G1->chk G1->
 (∀x,xs[i]? =some x->J.go i H1/\∀v H2,J.yld i H1 v H2->∃Z2,aP Z1 Z2/\Sim E F H2 Z2 G1/\RP E Z2 x v)/\(i=xs.length->J.stop i H1)
def AU(E:Ev)(F:Hp)(t:PTI):TI:=λY H R=>∃Y' Z G R',RSt E Z Y' Y/\Sim E F H Z G/\t Y' G R'/\∀J chk xs Z1 G1 H1,aP Z Z1->Sim E F H1 Z1 G1->pC E J Z1 chk xs->R' chk xs G1->R J H1
def JI(X:Cx)(E:Ev)(tg j3:Expr)(t:PTI):Prop:= ∀F,PI X tg j3 (AU E F t)
def aAC(hl:PE X l tl):PI X tg l (λY H R=>tl Y H λx H1=>∃a,x= .ref a/\(((∃xs,SqL X.K H1 a xs)/\R (Itl X.K a) H1)∨((∃xs,SqT X.K H1 a xs)/\R (Itt X.K a) H1))):=by
 intro j0 s Y H R I h;have hw:=hl j0 s Y H _ I h;refine thn hw λv s1 zz=>?_;obtain⟨x,H1,I1,r1,a,e,q1⟩:=zz;subst e;have r1':v= .ref a:=r1;subst r1';rcases q1 with ⟨⟨xs,hq⟩,q⟩|⟨⟨xs,hq⟩,q⟩
 . obtain⟨its,rv,p,hz⟩:=I1.list hq;refine wpAny_pyIter_list p.isList ?_;refine⟨s1.heap.objs.size,[s1.heap.objs.size],_,_,H1,rfl,I1.kept (t':=s1.toks) λb o e=>wEq _ e,JH a _,⟨_,wGq _ rfl,rfl,rfl⟩,λb hb=>?_,q⟩;have e:b=s1.heap.objs.size:=by simpa using hb
   subst e;exact I1.fpOk (Nat.le_refl _) (I1.hok.fresh (Nat.le_refl _))
 . obtain⟨its,rv,p,hz⟩:=I1.tuple hq;refine wpAny_pyIter_tuple (show s1.heap.IsTuple a its.toArray from p) ?_;refine⟨s1.heap.objs.size,[s1.heap.objs.size],_,_,H1,rfl,I1.kept (t':=s1.toks) λb o e=>wEq _ e,DO a _,⟨_,wGq _ rfl,rfl,rfl⟩,λb hb=>?_,q⟩;have e:b=s1.heap.objs.size:=by simpa using hb
   subst e;exact I1.fpOk (Nat.le_refl _) (I1.hok.fresh (Nat.le_refl _))
def yN{a:Addr}{chk:Gh->Prop}(h:∀F Z1 G1 H1,aP Z Z1->Sim E F H1 Z1 G1->chk G1->∃vs,SqL E.K H1 a vs/\RPs E Z1 xs vs):pC E (Itl E.K a) Z chk xs:=by
 intro F i Z1 G1 H1 s1 S1 c1;obtain⟨vs,hs,t⟩:=h F Z1 G1 H1 s1 S1 c1;refine⟨λx ex=>?_,λe=>⟨vs,hs,by rw[e,t.length];exact Nat.le_refl _⟩⟩;obtain⟨v,ev,rv⟩:=t.get ex;refine⟨⟨vs,v,hs,ev⟩,λw H2 zz=>?_⟩;obtain⟨e,y⟩:=zz;subst e;have:=y vs hs;rw[ev] at this;cases this;exact⟨Z1,aP.refl _,S1,rv⟩
def aB8{a:Addr}{chk:Gh->Prop}(h:∀F Z1 G1 H1,aP Z Z1->Sim E F H1 Z1 G1->chk G1->∃vs,SqT E.K H1 a vs/\RPs E Z1 xs vs):pC E (Itt E.K a) Z chk xs:=by
 intro F i Z1 G1 H1 s1 S1 c1;obtain⟨vs,hs,t⟩:=h F Z1 G1 H1 s1 S1 c1;refine⟨λx ex=>?_,λe=>⟨vs,hs,by rw[e,t.length];exact Nat.le_refl _⟩⟩;obtain⟨v,ev,rv⟩:=t.get ex;refine⟨⟨vs,v,hs,ev⟩,λw H2 zz=>?_⟩;obtain⟨e,y⟩:=zz;subst e;have:=y vs hs;rw[ev] at this;cases this;exact⟨Z1,aP.refl _,S1,rv⟩
def aBl{a:Addr}{Z:Hp}{vs:List V}{xs:List PV}(hz:SqT E.K Z a vs)(t:RPs E Z xs vs):pC E (Ite E.K a) Z (λ_=>True) (nM xs):=by
 intro F i Z1 G1 H1 s1 S1 _;have hs:=bF S1.z (bF s1 hz);have hl:(nM xs).length=xs.length:=by unfold nM;rw[List.length_map,List.length_zipIdx]
 refine⟨λx ex=>?_,λe=>⟨vs,hs,by rw[e,hl,t.length];exact Nat.le_refl _⟩⟩;unfold nM at ex;rw[List.getElem?_map,List.getElem?_zipIdx] at ex;cases ey:xs[i]? with
 | none=>rw[ey] at ex;cases ex
 | some y =>
   rw[ey] at ex;have ex':x= .tup [.int ((0+i:Nat):Int),y]:=by
     have:=Option.some.inj ex;exact this.symm
   obtain⟨v,ev,rv⟩:=t.get ey;refine⟨⟨vs,v,hs,ev⟩,λw H2 zz=>?_⟩;obtain⟨p,u,e,n,e2,y'⟩:=zz;subst e e2;have:=y' vs hs;rw[ev] at this;cases this;refine⟨upd Z1 p (.tup [.int i,v]),aV (S1.zn n) _,S1.fz n,?_⟩;rw[ex',Nat.zero_add];exact fI (xs:=[.int (i:Int),y]) (S1.zn n) ⟨_,_,rfl,aT,_,_,rfl,rv.mono s1,rfl⟩
def XV{a:Addr}{Z:Hp}{vs:List V}{xs:List PV}(hz:Z a=some (.lst vs))(t:RPs E Z xs vs):pC E (aB4 E.K a) Z (λ_=>True) (nM xs):=by
 intro F i Z1 G1 H1 s1 S1 _;have hs:=S1.z _ _ (s1 _ _ hz);have hl:(nM xs).length=xs.length:=by unfold nM;rw[List.length_map,List.length_zipIdx]
 refine⟨λx ex=>?_,λe=>⟨vs,hs,by rw[e,hl,t.length];exact Nat.le_refl _⟩⟩;unfold nM at ex;rw[List.getElem?_map,List.getElem?_zipIdx] at ex;cases ey:xs[i]? with
 | none=>rw[ey] at ex;cases ex
 | some y =>
   rw[ey] at ex;have ex':x= .tup [.int ((0+i:Nat):Int),y]:=by
     have:=Option.some.inj ex;exact this.symm
   obtain⟨v,ev,rv⟩:=t.get ey;refine⟨⟨vs,v,hs,ev⟩,λw H2 zz=>?_⟩;obtain⟨p,u,e,n,e2,y'⟩:=zz;subst e e2;have:=y' vs hs;rw[ev] at this;cases this;refine⟨upd Z1 p (.tup [.int i,v]),aV (S1.zn n) _,S1.fz n,?_⟩;rw[ex',Nat.zero_add];exact fI (xs:=[.int (i:Int),y]) (S1.zn n) ⟨_,_,rfl,aT,_,_,rfl,rv.mono s1,rfl⟩
def DX{lo:Int}:pC E (Itr lo n) Z (λ_=>True) (iW lo n):=by
 intro F i Z1 G1 H1 s1 S1 _;have hl:(iW lo n).length=n:=by unfold iW;rw[List.length_map,List.length_range]
 refine⟨λx ex=>?_,λe=>by rw[hl] at e;exact Nat.le_of_eq e.symm⟩;have hi:i<n:=by
   have:=(List.getElem?_eq_some_iff.mp ex).1;rw[hl] at this;exact this
 have ex':x= .int (lo+i):=by
   unfold iW at ex;rw[List.getElem?_map,List.getElem?_range hi] at ex;exact(Option.some.inj ex).symm
 refine⟨hi,λw H2 zz=>?_⟩;obtain⟨e,y⟩:=zz;subst e y;exact⟨Z1,aP.refl _,S1,by rw[ex'];exact aT⟩
def MP(P:Pl X E T k)(ha:JE X E a (wpE T a')):JI X E tg a (wpI T (.isq a')):=λF =>
 (aAC (ha F)).imp<|by
   rintro Y H R ⟨Y',Z,G,R',rs,S,h,kr⟩;rw[wpI] at h;refine⟨Y',Z,G,_,rs,S,h,λx v Z1 G1 H1 s1 S1 r1 q1=>?_⟩;unfold pA at q1;split at q1
   . obtain⟨a,vs,e,ha,t⟩:=r1;have ok:pC E (Itt E.K a) Z1 (λ_=>True) _:=aB8 λF2 Z2 G2 H2 s2 S2 _=>⟨vs,bF S2.z (bF s2 ha),t.mono s2⟩;exact⟨a,e,.inr ⟨⟨vs,P.hK▸bF S1.z ha⟩,P.hK▸kr _ _ _ _ _ _ s1 S1 ok q1⟩⟩
   . obtain⟨a,vs,e,ha,t⟩:=r1;have ok:pC E (Itl E.K a) Z1 (λ_=>True) _:=yN λF2 Z2 G2 H2 s2 S2 _=>⟨vs,SqL.of (S2.z _ _ (s2 _ _ ha)),t.mono s2⟩;exact⟨a,e,.inl ⟨⟨vs,SqL.of (S1.z _ _ ha)⟩,P.hK▸kr _ _ _ _ _ _ s1 S1 ok q1⟩⟩
   . obtain⟨a,e,ha⟩:=r1;have ok:pC E (Itl E.K a) Z1 (λ_=>True) _:=yN λF2 Z2 G2 H2 s2 S2 _=>⟨_,S2.z.seq (s2.seq ha),RPs.ofInts _⟩;exact⟨a,e,.inl ⟨⟨_,P.hK▸S1.z.seq ha⟩,P.hK▸kr _ _ _ _ _ _ s1 S1 ok q1⟩⟩
   . rename_i a;obtain⟨xs,hG,q1⟩:=q1;obtain⟨_,o',hp,vs,e',t⟩:=S1.g _ _ hG;subst e';have ok:pC E (Itl E.K a) Z1 (λG'=>G' a=some (.lst xs)) xs:=yN λF2 Z2 G2 H2 s2 S2 c2=>by
       obtain⟨_,o',hp,vs,e',t⟩:=S2.g _ _ c2;subst e';exact⟨vs,SqL.of hp,t⟩
     exact⟨a,r1,.inl ⟨⟨vs,SqL.of hp⟩,P.hK▸kr _ _ _ _ _ _ s1 S1 ok q1⟩⟩
   . exact q1.elim
def YC(hg:Gl X "range")(hm:X.mg "range"=none)(ha:JE X E a (wpE T a'))(hs:starEach [a] X.env=[(false,eval a X.env)]):JI X E tg (.Call (.Name "range" p) [a] [] pos) (wpI T (.irg (.cons a' .nil))):=λF =>
 (wT hg hm (dY (ha F) jN hs) hs).imp<|by
   rintro Y H R ⟨Y',Z,G,R',rs,S,h,kr⟩;rw[wpI,wpL,wpL] at h;refine⟨Y',Z,G,_,rs,S,h,λx v Z1 G1 H1 s1 S1 r1 q1=>?_⟩;rcases q1 with ⟨j,e,h1,h2,q⟩|⟨i,j,e,_⟩
   . cases e;exact⟨j,by rw[show v= .int j from r1],h1,h2,kr _ _ _ _ _ _ s1 S1 DX q⟩
   . cases e
def RH(hg:Gl X "range")(hm:X.mg "range"=none)(ha:JE X E a (wpE T a'))(hs:starEach [a] X.env=[(false,eval a X.env)]):∀F,PI X tg (.Call (.Name "range" p) [a] [] pos) (rgI (AU E F (wpI T (.irg (.cons a' .nil))))):=λF =>
 (wT hg hm (dY (ha F) jN hs) hs).imp<|by
   rintro Y H R ⟨Y',Z,G,R',rs,S,h,kr⟩;rw[wpI,wpL,wpL] at h;refine⟨Y',Z,G,_,rs,S,h,λx v Z1 G1 H1 s1 S1 r1 q1=>?_⟩;rcases q1 with ⟨j,e,h1,h2,q⟩|⟨i,j,e,_⟩
   . cases e;exact⟨j,by rw[show v= .int j from r1],h1,h2,kr _ _ _ _ _ _ s1 S1 DX q rfl⟩
   . cases e
def VR(hg:Gl X "range")(hm:X.mg "range"=none)(ha:JE X E a (wpE T a'))(hb:JE X E b (wpE T b'))(hs:starEach [a,b] X.env=[(false,eval a X.env),(false,eval b X.env)])(hs2:starEach [b] X.env=[(false,eval b X.env)]) :
   JI X E tg (.Call (.Name "range" p) [a,b] [] pos) (wpI T (.irg (.cons a' (.cons b' .nil)))):=λF =>
 (JC hg hm (dY (ha F) (dY (hb F) jN hs2) (by rw[hs,hs2])) hs hs2).imp<|by
   rintro Y H R ⟨Y',Z,G,R',rs,S,h,kr⟩;rw[wpI,wpL,wpL,wpL] at h;refine⟨Y',Z,G,_,rs,S,h,λx v Z1 G1 H1 s1 S1 r1 q1=>⟨Y',Z1,G1,_,rs.mono s1,S1,q1,λy u Z2 G2 H2 s2 S2 r2 q2=>?_⟩⟩;rcases q2 with ⟨j,e,h1,h2,q⟩|⟨i,j,e,hb,q⟩
   . cases e
   . cases e;exact⟨i,j,by rw[show v= .int i from r1,show u= .int j from r2],hb,kr _ _ _ _ _ _ (s1.trans s2) S2 DX q⟩
def aCu(P:Pl X E T k)(hg:Gl X "enumerate")(hm:X.mg "enumerate"=none)(ha:JE X E a (wpE T a'))(hs:starEach [a] X.env=[(false,eval a X.env)]):JI X E (.Tuple es x1 tp) (.Call (.Name "enumerate" p) [a] [] pos) (wpI T (.ien a')):=λF =>
 (YU hg hm (dY (ha F) jN hs) hs).imp<|by
   rintro Y H R ⟨Y',Z,G,R',rs,S,h,kr⟩;rw[wpI] at h;refine⟨Y',Z,G,_,rs,S,h,λx v Z1 G1 H1 s1 S1 r1 zz=>?_⟩;obtain⟨xs,e,q1⟩:=zz;subst e;obtain⟨a,vs,e,ha,t⟩:=r1;exact⟨a,by rw[e],⟨vs,P.hK▸bF S1.z ha⟩,P.hK▸kr _ _ _ _ _ _ s1 S1 (aBl ha t) q1⟩
def XH(P:Pl X E T k)(hg:Gl X "enumerate")(hm:X.mg "enumerate"=none)(ha:JE X E a (wpE T a'))(hs:starEach [a] X.env=[(false,eval a X.env)]):JI X E (.Tuple es x1 tp) (.Call (.Name "enumerate" p) [a] [] pos) (wpI T (.iel a')):=λF =>
 (NH hg hm (dY (ha F) jN hs) hs).imp<|by
   rintro Y H R ⟨Y',Z,G,R',rs,S,h,kr⟩;rw[wpI] at h;refine⟨Y',Z,G,_,rs,S,h,λx v Z1 G1 H1 s1 S1 r1 zz=>?_⟩;obtain⟨xs,e,q1⟩:=zz;subst e;obtain⟨a,vs,e,ha,t⟩:=r1;exact⟨a,by rw[e],⟨vs,S1.z _ _ ha⟩,P.hK▸kr _ _ _ _ _ _ s1 S1 (XV ha t) q1⟩
def rM(E:Ev)(Z:Hp)(b:Bool)(l:Addr)(us:List V):Prop:=if b=true then SqT E.K Z l us else Z l=some (.lst us)
def rM.mono{Z Z':Hp}{b:Bool}{l:Addr}{us:List V}(s:aP Z Z')(h:rM E Z b l us):rM E Z' b l us:=by
 unfold rM at *;split
 . rename_i e;rw[ja e] at h;exact bF s h
 . rename_i e;rw[j9 e] at h;exact s _ _ h
def rM.at_{b:Bool}{l:Addr}(h:rM E Z b l us):pT E.K Z b l us:=by
 unfold rM at h;unfold pT;split
 . rename_i e;rw[ja e] at h;exact h
 . rename_i e;rw[j9 e] at h;exact SqL.of h
theorem HA:∀{xs:List PV} {vs:List V} {yss:List (List PV)},RPs E Z xs vs->xs.map SY=yss.map some->∃(ls:List (Bool×Addr)) (xss:List (List V)),vs=ls.map (λp=>V.ref p.2)/\ls.length=yss.length/\xss.length=yss.length/\
   (∀(j:Nat) (p:Bool×Addr) (us:List V),ls[j]? =some p->xss[j]? =some us->rM E Z p.1 p.2 us)/\∀(j:Nat) (ys:List PV) (us:List V),yss[j]? =some ys->xss[j]? =some us->RPs E Z ys us
 | [],vs,yss,r,h=>by
   have e:vs=[]:=r;subst e;cases yss with
   | nil=>exact⟨[],[],rfl,rfl,rfl,(λj p us h _=>by simp at h),λj ys us h _=>by simp at h⟩
   | cons a b=>cases h
 | x::xs,vs,yss,r,h=>by
   obtain⟨v,vr,e,rx,rr⟩:=r;subst e;cases yss with
   | nil=>cases h
   | cons ys yss =>
     rw[List.map_cons,List.map_cons] at h;injection h with h1 h2;obtain⟨ls,xss,e,l1,l2,ha,hb⟩:=HA rr h2;have key:∃(p:Bool×Addr) (us:List V),v= .ref p.2/\rM E Z p.1 p.2 us/\RPs E Z ys us:=by
       unfold SY at h1;split at h1
       . have e:=Option.some.inj h1;subst e;obtain⟨a,us,e,q,t⟩:=rx;exact⟨(true,a),us,e,by unfold rM;rw[ja rfl];exact q,t⟩
       . have e:=Option.some.inj h1;subst e;obtain⟨a,us,e,q,t⟩:=rx;exact⟨(false,a),us,e,by unfold rM;rw[j9 Bool.false_ne_true];exact q,t⟩
       . cases h1
     obtain⟨p,us,ev,k1,k2⟩:=key;refine⟨p::ls,us::xss,by rw[ev,e];rfl,by simp[l1],by simp[l2],λj q ws hq hw=>?_,λj zs ws hq hw=>?_⟩
     . cases j with
       | zero=>cases hq;cases hw;exact k1
       | succ j=>exact ha j q ws hq hw
     . cases j with
       | zero=>cases hq;cases hw;exact k2
       | succ j=>exact hb j zs ws hq hw
theorem RM:∀{yss:List (List PV)} {xss:List (List V)},xss.length=yss.length->(∀(j:Nat) (ys:List PV) (us:List V),yss[j]? =some ys->xss[j]? =some us->RPs E Z ys us)->(∀ys∈yss,i<ys.length)->
   ∃vs,vs.length=xss.length/\(∀(j:Nat) (us:List V),xss[j]? =some us->us[i]? =vs[j]?)/\RPs E Z (yss.map λys=>ys.getD i .non) vs
 | [],xss,l,_,_=>by
   have e:xss=[]:=List.length_eq_zero_iff.mp l;subst e;exact⟨[],rfl,(λj us h=>by simp at h),rfl⟩
 | ys::yss,[],l,_,_=>by cases l
 | ys::yss,us::xss,l,h,hi=>by
   obtain⟨vs,a,b,c⟩:=RM (yss:=yss) (xss:=xss) (by simpa using l) (λj zs ws=>h (j+1) zs ws) λzs hz=>hi zs (wCq _ hz);have hy:=hi ys (wDq ..);have ey:ys[i]? =some (ys.getD i .non):=by rw[List.getD_eq_getElem?_getD,wHq hy];rfl
   obtain⟨v,ev,rv⟩:=(h 0 ys us rfl rfl).get ey;refine⟨v::vs,by simp[a],λj ws hw=>?_,v,vs,rfl,rv,c⟩;cases j with
   | zero=>cases hw;exact ev
   | succ j=>exact b j ws hw
def aB7{rs:List LZ.Zr}{ls:List (Bool×Addr)}{xss:List (List V)}{yss:List (List PV)}(er:rs.map (λr=>(r.b,r.l))=ls)(l1:ls.length=yss.length)(l2:xss.length=yss.length)(hne:yss≠[])
   (ha:∀(j:Nat) (p:Bool×Addr) (us:List V),ls[j]? =some p->xss[j]? =some us->rM E Z p.1 p.2 us) (hb:∀(j:Nat) (ys:List PV) (us:List V),yss[j]? =some ys->xss[j]? =some us->RPs E Z ys us) (hn:(∀ys∈yss,ys.length=n)∨∃a b,yss=[a,b]/\b.length=n/\n<a.length) :
   pC E (Itz E.K rs) Z (λ_=>True) (yS n yss):=by
 intro F i Z1 G1 H1 s1 S1 _;have lr:rs.length=yss.length:=by rw[<-l1,<-er,List.length_map]
 have RA:uA E.K H1 rs xss:=by
   refine⟨by omega,λj r us hr hu=>?_⟩;have hp:ls[j]? =some (r.b,r.l):=by rw[<-er,List.getElem?_map,hr];rfl
   exact(((ha j _ us hp hu).mono s1).mono S1.z).at_
 have hl:(yS n yss).length=n:=by unfold yS;rw[List.length_map,List.length_range]
 refine⟨λx ex=>?_,λe=>?_⟩
 . have hi:i<n:=by have:=(List.getElem?_eq_some_iff.mp ex).1;rw[hl] at this;exact this
   have ex':x= .tup (yss.map λys=>ys.getD i .non):=by
     unfold yS at ex;rw[List.getElem?_map,List.getElem?_range hi] at ex;exact(Option.some.inj ex).symm
   obtain⟨vs,a,b,c⟩:=RM (i:=i) l2 (λj ys us h1 h2=>(hb j ys us h1 h2).mono s1) λys hy=>by
     rcases hn with hn|⟨u,v,rfl,h1,h2⟩
     . rw[hn ys hy];exact hi
     . simp only[List.mem_cons,List.not_mem_nil,or_false] at hy;rcases hy with rfl|rfl<;>omega
   refine⟨⟨xss,vs,RA,by omega,b⟩,λw H2 ⟨p,ws,e,nn,e2,wl,y'⟩=>?_⟩;subst e e2;have ew:ws=vs:=by
     refine List.ext_getElem? λj=>?_;by_cases hj:j<xss.length
     . have e:=wHq hj;rw[<-y' xss RA j _ e,<-b j _ e]
     . rw[List.getElem?_eq_none ooq,List.getElem?_eq_none ooq]
   subst ew;refine⟨upd Z1 p (.tup ws),aV (S1.zn nn) _,S1.fz nn,?_⟩;rw[ex'];exact fI (S1.zn nn) c
 . rw[hl] at e;rcases hn with hn|⟨u,v,rfl,h1,h2⟩
   . cases xss with
     | nil=>exact absurd (List.length_eq_zero_iff.mp l2.symm) hne
     | cons us t =>
       refine .inl ⟨us,t,RA,?_⟩;cases yss with
       | nil=>exact absurd rfl hne
       | cons ys yt=>rw[e,<-hn ys (wDq ..),(hb 0 ys us rfl rfl).length];exact Nat.le_refl _
   . match xss,l2,RA,hb with
     | [us,ws],_,RA,hb =>
       have q1:=(hb 0 u us rfl rfl).length;have q2:=(hb 1 v ws rfl rfl).length;exact .inr ⟨us,ws,[],RA,by omega,by omega⟩
def aBx(P:Pl X E T k)(hg:Gl X "zip")(hm:X.mg "zip"=none)(ha:JA X E (e::es) (wpL T es'))(hs:starEach (e::es) X.env=(false,eval e X.env)::starEach es X.env)(hpl:(backTo pos (starEach es X.env)).any (·.1)=false) :
   JI X E (.Tuple es0 x1 tp) (.Call (.Name "zip" p) (e::es) [] pos) (wpI T (.izp es')):=λF =>
 (aBs hg hm (ha F) hs hpl).imp<|by
   rintro Y H R ⟨Y',Z,G,R',rs,S,h,kr⟩;rw[wpI] at h;refine⟨Y',Z,G,_,rs,S,h,λxs vs Z1 G1 H1 l0 s1 S1 r1 zz=>?_⟩;obtain⟨hl,n,yss,er,hn,q1⟩:=zz;obtain⟨ls,xss,e,l1,l2,hA,hB⟩:=HA r1 er;have ly:yss.length=xs.length:=by have:=congrArg List.length er;simpa using this.symm
   refine⟨ls,e,by omega,⟨xss,by omega,λj p us h1 h2=>P.hK▸((hA j p us h1 h2).mono S1.z).at_⟩,λzs ez=>P.hK▸kr _ _ _ _ _ _ s1 S1 (aB7 ez l1 l2 (by intro z;rw[z] at ly;simp at ly;omega) hA hB hn) q1⟩
def aCh(P:Pl X E T k)(h40:40<=k)(hp:PassesOwn (model X.prog X.w) X.A X.env X.xe)(hi:JI X E tg j3 (wpI T i'))(hg:JG X E tg (wpG T g'))(hb:JSs X E body (wpS T b'))
   (hs:∀x,foldedSetIterable j3 X.env x=pure x):JS X E (.For tg j3 body [] pos) (wpS T (.fr g' i' b')):=λF =>
 (aAT hp (P.calm h40) (hi F) (hg F) (hb F) hs).imp<|by
   rintro D Y H ⟨Y',Z,G,D',rs,S,h,kd⟩;rw[wpS] at h;refine⟨Y',Z,G,_,rs,S,h,λJ chk xs Z1 G1 H1 s1 S1 ok q=>?_⟩;refine⟨λi m Y H=>m=xs.length-i/\i<=xs.length/\∃Y' Z2 G2,aP Z1 Z2/\Sim E F H Z2 G2/\RSt E Z2 Y' Y/\gE chk (wpG T g') (wpS T b') D' (xs.drop i) Y' G2,⟨xs.length,by simp,Nat.zero_le _,Y',Z1,G1,aP.refl _,S1,rs.mono s1,q⟩,?_⟩;rintro i m Y2 H2 ⟨rfl,hi,Y3,Z2,G2,s2,S2,rs2,q2⟩;have sz:=s1.trans s2;by_cases hlt:i<xs.length
   . have hd:xs.drop i=xs[i]::xs.drop (i+1):=List.drop_eq_getElem_cons hlt;rw[hd] at q2;unfold gE at q2;obtain⟨c2,q2⟩:=q2;obtain⟨go,yl⟩:=(ok F i Z2 G2 H2 s2 S2 c2).1 xs[i] (by simp[hlt]);refine .inr ⟨go,λY4 H4=>∃Y5 Z4 G4,aP Z2 Z4/\Sim E F H4 Z4 G4/\RSt E Z4 Y5 Y4/\gE chk (wpG T g') (wpS T b') D' (xs.drop (i+1)) Y5 G4,by rintro Y4 H4 ⟨Y5,Z4,G4,s4,S4,rs4,q4⟩;exact⟨xs.length-(i+1),by omega,rfl,hlt,Y5,Z4,G4,s2.trans s4,S4,rs4,q4⟩,λv H3 y=>?_⟩;obtain⟨Z3,s3,S3,r3⟩:=yl v H3 y;refine⟨xs[i],Y3,Z3,G2,_,r3,rs2.mono s3,S3,q2,λY6 Y7 Z5 G5 H5 s5 S5 rs5 q5=>⟨Y6,Z5,G5,_,rs5,S5,q5,?_⟩⟩;have s35:=s3.trans s5;exact⟨λY8 Y9 Z6 G6 H6 s6 S6 rs6 q6=>⟨Y8,Z6,G6,s35.trans s6,S6,rs6,q6⟩,kd.rt.mono (sz.trans s35),kd.nx.mono (sz.trans s35),λY8 Y9 Z6 G6 H6 s6 S6 rs6 q6=>⟨Y8,Z6,G6,s35.trans s6,S6,rs6,q6⟩⟩
   . have e:i=xs.length:=by omega
     rw[e,List.drop_length] at q2;unfold gE at q2;obtain⟨c2,q2⟩:=q2;exact .inl ⟨(ok F i Z2 G2 H2 s2 S2 c2).2 e,kd.nx _ _ _ _ _ sz S2 rs2 q2⟩
def aAb(hp:PassesOwn (model X.prog X.w) X.A X.env X.xe)(hc:JT X E c (wpT T c'))(hb:JSs X E body (wpS T b')):JS X E (.While c body [] pos) (wpS T (.wh c' b')):=λF =>
 (SQ hp (hc F) (hb F)).imp<|by
   rintro D Y H ⟨Y',Z,G,D',rs,S,h,kd⟩;rw[wpS] at h;obtain⟨W,⟨m0,w0⟩,turn⟩:=h;refine⟨λm Y H=>∃Y' Z2 G2,aP Z Z2/\Sim E F H Z2 G2/\RSt E Z2 Y' Y/\W m Y' G2,⟨m0,Y',Z,G,aP.refl _,S,rs,w0⟩,?_⟩;rintro m Y2 H2 ⟨Y3,Z2,G2,s2,S2,rs2,w2⟩;refine⟨Y3,Z2,G2,_,rs2,S2,turn m Y3 G2 w2,λd Z3 G3 H3 s3 S3 q3=>?_⟩;have s23:=s2.trans s3;dsimp only;cases d with
   | true =>
     rw[ja rfl] at q3 ⊢;refine⟨λY4 H4=>∃Y5 Z4 G4 m',m'<m/\aP Z Z4/\Sim E F H4 Z4 G4/\RSt E Z4 Y5 Y4/\W m' Y5 G4,by rintro Y4 H4 ⟨Y5,Z4,G4,m',lt,s4,S4,rs4,w4⟩;exact⟨m',lt,Y5,Z4,G4,s4,S4,rs4,w4⟩,Y3,Z3,G3,_,rs2.mono s3,S3,q3,?_⟩;exact⟨by rintro Y8 Y9 Z6 G6 H6 s6 S6 rs6 ⟨m',lt,w6⟩;exact⟨Y8,Z6,G6,m',lt,s23.trans s6,S6,rs6,w6⟩,kd.rt.mono s23,kd.nx.mono s23,by rintro Y8 Y9 Z6 G6 H6 s6 S6 rs6 ⟨m',lt,w6⟩;exact⟨Y8,Z6,G6,m',lt,s23.trans s6,S6,rs6,w6⟩⟩
   | false =>
     rw[j9 Bool.false_ne_true] at q3 ⊢;exact kd.nx _ _ _ _ _ s23 S3 (rs2.mono s3) q3
def aBO{st:Stmt}{j4:List Stmt}{a' b':CS}(h1:JS X E st (wpS T a'))(h2:JSs X E j4 (wpS T b')):JSs X E (st::j4) (wpS T (.seq a' b')):=λF =>
 PSs.imp (SS (h1 F) (h2 F))<|by
   rintro D Y H ⟨Y',Z,G,D',rs,S,h,kd⟩;rw[wpS] at h;exact⟨Y',Z,G,_,rs,S,h,⟨λY1 Y2 Z1 G1 H1 s1 S1 rs1 q1=>⟨Y1,Z1,G1,D',rs1,S1,q1,kd.mono s1⟩,kd.rt,kd.bk,kd.ct⟩⟩
def aCc{st:Stmt}(h1:JS X E st (wpS T a')):JSs X E [st] (wpS T a'):=λF=>WT (h1 F)
def aBd:JSs X E [] (wpS T .nil):=λF=>PSs.imp XJ<|by
 rintro D Y H ⟨Y',Z,G,D',rs,S,h,kd⟩;rw[wpS] at h;exact kd.nx _ _ _ _ _ (aP.refl Z) S rs h
def YA:JS X E (.Pass pos) (wpS T .nil):=λF=>XX.imp<|by
 rintro D Y H ⟨Y',Z,G,D',rs,S,h,kd⟩;rw[wpS] at h;exact kd.nx _ _ _ _ _ (aP.refl Z) S rs h
def aBM:JS X E (.Expr (.Constant (.str x) j pos) pos') (wpS T .nil):=λF=>aAN.imp<|by
 rintro D Y H ⟨Y',Z,G,D',rs,S,h,kd⟩;rw[wpS] at h;exact kd.nx _ _ _ _ _ (aP.refl Z) S rs h
def aFd(he:JE X E e (wpE T e'))(hs:swapsWith e none pos.line X.env=pure false):JS X E (.Expr e pos) (wpS T (.ex e')):=λF =>
 (WQ (he F) hs).imp<|by
   rintro D Y H ⟨Y',Z,G,D',rs,S,h,kd⟩;rw[wpS] at h;exact⟨Y',Z,G,_,rs,S,h,λx v Z1 G1 H1 s1 S1 r1 q1=>kd.nx _ _ _ _ _ s1 S1 (rs.mono s1) q1⟩
def aAz(he:JE X E e (wpE T e')):JS X E (.Return (some e) pos) (wpS T (.ret e')):=λF =>
 (aBB (he F)).imp<|by
   rintro D Y H ⟨Y',Z,G,D',rs,S,h,kd⟩;rw[wpS] at h;exact⟨Y',Z,G,_,rs,S,h,kd.rt⟩
def VW:JS X E (.Return none pos) (wpS T .retN):=λF=>WY.imp<|by
 rintro D Y H ⟨Y',Z,G,D',rs,S,h,kd⟩;rw[wpS] at h;exact kd.rt _ _ _ _ _ (aP.refl Z) S oK h
def aAQ{st:Stmt}:JS X E st (wpS T .nev):=λF=>RW.imp<|by
 rintro D Y H ⟨Y',Z,G,D',rs,S,h,kd⟩;rw[wpS] at h;exact h
def VP:JSs X E sts (wpS T .nev):=λF=>PSs.imp IW<|by
 rintro D Y H ⟨Y',Z,G,D',rs,S,h,kd⟩;rw[wpS] at h;exact h
def aDh(hc:JT X E c (wpT T c'))(ha:JSs X E x (wpS T a'))(hb:JSs X E y (wpS T b')):JS X E (.If c x y pos) (wpS T (.iff c' a' b')):=λF =>
 (aFg (hc F) (ha F) (hb F)).imp<|by
   rintro D Y H ⟨Y',Z,G,D',rs,S,h,kd⟩;rw[wpS] at h;refine⟨Y',Z,G,_,rs,S,h,λd Z1 G1 H1 s1 S1 q=>?_⟩;cases d with
   | true=>rw[ja rfl] at q ⊢;exact⟨Y',Z1,G1,D',rs.mono s1,S1,q,kd.mono s1⟩
   | false=>rw[j9 Bool.false_ne_true] at q ⊢;exact⟨Y',Z1,G1,D',rs.mono s1,S1,q,kd.mono s1⟩
def UI(h:aCy E F (wpS T (.asg g' e')) D Y H):JQ (low E F (wpE T e')) (RF E F (wpG T g')) D Y H:=by
 obtain⟨Y',Z,G,D',rs,S,h,kd⟩:=h;rw[wpS] at h;exact⟨Y',Z,G,_,rs,S,h,λx v Z1 G1 H1 s1 S1 r1 q1=>⟨x,Y',Z1,G1,_,r1,rs.mono s1,S1,q1,kd.nx.mono s1⟩⟩
def uL(he:JE X E e (wpE T e'))(hg:JG X E tg (wpG T g'))(hs:swapsWithSole [tg] e pos.line X.env=pure false)(hw:swappedStores [tg] e X.env=pure none)(h1:(assignEach [tg] X.env).map (·.2)=[assign tg X.env]) :
   JS X E (.Assign [tg] e pos) (wpS T (.asg g' e')):=λF=>(NL (he F) (hg F) hs hw h1).imp λD Y H h=>UI h
def aBC(P:Pl X E T k)(h40:40<=k)(hN:X.N.Nodup)(hi:X.N[i]? =some x)(hj:X.N[j]? =some y)(hij:i≠j)(hx:X.env.scope.names.lookup x=some .local)(hy:X.env.scope.names.lookup y=some .local)
   (ha:JE X E a (wpE T a')) (hb:JE X E b (wpE T b')) (s1:starEach [a,b] X.env=(false,eval a X.env)::starEach [b] X.env) (s2:starEach [b] X.env=(false,eval b X.env)::starEach [] X.env)
   (hw:swappedStores [.Tuple [.Name x px,.Name y py] kt pt] (.Tuple [a,b] k2 pt2) X.env=pure (some [x,y])) (hs:swapsWithSole [.Tuple [.Name x px,.Name y py] kt pt] (.Tuple [a,b] k2 pt2) pos.line X.env=pure false) :
   JS X E (.Assign [.Tuple [.Name x px,.Name y py] kt pt] (.Tuple [a,b] k2 pt2) pos) (wpS T (.par i j a' b')):=λF =>
 (aBV (P.calm h40) hN hi hj hij hx hy (dY (ha F) (dY (hb F) jN s2) s1) hw hs).imp<|by
   rintro D Y H ⟨Y',Z,G,D',rs,S,h,kd⟩;rw[wpS] at h;refine⟨Y',Z,G,_,rs,S,h,λx v Z1 G1 H1 s1 S1 r1 q1=>⟨Y',Z1,G1,_,rs.mono s1,S1,q1,λy u Z2 G2 H2 s2 S2 r2 q2=>?_⟩⟩;exact⟨v,u,rfl,kd.nx _ _ _ _ _ (s1.trans s2) S2 ((((rs.mono s1).mono s2).set (r1.mono s2) i).set r2 j) q2⟩
def aA6(he:JE X E e (wpE T e'))(ho:JE X E o (wpE T o'))(hi:JE X E i (wpE T i'))
   (ha:∀v,assign (.Subscript o i pos') X.env v=(do
     let ov <-holding [v] (eval o X.env)
     let iv <-holding [v,ov] (eval i X.env)
     standAt pos'
     holding [v,ov,iv] (setItem ov iv v)
     release [v,ov,iv] []))
   (hs:swapsWithSole [.Subscript o i pos'] e pos.line X.env=pure false) (hw:swappedStores [.Subscript o i pos'] e X.env=pure none):JS X E (.Assign [.Subscript o i pos'] e pos) (wpS T (.sub o' i' e')):=λF =>
 (NL (he F) (aCX (ho F) (hi F) (HH (E:=E) (F:=F)) ha) hs hw rfl).imp<|by
   rintro D Y H ⟨Y',Z,G,D',rs,S,h,kd⟩;rw[wpS] at h;refine⟨Y',Z,G,_,rs,S,h,λv v' Z1 G1 H1 s1 S1 r1 q1=>⟨Y',Z1,G1,_,rs.mono s1,S1,q1,λx x' Z2 G2 H2 s2 S2 r2 q2=>⟨Y',Z2,G2,_,(rs.mono s1).mono s2,S2,q2,λy y' Z3 G3 H3 s3 S3 r3 q3=>?_⟩⟩⟩;have s13:=(s1.trans s2).trans s3;exact⟨x,y,v,Z3,G3,_,r2.mono s3,r3,(r1.mono s2).mono s3,S3,q3,λG4 H4 S4 q4=>kd.nx _ _ _ _ _ s13 S4 (rs.mono s13) q4⟩
theorem BB(f:Str)(v:V):∀(ns:List Str) (vs:List V),ns.length=vs.length->iX f v (ns.zip vs)=(GA f ns).zip (sG f v ns vs)/\(GA f ns).length=(sG f v ns vs).length
 | [],[],_=>⟨rfl,rfl⟩
 | [],_::_,h=>by cases h
 | _::_,[],h=>by cases h
 | n::ns,u::us,h=>by
   obtain⟨a,b⟩:=BB f v ns us (by simpa using h);rw[List.zip_cons_cons];unfold iX GA sG;split
   . exact⟨by rw[List.zip_cons_cons],by simpa using h⟩
   . exact⟨by rw[List.zip_cons_cons,a],by simpa using b⟩
theorem IA(r:RP E Z y u):∀{ns:List Str} {xs:List PV} {vs:List V},RPs E Z xs vs->RPs E Z (sG f y ns xs) (sG f u ns vs)
 | [],_,_,_=>⟨u,[],rfl,r,rfl⟩
 | _::_,[],_,h=>by cases h;exact rfl
 | n::ns,x::xs,_,⟨v,t,e,r1,r2⟩=>by
   subst e;unfold sG;split
   . exact⟨u,t,rfl,r,r2⟩
   . exact⟨v,_,rfl,r1,IA r r2⟩
def aB3(P:Pl X E T k)(ho:JE X E o (wpE T o'))(he:JE X E e (wpE T e'))(hs:swapsWith e (some (.Attribute o f pos')) pos.line X.env=pure false):JS X E (.Assign [.Attribute o f pos'] e pos) (wpS T (.fld o' f e')):=λF =>
 (aA9 (ho F) (he F) hs).imp<|by
   rintro D Y H ⟨Y',Z,G,D',rs,S,h,kd⟩;rw[wpS] at h;refine⟨Y',Z,G,_,rs,S,h,λv v' Z1 G1 H1 s1 S1 r1 q1=>⟨Y',Z1,G1,_,rs.mono s1,S1,q1,λx x' Z2 G2 H2 s2 S2 r2 zz=>?_⟩⟩;obtain⟨p,c,ns,xs,e,hG,hf,hl,q2⟩:=zz;subst e;have e:x'= .ref p:=r2;subst e;obtain⟨_,o',hp,dx,vs,e',l,t⟩:=S2.g _ _ hG;subst e';obtain⟨h1,h2⟩:=P.fld c f hf;obtain⟨e1,e2⟩:=BB f v' ns vs l;refine⟨p,_,dx,_,rfl,hp,h1,h2,by rw[List.length_zip,<-l,Nat.min_self];exact hl,kd.nx _ _ _ _ _ (s1.trans s2) (S2.set (go:=.ins c (GA f ns) (sG f v ns xs)) hG ⟨dx,sG f v' ns vs,by rw[e1],e2,IA (r1.mono s2) t⟩) ((rs.mono s1).mono s2) q2⟩
def aC0(hN:X.N.Nodup)(hi:X.N[i]? =some x)(hx:Loc X.env.scope x)(hf:X.fn x=true∨X.env.scope.names.lookup x=some .local)(he:JE X E e (wpE T e')):JS X E (.AugAssign (.Name x pos') .Add e pos) (wpS T (.aug i e')):=λF =>
 (aBS hN hi hx (he F) NP hf).imp<|by
   rintro D Y H ⟨Y',Z,G,D',rs,S,h,kd⟩;rw[wpS] at h;obtain⟨a,ea,h⟩:=h;obtain⟨v,e1,r⟩:=rs.get ea;have r:v= .int a:=r;subst r;refine⟨_,e1,Y',Z,G,_,rs,S,h,λy y' Z1 G1 H1 s1 S1 r1 zz=>?_⟩;obtain⟨b,e,q⟩:=zz;subst e;have e:y'= .int b:=r1;subst e;exact⟨a,b,rfl,rfl,kd.nx _ _ _ _ _ s1 S1 ((rs.mono s1).set aT i) q⟩
def aCI(ho:JE X E o (wpE T o'))(hi:JE X E i (wpE T i'))(he:JE X E e (wpE T e'))(ha:∀ov iv new,augStore i ov iv new=(do holding [new,ov,iv] (setItem ov iv new);release [new,ov,iv] [];pure .next)):JS X E (.AugAssign (.Subscript o i pos') .Add e pos) (wpS T (.ags o' i' e')):=λF =>
 (WR (ho F) (hi F) QE (he F) NP (HH (E:=E) (F:=F)) ha).imp<|by
   rintro D Y H ⟨Y',Z,G,D',rs,S,h,kd⟩;rw[wpS] at h;refine⟨Y',Z,G,_,rs,S,h,λx x' Z1 G1 H1 s1 S1 r1 q1=>⟨Y',Z1,G1,_,rs.mono s1,S1,q1,λy y' Z2 G2 H2 s2 S2 r2 zz=>?_⟩⟩;obtain⟨p,xs,k,a,e1,e2,hG,hx,q2⟩:=zz;subst e1 e2;have e1:x'= .ref p:=r1;have e2:y'= .int k:=r2;subst e1 e2;obtain⟨_,o',hp,vs,e',t⟩:=S2.g _ _ hG;subst e';obtain⟨w,hw,rw'⟩:=FY t hx;have ew:w= .int a:=rw';subst ew;refine⟨p,vs,k,_,rfl,rfl,hp,hw,Y',Z2,G2,_,(rs.mono s1).mono s2,S2,q2,λz z' Z3 G3 H3 s3 S3 r3 zz=>?_⟩;obtain⟨b,e,q3⟩:=zz;subst e;have e:z'= .int b:=r3;subst e;have s13:=(s1.trans s2).trans s3;exact⟨a,b,rfl,rfl,.ref p,.int k,.int (a+b),Z3,G3,_,rfl,rfl,aT,S3,q3,λG4 H4 S4 q4=>kd.nx _ _ _ _ _ s13 S4 (rs.mono s13) q4⟩
end
section
variable{X:Cx}{E:Ev}{T:Tb}{k:Nat}{pos:Pos}{a b c e:Expr}
def RN(rs:RSt E Z Y' Y):RSt E Z (gD js Y') (AI js Y):=by
 induction js with
 | nil=>exact .nil
 | cons o r ih =>
   refine .cons ?_ ih;cases o with
   | none=>exact trivial
   | some j =>
     show RSl E Z ((Y'[j]?).getD none) ((Y[j]?).getD none);cases e:Y'[j]? with
     | none=>exact trivial
     | some u =>
       cases u with
       | none=>exact trivial
       | some x =>
         obtain⟨v,e',r⟩:=rs.get e;rw[e'];exact⟨v,rfl,r⟩
def aA7(E:Ev)(t:PTE):TE:=λY H Q=>∃F,low E F t Y H Q
def VM(E:Ev)(t:PTT):TT:=λY H Q=>∃F,rG E F t Y H Q
def aB5(E:Ev)(t:PTG):TG:=λv Y H Q=>∃F,RF E F t v Y H Q
def JE.any(h:JE X E e t):PE X e (aA7 E t):=by rintro j0 s Y H Q I ⟨F,q⟩;exact h F j0 s Y H Q I q
def JT.any(h:JT X E e t):PT X e (VM E t):=by rintro j0 s Y H Q I ⟨F,q⟩;exact h F j0 s Y H Q I q
def JG.any(h:JG X E e t):PG X e (aB5 E t):=by rintro j0 s Y H v u Q I r ⟨F,q⟩;exact h F j0 s Y H v u Q I r q
def NK
   (S1:Sim E F H1 Z1 G1) (ok:pC E J Z1 chk xs) (rs:RSt E Z1 Y' Y) (hz:xs.length<=sizeLine) (n:H1 D=none) (q:cL chk g' ts' te' xs [] Y' G1 λys G2=>lO m G2 ys Q') (kq:Kq E F Z1 Q' Q) :
   HN J D (aB5 E g') (VM E ts') (aA7 E te') Q Y (upd H1 D (.lst [])):=by
 have fD:F D=none:=S1.fn n;refine⟨λi m' Y H=>m'=xs.length-i/\i<=xs.length/\∃Y' Z2 G2 acc vs,aP Z1 Z2/\Sim E (upd F D (.lst vs)) H Z2 G2/\RPs E Z2 acc vs/\RSt E Z2 Y' Y/\acc.length<=i/\cL chk g' ts' te' (xs.drop i) acc Y' G2 λys G2=>lO m G2 ys Q',
   ⟨xs.length,by simp,Nat.zero_le _,Y',Z1,G1,[],[],aP.refl _,S1.mine n,rfl,rs,Nat.le_refl _,q⟩,?_⟩
 rintro i m' Y2 H2 ⟨rfl,hi,Y3,Z2,G2,acc,vs,s2,S2,ra,rs2,la,q2⟩;by_cases hlt:i<xs.length
 . have hd:xs.drop i=xs[i]::xs.drop (i+1):=List.drop_eq_getElem_cons hlt;rw[hd] at q2;unfold cL at q2;obtain⟨c2,q2⟩:=q2;obtain⟨go,yl⟩:=(ok _ i Z2 G2 H2 s2 S2 c2).1 xs[i] (by simp[hlt]);refine .inr ⟨go,λY4 H4=>∃Y5 Z4 G4 acc4 vs4,aP Z1 Z4/\Sim E (upd F D (.lst vs4)) H4 Z4 G4/\RPs E Z4 acc4 vs4/\RSt E Z4 Y5 Y4/\acc4.length<=i+1/\cL chk g' ts' te' (xs.drop (i+1)) acc4 Y5 G4 λys G2=>lO m G2 ys Q',
     by rintro Y4 H4 ⟨Y5,Z4,G4,acc4,vs4,s4,S4,ra4,rs4,l4,q4⟩;exact⟨xs.length-(i+1),by omega,rfl,hlt,Y5,Z4,G4,acc4,vs4,s4,S4,ra4,rs4,l4,q4⟩,λv H3 y=>?_⟩
   obtain⟨Z3,s3,S3,r3⟩:=yl v H3 y;refine⟨_,xs[i],Y3,Z3,G2,_,r3,rs2.mono s3,S3,q2,λY6 Y7 Z5 G5 H5 s5 S5 rs5 q5=>⟨_,Y6,Z5,G5,_,rs5,S5,q5,λok' Z6 G6 H6 s6 S6 q6=>?_⟩⟩;have s26:=(s3.trans s5).trans s6;dsimp only;cases ok' with
   | true =>
     rw[ja rfl] at q6 ⊢;refine⟨_,Y6,Z6,G6,_,rs5.mono s6,S6,q6,λy' u Z7 G7 H7 s7 S7 r7 q7=>?_⟩;refine⟨vs,(S7.f D _ aS).1,?_,?_⟩
     . have:=ra.length;omega
     . have s27:=s26.trans s7;exact⟨Y6,Z7,G7,acc++[y'],vs++[u],s2.trans s27,S7.turn (S1.f0n n),(ra.mono s27).append ⟨u,[],rfl,r7,rfl⟩,(rs5.mono s6).mono s7,by rw[List.length_append];exact Nat.succ_le_succ la,q7⟩
   | false =>
     rw[j9 Bool.false_ne_true] at q6 ⊢;exact⟨Y6,Z6,G6,acc,vs,s2.trans s26,S6,ra.mono s26,rs5.mono s6,Nat.le_succ_of_le la,q6⟩
 . have e:i=xs.length:=by omega
   rw[e,List.drop_length] at q2;unfold cL at q2;obtain⟨c2,q2⟩:=q2;refine .inl ⟨(ok _ i Z2 G2 H2 s2 S2 c2).2 e,?_⟩;unfold lO at q2;cases m with
   | true =>
     rw[ja rfl] at q2;exact kq (.ref D) _ Z2 _ _ s2 (S2.mineG fD (S1.f0n n) (go:=.lst acc) ⟨vs,rfl,ra⟩) rfl (q2 D (S2.f D _ aS).2.2)
   | false =>
     rw[j9 Bool.false_ne_true] at q2;have zn:=(S2.f D _ aS).2.1;exact kq (.lst acc) _ (upd Z2 D (.lst vs)) _ _ (s2.trans (aV zn _)) (S2.mineZ fD (S1.f0n n)) (eG zn ra) q2
def sH(h:low E F (wpE T (.cmpr m tg' it' ts' el' js)) Y H Q):HB (AU E F (wpI T it')) (aB5 E (wpG T tg')) (VM E (wpT T ts')) (aA7 E (wpE T el')) js Y H Q:=by
 obtain⟨Y',Z,G,Q',rs,S,h,kq⟩:=h;refine⟨Y',Z,G,_,rs,S,h,λJ chk xs Z1 G1 H1 s1 S1 ok q D n=>?_⟩;exact NK S1 ok (RN (rs.mono s1)) q.1 n q.2 (kq.mono s1)
def wA(X:Cx)(E:Ev)(ifs:List Expr)(t:PTT):Prop:=PTs X ifs (VM E t)
def aGo:wA X E [] (wpT T .nil):=by
 rintro j0 s Y H Q I ⟨F,Y',Z,G,Q',rs,S,h,kt⟩;rw[wpT] at h;exact VA j0 s Y H Q I (kt _ _ _ _ (aP.refl Z) S h)
def aFT(h:JT X E c t):wA X E [c] t:=VG h.any
section
variable{N:List Str}{scope:Scope}{cl:List (Str×Addr)}{js:List (Option Nat)}{tg j3 elt:Expr}{ifs:List Expr}{m:Bool}{tg' it' ts' el':CE}
def ZF(S:cG X N scope cl js)(P:Pl X E T k)(h40:40<=k)(hi:JI X E tg j3 (wpI T it'))(hg:∀C s₀ H₀ ex,JG (cxC X N scope cl C s₀ H₀ ex) E tg (wpG T tg'))(ht:∀C s₀ H₀ ex,wA (cxC X N scope cl C s₀ H₀ ex) E ifs (wpT T ts'))
   (he:∀C s₀ H₀ ex,JE (cxC X N scope cl C s₀ H₀ ex) E elt (wpE T el')) (hs:∀x,foldedSetIterable j3 X.env x=pure x):JE X E (.ListComp elt [⟨tg,j3,ifs,0⟩] scope pos) (wpE T (.cmpr m tg' it' ts' el' js)):=λF =>
 (YE S (P.calm h40) (hi F) (λC s₀ H₀ ex=>(hg C s₀ H₀ ex).any) ht (λC s₀ H₀ ex=>(he C s₀ H₀ ex).any) hs).imp λY H Q h=>sH h
def OY(S:cG X N scope cl js)(hi:∀F,PI X tg j3 (rgI (AU E F (wpI T it'))))(hg:∀C s₀ H₀ ex,JG (cxC X N scope cl C s₀ H₀ ex) E tg (wpG T tg'))(ht:∀C s₀ H₀ ex,wA (cxC X N scope cl C s₀ H₀ ex) E ifs (wpT T ts'))
   (he:∀C s₀ H₀ ex,JE (cxC X N scope cl C s₀ H₀ ex) E elt (wpE T el')) (hs:∀x,foldedSetIterable j3 X.env x=pure x):JE X E (.ListComp elt [⟨tg,j3,ifs,0⟩] scope pos) (wpE T (.cmpr m tg' it' ts' el' js)):=λF =>
 have mono:∀{Y:L2.St} {H:Hp} {R R':It->Hp->Prop},(∀J H1,R J H1->R' J H1)->AU E F (wpI T it') Y H R->AU E F (wpI T it') Y H R':=λ{_ _ _ _} h ⟨Y',Z,G,R0,rs,S,h0,kr⟩=>⟨Y',Z,G,R0,rs,S,h0,λJ chk xs Z1 G1 H1 s1 S1 ok q=>h _ _ (kr J chk xs Z1 G1 H1 s1 S1 ok q)⟩
 (SV (wi:=AU E F (wpI T it')) S (λ{Y H R R'}=>@mono Y H R R') (hi F) (λC s₀ H₀ ex=>(hg C s₀ H₀ ex).any) ht (λC s₀ H₀ ex=>(he C s₀ H₀ ex).any) hs).imp λY H Q h=>@mono Y H _ _ (λ_ _ z _=>z) (sH h)
def XG(S:cG X N scope cl js)(P:Pl X E T k)(h40:40<=k)(hN:X.N.Nodup)(hi':X.N[i]? =some y)(hy:X.env.scope.names.lookup y=some .local)(hi:JI X E tg j3 (wpI T it'))(hg:∀C s₀ H₀ ex,JG (cxC X N scope cl C s₀ H₀ ex) E tg (wpG T tg'))
   (ht:∀C s₀ H₀ ex,wA (cxC X N scope cl C s₀ H₀ ex) E ifs (wpT T ts')) (he:∀C s₀ H₀ ex,JE (cxC X N scope cl C s₀ H₀ ex) E elt (wpE T el'))
   (hsw:swapsWith (.ListComp elt [⟨tg,j3,ifs,0⟩] scope pos) (some (.Name y py)) spos.line X.env=pure true) (hs:∀x,foldedSetIterable j3 X.env x=pure x) :
   JS X E (.Assign [.Name y py] (.ListComp elt [⟨tg,j3,ifs,0⟩] scope pos) spos) (wpS T (.asg (.gn i) (.cmpr m tg' it' ts' el' js))):=λF =>
 (UG S (P.calm h40) hN hi' hy (hi F) (λC s₀ H₀ ex=>(hg C s₀ H₀ ex).any) ht (λC s₀ H₀ ex=>(he C s₀ H₀ ex).any) hsw hs).imp<|by
   rintro D Y H ⟨Y',Z,G,D',rs,S,h,kd⟩;rw[wpS] at h;refine sH (m:=m) ⟨Y',Z,G,_,rs,S,h,λx v Z1 G1 H1 s1 S1 r1 q1=>?_⟩;unfold wpG at q1;exact kd.nx _ _ _ _ _ s1 S1 ((rs.mono s1).set r1 i) q1
end
def aDQ(T:Tb)(c:J6)(x xi:Str):Prop:= ∀xs G Q,T.S x xs G Q->∀p,G p=none->T.S xi (.ref p::xs) (gup G p (.ins c [] [])) λr G1=>r= .non/\∃ns ys,G1 p=some (.ins c ns ys)/\Q (.ob c ns ys) (xI G1 p)
def aFB(T:Tb)(c:J6)(x xi:Str):Prop:= ∀xs G Q,T.S x xs G Q->∀p,G p=none->T.S xi (.ref p::xs) (gup G p (.ins c [] [])) λr G1=>r= .non/\Q (.ref p) G1
def BX(T:Tb)(c:J6)(x xi:Str):Prop:=aDQ T c x xi∨aFB T c x xi
def FZ{F:Hp}{c:J6}{x xi:Str}{Z1 H1:Hp}{G1:Gh}{xs:List PV}{vs:List V}{Q':PK1}{Q:VK}{p dx:Addr}{us:List V}(hu:us= .ref p::vs)(M:BX T c x xi)(S1:Sim E F H1 Z1 G1)(r:RPs E Z1 xs vs)(q:T.S x xs G1 Q')(kq:Kq E F Z1 Q' Q)(n:H1 p=none)(nd:H1 dx=none)(ne:dx≠p) :
   gF E (T.S xi) us (upd (upd H1 dx (.own p)) p (.ins (E.cls c) dx [])) (λv H2=>v= .non/\Q (.ref p) H2) E0:=by
 subst hu;have S2:Sim E F (upd H1 dx (.own p)) Z1 G1:=S1.other nd;have n2:upd H1 dx (.own p) p=none:=by rw[aF (Ne.symm ne)];exact n
 have S3:Sim E F (upd (upd H1 dx (.own p)) p (.ins (E.cls c) dx [])) Z1 (gup G1 p (.ins c [] [])):=S2.new n2 ⟨dx,[],rfl,rfl,rfl⟩;rcases M with M|M
 case inr =>
   refine⟨.ref p::xs,Z1,_,F,_,⟨.ref p,vs,rfl,rfl,r⟩,S3,M xs G1 Q' q p (S1.gn n),?_⟩;rintro z v Z4 G4 H4 s4 S4 r4 ⟨e,q4⟩;subst e;exact⟨r4,kq (.ref p) _ Z4 _ _ s4 S4 rfl q4⟩
 refine⟨.ref p::xs,Z1,_,F,_,⟨.ref p,vs,rfl,rfl,r⟩,S3,M xs G1 Q' q p (S1.gn n),?_⟩;rintro z v Z4 G4 H4 s4 S4 r4 ⟨e,ns,ys,hG,q4⟩;subst e;obtain⟨zn,o',hp,dx',vs',e',l,t⟩:=S4.g _ _ hG;subst e';exact⟨r4,kq (.ob c ns ys) _ (upd Z4 p _) _ _ (s4.trans (aV zn _)) (S4.frz hG hp) ⟨p,dx',vs',rfl,aS,l,t.mono (aV zn _)⟩ q4⟩
def NS{c:J6}{y x xi:Str}{e:Expr}{es:List Expr}{es':CE}{f:Addr}(M:Mk X.K (E.cls c) f)(K:Co X E (T.S xi) k f fd ps)(hr:cJ (k+1) X.A)(hg:Gl X x)(hm:X.mg x=some (.ref (E.cls c)))
   (hb:bG X.K fd ps []) (ms:BX T c y xi) (hd:(x==("__debug__":Str))=false) (ha:JA X E (e::es) (wpL T es')) (he:starEach (e::es) X.env=(false,eval e X.env)::starEach es X.env) (hpl:(backTo pos (starEach es X.env)).any (·.1)=false) :
   JE X E (.Call (.Name x p) (e::es) [] pos) (wpE T (.cal y es')):=λF=>by
 obtain⟨CX,sp,EX,K,hp,hl⟩:=K;exact(XA M K hr hg hm hb .nil hp (ha F) hd he hpl).imp<|by
   rintro Y H Q ⟨Y',Z,G,Q',rs,S,h,kq⟩;exact⟨Y',Z,G,_,rs,S,h,λxs vs Z1 G1 H1 l1 s1 S1 r1 q1 p dx n nd ne=>hl _ _ _ (FZ (by rw[List.append_nil]) ms S1 r1 q1 (kq.mono s1) n nd ne)⟩
def JK(X:Cx)(E:Ev)(kws:List Keyword)(t:PTA):Prop:= ∀F,PK X kws (yZ E F kws.length t)
def PK.imp{kws:List Keyword}{t t':TA}(h:PK X kws t)(g:∀Y H Q,t' Y H Q->t Y H Q):PK X kws t':=λpos j0 s Y H Q I q=>h pos j0 s Y H Q I (g _ _ _ q)
def FI:JK X E [] (wpL T .nil):=λF=>PK.imp aAO<|by rintro Y H Q ⟨Y',Z,G,Q',rs,S,h,kq⟩;rw[wpL] at h;exact kq [] [] Z G H rfl (aP.refl Z) S rfl h
def YN(ha:JE X E v (wpE T a'))(hr:JK X E kws (wpL T b')):JK X E (⟨n,v,p⟩::kws) (wpL T (.cons a' b')):=λF =>
 PK.imp (YV (ha F) (hr F))<|by
   rintro Y H Q ⟨Y',Z,G,Q',rs,S,h,kq⟩;rw[wpL] at h;exact⟨Y',Z,G,_,rs,S,h,λx v Z1 G1 H1 s1 S1 r1 q1=>⟨Y',Z1,G1,_,rs.mono s1,S1,q1,λxs vs Z2 G2 H2 l2 s2 S2 r2 q2=>kq (x::xs) (v::vs) _ _ _ (by rw[List.length_cons,l2];rfl) (s1.trans s2) S2 ⟨v,vs,rfl,r1.mono s2,r2⟩ q2⟩⟩
noncomputable def Ar.valV(vs:List V):Ar->V
 | .arg i=>vs.getD i .non
 | .non=>.non
 | .bl b=>.bl b
 | .int i=>.int i
 | .str x=>.str x
theorem BF(r:RPs E Z xs vs):∀ar:List Ar,RPs E Z (ar.map (Ar.val xs)) (ar.map (Ar.valV vs))
 | []=>rfl
 | a::l=>by
   refine⟨_,_,rfl,?_,BF r l⟩;cases a with
   | arg i =>
     show RP E Z (xs.getD i .non) (vs.getD i .non);rw[List.getD_eq_getElem?_getD,List.getD_eq_getElem?_getD];cases e:xs[i]? with
     | none =>
       have:vs[i]? =none:=List.getElem?_eq_none_iff.mpr (by rw[<-r.length];exact List.getElem?_eq_none_iff.mp e);rw[this];exact oK
     | some x =>
       obtain⟨v,e',rr⟩:=r.get e;rw[e'];exact rr
   | non=>exact oK
   | bl b=>exact cF
   | int i=>exact aT
   | str x=>exact oM
structure fP(K:W.Frag)(fd:J8)(ps:List Str)(n:Nat)(ks:List Str)(ar:List Ar):Prop where
 len:ar.length=ps.length
 to:∀(s:J5) (us ws:List Value),K.In s.heap->us.length=n->ws.length=ks.length->∃bs,BindsTo s fd ⟨us,ks.zip ws⟩ (ps.zip bs)/\∀vs zs,aI vs us->aI zs ws->aI (ar.map (Ar.valV (vs++zs))) bs
def QS{j0:List (Addr×Obj)}{Y:L2.St}{H:Hp}{s:J5}{Q:VK}{us ws:List Value}{vs zs:List V}{f:Addr}{fd:J8}{ps ks:List Str}{n:Nat}{ar:List Ar}{sp:Sp}{A':Around}{CX:CXT}{EX:XK}
   (K:bM X.prog X.w X.K X.mg X.base CX k f fd ps sp) (hx:jU CX X EX) (hr:cJ k A') (e0:AG X.prog X.w X.K X.mg X.base A' X.stack s H) (hb:fP X.K fd ps n ks ar) (I:Inv X j0 Y H s) (r:aI vs us) (rz:aI zs ws) (l1:vs.length=n) (l2:zs.length=ks.length) (h:sp (ar.map (Ar.valV (vs++zs))) H Q EX) :
   wpAny (model X.prog X.w) A' (call (.ref f) us (ks.zip ws)) (EP X j0 Y Q) X.xe s:=by
 obtain⟨bs,hbs,hv⟩:=hb.to s us ws I.kIn (by rw[<-r.length];exact l1) (by rw[<-rz.length];exact l2);refine wpAny_call (codeAny_mono (K.run A' X.stack s H ⟨us,ks.zip ws⟩ bs _ Q EX hr e0 hbs (hv vs zs r rz) h) λr s' hq=>?_);cases r with
 | error e=>exact hx j0 Y H s e s' I hq
 | ok fl =>
   cases fl with
   | ret u=>exact I.after hq
   | next=>exact False.elim hq
   | brk=>exact False.elim hq
   | cont=>exact False.elim hq
def aCz{y f:Str}{p:Pos}{kws:List Keyword}{es' ks':CE}{ad:Addr}{ps ks:List Str}(K:Co X E (T.S y) k ad fd ps)(hr:cJ k X.A)(hg:Gl X f)(hm:X.mg f=some (.ref ad))
   (hk:W.keepIn X.K (.ref ad)=true) (hb:fP X.K fd ps n ks ar) (hd:(f==("__debug__":Str))=false) (ha:JA X E (e::es) (wpL T es')) (hkw:JK X E kws (wpL T ks')) (hn:(e::es).length=n) (hkn:kws.length=ks.length)
   (hall:(backToKw pos (keywordEach kws X.env)).all (·.1.isSome)=true) (hks:(backToKw pos (keywordEach kws X.env)).filterMap (·.1)=ks) (he:starEach (e::es) X.env=(false,eval e X.env)::starEach es X.env)
   (hpl:((backTo pos (starEach (e::es) X.env)).any (·.1)||(backToKw pos (keywordEach kws X.env)).any (·.1.isNone))=false) :
   JE X E (.Call (.Name f p) (e::es) kws pos) (wpE T (.cak y es' ks' ar)):=λF=>by
 obtain⟨CX,sp,EX,K,hp,hl⟩:=K;have main:PE X (.Call (.Name f p) (e::es) kws pos) (λY H Q=>yZ E F (e::es).length (wpL T es') Y H λvs H1=>vs.length=n/\yZ E F kws.length (wpL T ks') Y H1 λzs H2=>zs.length=ks.length/\sp (ar.map (Ar.valV (vs++zs))) H2 Q EX):=by
   intro j0 s Y H Q I h;refine wpAny_Call_Name_kw (iH I hg hm ?_ hd);refine W.callWith_KW (h₀:=X.base) I.ok.mod.kin hk hall (thn (ha F pos j0 s Y H _ I h) λus s1 zz=>?_) hpl he;obtain⟨vs,H1,I1,r,l1,q⟩:=zz;refine thn (hkw F pos j0 s1 Y H1 _ I1 q) λws s2 ⟨zs,H2,I2,rz,l2,q2⟩=>⟨I2.kIn,?_⟩;rw[hks];exact QS K hp hr I2.env0 hb I2 r rz l1 l2 q2
 refine main.imp λY H Q zz=>?_;obtain⟨Y',Z,G,Q',rs,S,h,kq⟩:=zz;exact⟨Y',Z,G,_,rs,S,h,λxs vs Z1 G1 H1 l1 s1 S1 r1 q1=>⟨by rw[<-r1.length,l1];exact hn,Y',Z1,G1,_,rs.mono s1,S1,q1,λzs us Z2 G2 H2 l2 s2 S2 r2 q2 =>
   ⟨by rw[<-r2.length,l2];exact hkn,hl _ _ _ ⟨_,Z2,G2,F,Q',BF ((r1.mono s2).append r2) ar,S2,q2,kq.mono (s1.trans s2)⟩⟩⟩⟩
def WA{y f:Str}{p:Pos}{kws:List Keyword}{ks':CE}{ad:Addr}{fd:J8}{ps ks:List Str}{ar:List Ar}(K:Co X E (T.S y) k ad fd ps)(hr:cJ k X.A)(hg:Gl X f)(hm:X.mg f=some (.ref ad))
   (hk:W.keepIn X.K (.ref ad)=true) (hb:fP X.K fd ps 0 ks ar) (hd:(f==("__debug__":Str))=false) (hkw:JK X E kws (wpL T ks')) (hkn:kws.length=ks.length)
   (hall:(backToKw pos (keywordEach kws X.env)).all (·.1.isSome)=true) (hks:(backToKw pos (keywordEach kws X.env)).filterMap (·.1)=ks)
   (hpl:((backTo pos (starEach [] X.env)).any (·.1)||(backToKw pos (keywordEach kws X.env)).any (·.1.isNone))=false) :
   JE X E (.Call (.Name f p) [] kws pos) (wpE T (.cak y .nil ks' ar)):=λF=>by
 obtain⟨CX,sp,EX,K,hp,hl⟩:=K;have main:PE X (.Call (.Name f p) [] kws pos) (λY H Q=>yZ E F kws.length (wpL T ks') Y H λzs H2=>zs.length=ks.length/\sp (ar.map (Ar.valV ([]++zs))) H2 Q EX):=by
   intro j0 s Y H Q I h;refine wpAny_Call_Name_kw (iH I hg hm ?_ hd);refine W.callWith_KW0 (h₀:=X.base) (first:=[]) I.ok.mod.kin hk hall ?_ hpl;refine thn (hkw F pos j0 s Y H _ I h) λws s2 ⟨zs,H2,I2,rz,l2,q2⟩=>⟨I2.kIn,?_⟩;rw[hks];exact QS (us:=[]) (vs:=[]) K hp hr I2.env0 hb I2 .nil rz rfl l2 q2
 refine main.imp λY H Q zz=>?_;obtain⟨Y',Z,G,Q',rs,S,h,kq⟩:=zz
 skip
 exact⟨Y',Z,G,_,rs,S,h,λzs us Z2 G2 H2 l2 s2 S2 r2 q2=>⟨by rw[<-r2.length,l2];exact hkn,hl _ _ _ ⟨_,Z2,G2,F,Q',BF r2 ar,S2,q2,kq.mono s2⟩⟩⟩
def ZB{c:J6}{p:Pos}{kws:List Keyword}{ks':CE}{ps ks:List Str}{ar:List Ar}(M:Mk X.K (E.cls c) f)(K:Co X E (T.S xi) k f fd ps)(hr:cJ (k+1) X.A)(hg:Gl X x)(hm:X.mg x=some (.ref (E.cls c)))
   (hb:fP X.K fd ps 1 ks (.arg 0::ar.map λa=>match a with|.arg i=>.arg (i+1)|a=>a)) (ms:BX T c w xi) (hd:(x==("__debug__":Str))=false) (hkw:JK X E kws (wpL T ks')) (hkn:kws.length=ks.length)
   (hall:(backToKw pos (keywordEach kws X.env)).all (·.1.isSome)=true) (hks:(backToKw pos (keywordEach kws X.env)).filterMap (·.1)=ks)
   (hpl:((backTo pos (starEach [] X.env)).any (·.1)||(backToKw pos (keywordEach kws X.env)).any (·.1.isNone))=false) :
   JE X E (.Call (.Name x p) [] kws pos) (wpE T (.cak w .nil ks' ar)):=λF=>by
 obtain⟨CX,sp,EX,K,hp,hl⟩:=K;have main:PE X (.Call (.Name x p) [] kws pos) (λY H Q=>yZ E F kws.length (wpL T ks') Y H λzs H2=>zs.length=ks.length/\∀y dx,H2 y=none->H2 dx=none->dx≠y->
     sp (.ref y::ar.map (Ar.valV zs)) (upd (upd H2 dx (.own y)) y (.ins (E.cls c) dx [])) (λv H3=>v= .non/\Q (.ref y) H3) EX):=by
   intro j0 s Y H Q I h;refine wpAny_Call_Name_kw (iH I hg hm ?_ hd);refine W.callWith_KW0 (h₀:=X.base) (first:=[]) I.ok.mod.kin M.kp hall ?_ hpl;refine thn (hkw F pos j0 s Y H _ I h) λws s2 ⟨zs,H2,I2,rz,l2,q2⟩=>⟨I2.kIn,?_⟩;rw[hks];have hq:=q2 (s2.heap.objs.size+1) s2.heap.objs.size (I2.hok.fresh (Nat.le_succ _)) (I2.hok.fresh (Nat.le_refl _)) (Nat.ne_of_lt (Nat.lt_succ_self _));have I3:=Inv.made (C:=E.cls c) I2;have e:V.ref (s2.heap.objs.size+1)::ar.map (Ar.valV zs)=(Ar.arg 0::ar.map λa=>match a with|.arg i=>.arg (i+1)|a=>a).map (Ar.valV ([V.ref (s2.heap.objs.size+1)]++zs)):=by
     rw[List.map_cons,List.map_map];refine congr (congrArg List.cons rfl) (List.map_congr_left λa _=>?_);cases a<;>rfl
   rw[e] at hq;obtain⟨bs,hbs,hv⟩:=hb.to {s2 with heap:=(s2.heap.push _).push _} [Value.ref (s2.heap.objs.size+1)] ws I3.kIn rfl (by rw[<-rz.length];exact l2);refine wpAny_call (uF (f:=f) (vs:=[]) (kw:=ks.zip ws) I2.kIn M.makes M.init (beq_iff_eq.mp M.fn) (codeAny_mono (K.run _ X.stack _ _ ⟨[Value.ref (s2.heap.objs.size+1)],ks.zip ws⟩ bs _ _ EX (hr.make (E.cls c) [] (ks.zip ws))
     (I3.env0.make (E.cls c) [] (ks.zip ws)) hbs (hv [V.ref (s2.heap.objs.size+1)] zs (.cons rfl .nil) rz) hq) λr s' hq'=>?_))
   cases r with
   | error e=>exact hp j0 Y _ _ e s' I3 hq'
   | ok fl =>
     cases fl with
     | ret u =>
       obtain⟨v,H',I4,rv,ev,q3⟩:=I3.after hq';subst ev;exact⟨rv,⟨V.ref (s2.heap.objs.size+1),H',I4,rfl,q3⟩⟩
     | next=>exact False.elim hq'
     | brk=>exact False.elim hq'
     | cont=>exact False.elim hq'
 refine main.imp λY H Q zz=>?_;obtain⟨Y',Z,G,Q',rs,S,h,kq⟩:=zz
 skip
 exact⟨Y',Z,G,_,rs,S,h,λzs us Z2 G2 H2 l2 s2 S2 r2 q2=>⟨by rw[<-r2.length,l2];exact hkn,λy dx n nd ne=>hl _ _ _ (FZ rfl ms S2 (BF r2 ar) q2 (kq.mono s2) n nd ne)⟩⟩
noncomputable def upA:Ar->Ar
 | .arg i=>.arg (i+1)
 | a=>a
def WX{c:J6}{w x xi:Str}{p:Pos}{e:Expr}{es:List Expr}{kws:List Keyword}{es' ks':CE}{f:Addr}{fd:J8}{ps ks:List Str}{n:Nat}{ar:List Ar}(M:Mk X.K (E.cls c) f)(K:Co X E (T.S xi) k f fd ps)(hr:cJ (k+1) X.A)(hg:Gl X x)(hm:X.mg x=some (.ref (E.cls c)))
   (hb:fP X.K fd ps (n+1) ks (.arg 0::ar.map λa=>match a with|.arg i=>.arg (i+1)|a=>a)) (ms:BX T c w xi) (hd:(x==("__debug__":Str))=false) (ha:JA X E (e::es) (wpL T es')) (hkw:JK X E kws (wpL T ks')) (hn:(e::es).length=n) (hkn:kws.length=ks.length)
   (hall:(backToKw pos (keywordEach kws X.env)).all (·.1.isSome)=true) (hks:(backToKw pos (keywordEach kws X.env)).filterMap (·.1)=ks) (he:starEach (e::es) X.env=(false,eval e X.env)::starEach es X.env)
   (hpl:((backTo pos (starEach (e::es) X.env)).any (·.1)||(backToKw pos (keywordEach kws X.env)).any (·.1.isNone))=false) :
   JE X E (.Call (.Name x p) (e::es) kws pos) (wpE T (.cak w es' ks' ar)):=λF=>by
 obtain⟨CX,sp,EX,K,hp,hl⟩:=K;have main:PE X (.Call (.Name x p) (e::es) kws pos) (λY H Q=>yZ E F (e::es).length (wpL T es') Y H λvs H1=>vs.length=n/\yZ E F kws.length (wpL T ks') Y H1 λzs H2=>zs.length=ks.length/\∀y dx,H2 y=none->H2 dx=none->dx≠y->
     sp (.ref y::ar.map (Ar.valV (vs++zs))) (upd (upd H2 dx (.own y)) y (.ins (E.cls c) dx [])) (λv H3=>v= .non/\Q (.ref y) H3) EX):=by
   intro j0 s Y H Q I h;refine wpAny_Call_Name_kw (iH I hg hm ?_ hd);refine W.callWith_KW (h₀:=X.base) I.ok.mod.kin M.kp hall (thn (ha F pos j0 s Y H _ I h) λus s1 zz=>?_) hpl he;obtain⟨vs,H1,I1,r,l1,q⟩:=zz;refine thn (hkw F pos j0 s1 Y H1 _ I1 q) λws s2 ⟨zs,H2,I2,rz,l2,q2⟩=>⟨I2.kIn,?_⟩;rw[hks];have hq:=q2 (s2.heap.objs.size+1) s2.heap.objs.size (I2.hok.fresh (Nat.le_succ _)) (I2.hok.fresh (Nat.le_refl _)) (Nat.ne_of_lt (Nat.lt_succ_self _));have I3:=Inv.made (C:=E.cls c) I2;have e:V.ref (s2.heap.objs.size+1)::ar.map (Ar.valV (vs++zs))=(Ar.arg 0::ar.map λa=>match a with|.arg i=>.arg (i+1)|a=>a).map (Ar.valV ((V.ref (s2.heap.objs.size+1)::vs)++zs)):=by
     rw[List.map_cons,List.map_map];refine congr (congrArg List.cons rfl) (List.map_congr_left λa _=>?_);cases a<;>rfl
   rw[e] at hq;obtain⟨bs,hbs,hv⟩:=hb.to {s2 with heap:=(s2.heap.push _).push _} (Value.ref (s2.heap.objs.size+1)::us) ws I3.kIn (by rw[List.length_cons,<-r.length,l1]) (by rw[<-rz.length];exact l2);refine wpAny_call (uF (f:=f) (vs:=us) (kw:=ks.zip ws) I2.kIn M.makes M.init (beq_iff_eq.mp M.fn) (codeAny_mono (K.run _ X.stack _ _ ⟨Value.ref (s2.heap.objs.size+1)::us,ks.zip ws⟩ bs _ _ EX (hr.make (E.cls c) us (ks.zip ws))
     (I3.env0.make (E.cls c) us (ks.zip ws)) hbs (hv (V.ref (s2.heap.objs.size+1)::vs) zs (.cons rfl r) rz) hq) λr s' hq'=>?_))
   cases r with
   | error e=>exact hp j0 Y _ _ e s' I3 hq'
   | ok fl =>
     cases fl with
     | ret u =>
       obtain⟨v,H',I4,rv,ev,q3⟩:=I3.after hq';subst ev;exact⟨rv,⟨V.ref (s2.heap.objs.size+1),H',I4,rfl,q3⟩⟩
     | next=>exact False.elim hq'
     | brk=>exact False.elim hq'
     | cont=>exact False.elim hq'
 refine main.imp λY H Q zz=>?_;obtain⟨Y',Z,G,Q',rs,S,h,kq⟩:=zz;exact⟨Y',Z,G,_,rs,S,h,λxs vs Z1 G1 H1 l1 s1 S1 r1 q1=>⟨by rw[<-r1.length,l1];exact hn,Y',Z1,G1,_,rs.mono s1,S1,q1,λzs us Z2 G2 H2 l2 s2 S2 r2 q2 =>
   ⟨by rw[<-r2.length,l2];exact hkn,λy dx n nd ne=>hl _ _ _ (FZ rfl ms S2 (BF ((r1.mono s2).append r2) ar) q2 (kq.mono (s1.trans s2)) n nd ne)⟩⟩⟩
end
end L3
namespace L3
end L3
namespace L3
open PySem PySem.Spec
open PyProof.Rows hiding St
open L2
noncomputable def aCa(E:Ev)(F:Hp)(t:PTS):TB:=λY H Q=>∃Y' Z G D',RSt E Z Y' Y/\Sim E F H Z G/\t D' Y' G/\KSt E F Z D'.nx Q
def JB(X:Cx)(E:Ev)(b:Sem Fin->Sem Fin)(t:PTS):Prop:= ∀F,PB X b (aCa E F t)
def PB.imp{X:Cx}{b:Sem Fin->Sem Fin}{t t':TB}(h:PB X b t)(g:∀Y H Q,t' Y H Q->t Y H Q):PB X b t':=λj0 s Y H Q I q=>h j0 s Y H Q I (g _ _ _ q)
section
variable{X:Cx}{E:Ev}{T:Tb}{k:Nat}{pos:Pos}{e tg j3 elt kx vx:Expr}{ifs:List Expr}{d:Nat}{D:Addr}{bd:Addr->Env->Sem Fin->Sem Fin}
def aCd(hx:X.xe=NoE)(he:JE X E elt (wpE T e')):JB X E (BM elt D X.env) (wpC T (.eml e') D):=λF =>
 PB.imp (VT hx (he F))<|by
   rintro Y H Q ⟨Y',Z,G,D',rs,S,h,kn⟩;rw[wpC] at h;refine⟨Y',Z,G,_,rs,S,h,λy u Z1 G1 H1 s1 S1 r1 zz=>?_⟩;obtain⟨ys,hG,hz,q⟩:=zz;obtain⟨_,o',hp,us,e',t⟩:=S1.g _ _ hG;subst e';exact⟨us,hp,by rw[<-t.length];exact hz,kn _ _ _ _ _ s1 (S1.set (go:=.lst (ys++[y])) hG ⟨us++[u],rfl,t.append ⟨u,[],rfl,r1,rfl⟩⟩) (rs.mono s1) q⟩
def NU(S1:Sim E F H1 Z1 G1)(ok:pC E J Z1 chk xs)(rs:RSt E Z1 Y' Y)
   (q:gE chk g' (λD Y G=>ts' Y G λk G2=>if k=true then tb' D Y G2 else D.nx Y G2) D' xs Y' G1) (kn:KSt E F Z1 D'.nx Q):FnW J (RF E F g') (rG E F ts') (aCa E F tb') Q Y H1:=by
 generalize hB:(λ(D:dL) (Y:PSt) (G:Gh)=>ts' Y G λk G2=>if k=true then tb' D Y G2 else D.nx Y G2)=B at q;refine⟨λi m Y H=>m=xs.length-i/\i<=xs.length/\∃Y' Z2 G2,aP Z1 Z2/\Sim E F H Z2 G2/\RSt E Z2 Y' Y/\gE chk g' B D' (xs.drop i) Y' G2,⟨xs.length,by simp,Nat.zero_le _,Y',Z1,G1,aP.refl _,S1,rs,q⟩,?_⟩;rintro i m Y2 H2 ⟨rfl,hi,Y3,Z2,G2,s2,S2,rs2,q2⟩;by_cases hlt:i<xs.length
 . have hd:xs.drop i=xs[i]::xs.drop (i+1):=List.drop_eq_getElem_cons hlt;rw[hd] at q2;unfold gE at q2;obtain⟨c2,q2⟩:=q2;obtain⟨go,yl⟩:=(ok F i Z2 G2 H2 s2 S2 c2).1 xs[i] (by simp[hlt]);refine .inr ⟨go,λY4 H4=>∃Y5 Z4 G4,aP Z2 Z4/\Sim E F H4 Z4 G4/\RSt E Z4 Y5 Y4/\gE chk g' B D' (xs.drop (i+1)) Y5 G4,by rintro Y4 H4 ⟨Y5,Z4,G4,s4,S4,rs4,q4⟩;exact⟨xs.length-(i+1),by omega,rfl,hlt,Y5,Z4,G4,s2.trans s4,S4,rs4,q4⟩,λv H3 y=>?_⟩;obtain⟨Z3,s3,S3,r3⟩:=yl v H3 y;subst hB;refine⟨xs[i],Y3,Z3,G2,_,r3,rs2.mono s3,S3,q2,λY6 Y7 Z5 G5 H5 s5 S5 rs5 q5=>⟨Y6,Z5,G5,_,rs5,S5,q5,λok' Z6 G6 H6 s6 S6 q6=>?_⟩⟩;have s36:=(s3.trans s5).trans s6;dsimp only;cases ok' with
   | true =>
     rw[ja rfl] at q6 ⊢;exact⟨Y6,Z6,G6,_,rs5.mono s6,S6,q6,λY8 Y9 Z7 G7 H7 s7 S7 rs7 q7=>⟨Y8,Z7,G7,s36.trans s7,S7,rs7,q7⟩⟩
   | false =>
     rw[j9 Bool.false_ne_true] at q6 ⊢;exact⟨Y6,Z6,G6,s36,S6,rs5.mono s6,q6⟩
 . have e:i=xs.length:=by omega
   rw[e,List.drop_length] at q2;unfold gE at q2;obtain⟨c2,q2⟩:=q2;exact .inl ⟨(ok F i Z2 G2 H2 s2 S2 c2).2 e,kn _ _ _ _ _ s2 S2 rs2 q2⟩
def zF(h:wA X E ifs t):PTs X ifs (rG E F t):=λj0 s Y H Q I q=>h j0 s Y H Q I ⟨F,q⟩
def aCY(hx:X.xe=NoE)(hc:X.calm=true)(Tt:Tn e d tg j3 ifs bd)(hi:JI X E tg j3 (wpI T it'))(hg:JG X E tg (wpG T tg'))(ht:wA X E ifs (wpT T ts'))(hb:JB X E (bd D X.env) (wpC T bd' D))(hs:∀x,foldedSetIterable j3 X.env x=pure x) :
   JB X E (sL e d j3 D X.env) (wpC T (.gen tg' it' ts' bd') D):=λF =>
 PB.imp (aAD hx hc Tt (hi F) (hg F) (zF ht) (hb F) hs)<|by
   rintro Y H Q ⟨Y',Z,G,D',rs,S,h,kn⟩;rw[wpC] at h;exact⟨Y',Z,G,_,rs,S,h,λJ chk xs Z1 G1 H1 s1 S1 ok q=>NU S1 ok (rs.mono s1) q (kn.mono s1)⟩
section
variable{N:List Str}{scope:Scope}{cl:List (Str×Addr)}{js:List (Option Nat)}{m:Bool}{tg' it' ts' bd':CE}{gs:List Comprehension}
def HE(h:low E F (wpE T (.cmn m false tg' it' ts' bd' js)) Y H Q):aC9 (AU E F (wpI T it')) (RF E F (wpG T tg')) (rG E F (wpT T ts')) (.lst []) (λD=>aCa E F (wpC T bd' D)) js Y H Q:=by
 obtain⟨Y',Z,G,Q',rs,S,h,kq⟩:=h;rw[NV] at h;refine⟨Y',Z,G,_,rs,S,h,λJ chk xs Z1 G1 H1 s1 S1 ok q D n=>?_⟩;refine NU (S1.new n (go:=.lst []) ⟨[],rfl,rfl⟩) ok (RN (rs.mono s1)) (q D (S1.gn n)) λY5 Y6 Z2 G2 H2 s2 S2 rs2 q2=>?_;cases m with
 | true=>exact kq.go (s1.trans s2) S2 (x:=.ref D) rfl q2
 | false =>
   obtain⟨ys,hG,q3⟩:∃ys,G2 D=some (.lst ys)/\Q' (.lst ys) (xI G2 D):=q2;obtain⟨zn,o',hp,vs,rfl,t⟩:=S2.g _ _ hG;exact kq (.lst ys) _ (upd Z2 D (.lst vs)) _ _ ((s1.trans s2).trans (aV zn _)) (S2.frz hG hp) (eG zn t) q3
def aCi(Tt:Tn (.ListComp elt (⟨tg,j3,ifs,0⟩::gs) scope pos) 0 tg j3 ifs bd)(S:cG X N scope cl js)(P:Pl X E T k)(h40:40<=k)(hi:JI X E tg j3 (wpI T it'))(hg:∀C s₀ H₀ ex,JG (cxC X N scope cl C s₀ H₀ ex) E tg (wpG T tg'))(ht:∀C s₀ H₀ ex,wA (cxC X N scope cl C s₀ H₀ ex) E ifs (wpT T ts'))
   (hb:∀D C s₀ H₀ ex,JB (cxC X N scope cl C s₀ H₀ ex) E (bd D (cxC X N scope cl C s₀ H₀ ex).env) (wpC T bd' D)) (hs:∀x,foldedSetIterable j3 X.env x=pure x):JE X E (.ListComp elt (⟨tg,j3,ifs,0⟩::gs) scope pos) (wpE T (.cmn m false tg' it' ts' bd' js)):=λF =>
 (aBR (BH (gs:=gs)) rfl Tt S (P.calm h40) (hi F) (λC s₀ H₀ ex=>hg C s₀ H₀ ex F) (λC s₀ H₀ ex=>zF (ht C s₀ H₀ ex)) (λD C s₀ H₀ ex=>hb D C s₀ H₀ ex F) hs).imp λY H Q h=>HE h
def ZC(Tt:Tn (.ListComp elt (⟨tg,j3,ifs,0⟩::gs) scope pos) 0 tg j3 ifs bd)(S:cG X N scope cl js)(P:Pl X E T k)(h40:40<=k)(hN:X.N.Nodup)(hi':X.N[i]? =some y)(hy:X.env.scope.names.lookup y=some .local)(hi:JI X E tg j3 (wpI T it'))(hg:∀C s₀ H₀ ex,JG (cxC X N scope cl C s₀ H₀ ex) E tg (wpG T tg'))
   (ht:∀C s₀ H₀ ex,wA (cxC X N scope cl C s₀ H₀ ex) E ifs (wpT T ts')) (hb:∀D C s₀ H₀ ex,JB (cxC X N scope cl C s₀ H₀ ex) E (bd D (cxC X N scope cl C s₀ H₀ ex).env) (wpC T bd' D))
   (hsw:swapsWith (.ListComp elt (⟨tg,j3,ifs,0⟩::gs) scope pos) (some (.Name y py)) spos.line X.env=pure true) (hs:∀x,foldedSetIterable j3 X.env x=pure x) :
   JS X E (.Assign [.Name y py] (.ListComp elt (⟨tg,j3,ifs,0⟩::gs) scope pos) spos) (wpS T (.asg (.gn i) (.cmn m false tg' it' ts' bd' js))):=λF =>
 (VD (BH (gs:=gs)) rfl Tt S (P.calm h40) hN hi' hy (hi F) (λC s₀ H₀ ex=>hg C s₀ H₀ ex F) (λC s₀ H₀ ex=>zF (ht C s₀ H₀ ex)) (λD C s₀ H₀ ex=>hb D C s₀ H₀ ex F) hsw hs).imp<|by
   rintro D Y H ⟨Y',Z,G,D',rs,S,h,kd⟩;rw[wpS] at h;refine HE (m:=m) ⟨Y',Z,G,_,rs,S,h,λx v Z1 G1 H1 s1 S1 r1 q1=>?_⟩;unfold wpG at q1;exact kd.nx _ _ _ _ _ s1 S1 ((rs.mono s1).set r1 i) q1
end
end
end L3
namespace L3
end L3
namespace L3
open PySem PySem.Spec
open PyProof.Rows hiding St
open L2
section
variable{E:Ev}{Z H F:Hp}{G:Gh}{c:Addr}{o:Obj}
def aEC:HO.frz o' (.ext (XC a C d))≠KO o:=by
 intro h;injection h with _ h;injection h with h;have h2:XC a C d ({objs:= #[]}:Heap):=by rw[h];trivial
 obtain⟨oe,vs,q,_⟩:=h2;have:=Heap.lt_size q;exact absurd this (Nat.not_lt_zero _)
def QT(hc:Z c=some (KO o))(h:Rd Z a u)(n1:u≠KO o)(n2:∀o',HO.frz o' u≠KO o):Rd (IV Z c) a u:=by
 rcases h with h|⟨o',h⟩
 . exact .inl (by rw[fM (oA h hc n1)];exact h)
 . exact .inr ⟨o',by rw[fM (oA h hc (n2 o'))];exact h⟩
def WN{K:W.Frag}{a:Addr}{xs:List V}(hc:Z c=some (KO o))(h:SqL K Z a xs):SqL K (IV Z c) a xs:=h.imp (λh=>QT hc h (by intro z;cases z) (by intro o' z;cases z)) id
def XE{K:W.Frag}(hc:Z c=some (KO o))(h:SqT K Z a xs):SqT K (IV Z c) a xs:=h.imp (λh=>QT hc h (by intro z;cases z) (by intro o' z;cases z)) id
mutual
theorem RP.delK(hc:Z c=some (KO o)):∀{x:PV} {v:V},RP E Z x v->RP E (IV Z c) x v
 | .non,_,h=>h
 | .bl _,_,h=>h
 | .int _,_,h=>h
 | .str _,_,h=>h
 | .ty _,_,h=>h
 | .ref _,_,h=>h
 | .cl _,_,h=>h
 | .fn _,_,h=>h
 | .emp,_,⟨a,e1,h⟩=>⟨a,e1,by rw[fM (oA h hc (by intro z;cases z))];exact h⟩
 | .scr _,_,⟨a,e1,h⟩=>⟨a,e1,WN hc h⟩
 | .tup _,_,⟨a,vs,e1,h,r⟩=>⟨a,vs,e1,XE hc h,RPs.delK hc r⟩
 | .lst _,_,⟨a,vs,e1,h,r⟩=>⟨a,vs,e1,by rw[fM (oA h hc (by intro z;cases z))];exact h,RPs.delK hc r⟩
 | .dct _ _,_,⟨a,vs,e1,h,l,r⟩=>⟨a,vs,e1,by rw[fM (oA h hc (by intro z;cases z))];exact h,l,RPs.delK hc r⟩
 | .fdc _ _,_,⟨a,o',vs,e1,h,l,r⟩=>⟨a,o',vs,e1,by rw[fM (oA h hc (by intro z;cases z))];exact h,l,RPs.delK hc r⟩
 | .ob _ _ _,_,⟨a,dx,vs,e1,h,l,r⟩=>⟨a,dx,vs,e1,by rw[fM (oA h hc (by intro z;cases z))];exact h,l,RPs.delK hc r⟩
 | .exc _ _ _,_,⟨a,d,vs,e1,⟨o',h⟩,l,hd,hn,r⟩=>⟨a,d,vs,e1,⟨o',by rw[fM (oA h hc aEC)];exact h⟩,l,λdd q=>by rw[fM (oA (hd dd q) hc (by intro z;cases z))];exact hd dd q,hn,RPs.delK hc r⟩
theorem RPs.delK(hc:Z c=some (KO o)):∀{xs:List PV} {vs:List V},RPs E Z xs vs->RPs E (IV Z c) xs vs
 | [],_,h=>h
 | _::_,_,⟨v,r,e1,h,t⟩=>⟨v,r,e1,RP.delK hc h,RPs.delK hc t⟩
end
end
structure VO(P:J7)(w:World)(K:W.Frag)(mg:Str->Option Value)(base:Heap)(E:Ev)(T:Tb)(k:Nat):Prop where
 ex:∃fd py fo,bM P w K mg base CX0 k T.la fd [py] (gF E T.Sl)/\L2.bG K fd [py] []/\E.z0 T.la=some (KO fo)/\W.keepIn [(T.la,fo)] (.ref T.la)=true
section
variable{X:Cx}{E:Ev}{T:Tb}{k:Nat}{pos:Pos}
end
def aF9(X:Cx):Prop:= ∃cc P,aFD X cc P/\X.H₀ P=some (.tbl (X.env.qual++"<lambda>") #[])
section
variable{P:J7}{w:World}{K:W.Frag}{mg:Str->Option Value}{base:Heap}{k:Nat}{E:Ev}{T:Tb}
end
structure aFU(P:J7)(w:World)(K:W.Frag)(mg:Str->Option Value)(base:Heap)(E:Ev)(T:Tb)(k kl:Nat)(m:Str)(n:Nat)(y:J6×Str):Prop where
 ex :∃ad,Cls K (E.cls y.1)/\wB K (E.cls y.1) m ad/\∀(f0 z0:Hp) (Sl:Sp3) (f:Addr) (fd:J8) (py:Str) (fo:Obj),bM P w K mg base CX0 kl f fd [py] (gF (E.at f0 z0) Sl)->L2.bG K fd [py] []->z0 f=some (KO fo)->W.keepIn [(f,fo)] (.ref f)=true->
   ∃fd' ps,ps.length=n+2/\L2.bG K fd' ps []/\bM P w K mg base CX0 k ad fd' ps (gF (E.at f0 z0) λxs G Q=>∃zs,xs=zs++[.ref f]/\T.SL y.2 Sl zs G Q)
section
variable{X:Cx}{E:Ev}{T:Tb}{k kl:Nat}{pos:Pos}
end
noncomputable def clos(cells:List (Str×Addr)):List (Str×NameKind)->List (Str×Addr)->List (Str×Addr)
 | [],acc=>acc
 | (n,k)::r,acc=>clos cells r (if k= .free then(n,(cells.lookup n).getD 0)::acc else acc)
def YI(h:∀y∈scope.names,y.2= .free->∃c,env.cells.lookup y.1=some c):closureFor scope env=pure (clos env.cells scope.names []):=by
 unfold closureFor;have main:∀(l:List (Str×NameKind)) (acc:List (Str×Addr)),(∀y∈l,y.2= .free->∃c,env.cells.lookup y.1=some c)->
     (forIn l acc (λx r=>if (x.2==NameKind.free)=true then do let c <-cellOf env x.1;pure (ForInStep.yield ((x.1,c)::r)) else pure (ForInStep.yield r)):Sem (List (Str×Addr)))=pure (clos env.cells l acc):=by
   intro l;induction l with
   | nil=>intro acc _;rfl
   | cons y r ih =>
     intro acc hy;obtain⟨n,k⟩:=y;rw[List.forIn_cons];have ihr:=λacc=>ih acc λz hz=>hy z (wCq _ hz);by_cases hk:k= .free
     . subst hk;obtain⟨c,hc⟩:=hy (n,.free) (wDq ..) rfl;have e:cellOf env n=pure c:=by unfold cellOf;rw[hc]
       simp only[beq_self_eq_true,if_true,e];unfold clos;rw[ja rfl,hc];exact ihr _
     . have e:((n,k).2==NameKind.free)=false:=beq_eq_false_iff_ne.mpr hk;simp only[e];unfold clos;rw[j9 hk];exact ihr _
 have:=main scope.names [] h;have e:(forIn scope.names ([]:List (Str×Addr)) (λx r=>match x with
     | (name,kind)=>if (kind==NameKind.free)=true then do let c <-cellOf env name;pure (ForInStep.yield ((name,c)::r)) else pure (ForInStep.yield r)):Sem (List (Str×Addr)))=pure (clos env.cells scope.names []):=by
   rw[<-this]
 show((forIn scope.names ([]:List (Str×Addr)) (λx r=>match x with
     | (name,kind)=>if (kind==NameKind.free)=true then do let c <-cellOf env name;pure (ForInStep.yield ((name,c)::r)) else pure (ForInStep.yield r)):Sem (List (Str×Addr)))>>=pure)=_
 rw[e];rfl
theorem HY:∀{l:List (Str×NameKind)} {acc:List (Str×Addr)},(∀y∈l,y.2= .free->∃c,cells.lookup y.1=some c)->vS cells acc->vS cells (clos cells l acc)
 | [],_,_,h=>h
 | (n,k)::r,acc,hy,h=>by
   unfold clos;refine HY (λz hz=>hy z (wCq _ hz)) ?_;split
   . rename_i hk;obtain⟨c,hc⟩:=hy (n,k) (wDq ..) hk;exact⟨by rw[hc];rfl,h⟩
   . exact h
theorem vM:∀{l:List (Str×NameKind)} {acc:List (Str×Addr)} {n:Str},((∃c,(n,c)∈acc)∨(n,NameKind.free)∈l)->∃c,(n,c)∈clos cells l acc
 | [],_,_,h=>by
   rcases h with h|h
   . exact h
   . cases h
 | (m,k)::r,acc,n,h=>by
   unfold clos;refine vM ?_;rcases h with ⟨c,h⟩|h
   . refine .inl ?_;split
     . exact⟨c,wCq _ h⟩
     . exact⟨c,h⟩
   . rcases List.mem_cons.mp h with e|h
     . cases e;exact .inl ⟨_,by rw[ja rfl];exact wDq ..⟩
     . exact .inr h
theorem xM:∀{cl:List (Str×Addr)} {n:Str},vS cells cl->(∃c,(n,c)∈cl)->∃c,cl.lookup n=some c/\cells.lookup n=some c
 | [],_,_,⟨_,h⟩=>by cases h
 | (m,d)::r,n,ok,⟨c,h⟩=>by
   rw[List.lookup_cons];cases hb:n==m with
   | true =>
     rw[beq_iff_eq.mp hb];exact⟨d,rfl,ok.1⟩
   | false =>
     rcases List.mem_cons.mp h with e|h
     . cases e;rw[beq_self_eq_true] at hb;cases hb
     . exact xM ok.2 ⟨c,h⟩
theorem GR(hcl:vS cells cl):∀{l:List (Str×NameKind)},(∀n,(n,NameKind.free)∈l->∃c,(n,c)∈cl)->lU cl cells l
 | [],_=>trivial
 | (n,k)::r,h=>⟨λe=>by subst e;exact xM hcl (h n (wDq ..)),GR hcl λm hm=>h m (wCq _ hm)⟩
structure Cfg where
 N:List Str
 names:List (Str×NameKind)
 blk:Bool:=false
 fns:List Str:=[]
 mks:List Str:=[]
 shs:List (Str×Nat×List Str×List Ar):=[]
 mkk:List (Str×List Str×List Ar):=[]
 gls:List Str:=[]
 tys:List Str:=[]
 blt:List Str:=[]
 M:List Str:=[]
 dv:List Str:=[]
 fz:List Str:=[]
 nv:Bool:=false
 sv:List Str:=[]
 rm:Bool:=false
 eqs:List (J6×Str):=[]
 own:List Str:=[]
 ls:List Str:=[]
 nes:List (J6×Str):=[]
 lns:List (J6×Str):=[]
 ows:List (Str×List (J6×Str)):=[]
 gds:List (Str×List (Str×Str)):=[]
 fvs:List (Str×Nat×List Ar):=[]
 mkp:List (Str×Nat×List Str×List Ar):=[]
 rp:Bool:=false
 exs:List (J6×Str):=[]
 ky:List (Str×Str):=[]
 rz:Bool:=false
 xcl:List (Str×Str):=[]
 xis:List Str:=[]
 xat:List Str:=[]
 tr:Bool:=false
 tky:List (Str×Str):=[]
 cat:List J6:=[]
 cln:List Str:=[]
 cm:Bool:=true
 hs:Bool:=false
 hfn:List Str:=[]
 tq:Bool:=false
 mts:List (Str×Nat×List Str×List (J6×Str×List Ar)):=[]
 tmts:List (Str×Nat×List Str×List (J6×Str×List Ar)):=[]
 bmts:List (Str×Nat×List Str×List (J6×Str×List Ar)):=[]
 byk:List (Str×Str):=[]
 bky:List (Str×Str):=[]
 lms:List (Str×List (J6×Str)):=[]
 lav:List Str:=[]
 lfn:List Str:=[]
noncomputable def Cfg.key(C:Cfg)(x:Str):Str:=(C.ky.lookup x).getD x
noncomputable def Cfg.inT(C:Cfg):Cfg:={C with ky:=C.tky,rz:=true,tr:=false,mts:=C.tmts,lms:=[],lav:=[]}
noncomputable def Cfg.inH(C:Cfg):Cfg:={C with fns:=C.hfn,mks:=[],shs:=[],mkk:=[],mkp:=[],eqs:=[],nes:=[],lns:=[],ows:=[],fvs:=[],exs:=[],ky:=[],rz:=false,xcl:=[],tr:=false,cm:=false,mts:=[],bmts:=[],byk:=[],bky:=[],lms:=[],lav:=[]}
noncomputable def Cfg.inL(C:Cfg)(x y:Str)(nm:List (Str×NameKind)):Cfg:={N:=[x,y],names:=nm,blk:=true,fns:=C.lfn,gls:=C.gls,tys:=C.tys,blt:=C.blt}
noncomputable def slot:List Str->Str->Option Nat
 | [],_=>none
 | y::r,x=>if y=x then some 0 else(slot r x).map (· + 1)
theorem nS:∀{N:List Str} {x:Str} {i:Nat},slot N x=some i->N[i]? =some x
 | [],_,_,h=>by cases h
 | y::r,x,i,h=>by
   unfold slot at h;split at h
   . rename_i e;cases h;rw[e];rfl
   . cases e:slot r x with
     | none=>rw[e] at h;cases h
     | some j =>
       rw[e] at h;cases h;rw[List.getElem?_cons_succ];exact nS e
noncomputable def aCe(C:Cfg)(x:Str):Bool:=match C.names.lookup x with
 | some .local=>true
 | some .cell=>true
 | some .free=>true
 | _=>false
noncomputable def DA(C:Cfg)(x:Str):Bool:=match C.names.lookup x with
 | some .local=>true
 | some .cell=> !C.blk||C.own.contains x
 | _=>false
noncomputable def glB(C:Cfg)(x:Str):Bool:=C.names.lookup x==some .globalImplicit
noncomputable def QD(x:Str):Bool:= !(x==("__debug__":Str))&&!(x==("__classdict__":Str))
noncomputable def cH:Expr->Bool
 | .Starred .. =>true
 | _=>false
noncomputable def EU:Expr->Bool
 | .Call (.Name x _) [] [] _=>x==("super":Str)
 | _=>false
noncomputable def iK:Expr->Bool
 | .Set .. =>true
 | _=>false
noncomputable def KE:Expr->Bool
 | .Slice .. =>true
 | _=>false
noncomputable def uP:Expr->Bool
 | .ListComp .. | .SetComp .. | .DictComp .. =>true
 | _=>false
noncomputable def OH:List (Str×Bn):=[("len",.len),("abs",.abs),("max",.max),("min",.min),("int",.int),("str",.str),("isinstance",.isi),("tuple",.tuple),("list",.list),("all",.all),("any",.any),("sum",.sum),("bool",.bool),("repr",.repr),("divmod",.divmod)]
noncomputable def kwN:List Keyword->Option (List Str)
 | []=>some []
 | ⟨some n,_,_⟩::r=>(kwN r).map (n::·)
 | ⟨none,_,_⟩::_=>none
noncomputable def gX(C:Cfg)(sc:Scope):List (Str×NameKind):=sc.names.map λ(n,k)=>if (k==.free&&C.names.lookup n==some .cell) then(n,.cell) else(n,k)
def fF(C:Cfg):List (Str×NameKind)->List (Str×Option Nat)
 | []=>[]
 | (n,k)::r=>match k with
   | .local=>(n,none)::fF C r
   | .cell=>(n,none)::fF C r
   | .free=>match slot C.N n with
     | some j=>if C.names.lookup n=some .cell then(n,some j)::fF C r else fF C r
     | none=>fF C r
   | _=>fF C r
def IR(C:Cfg)(sc:Scope):Bool:=sc.kind==.function&&sc.names.all (λy=>(y.2 !=.cell||!sc.names.contains (y.1,.free))&&(y.2 !=.local||sc.names.lookup y.1==some .local)&&(y.2 !=.free||C.names.lookup y.1==some .cell))&&decide (((fF C sc.names).map (·.1)).Nodup)
 && (fF C sc.names).all (λp=>p.2.isNone||((gX C sc).lookup p.1==some .cell))
def gW(C:Cfg)(sc:Scope):Bool:=C.cm&&IR C sc
def bX(C:Cfg)(sc:Scope):Cfg:={C with N:=(fF C sc.names).map (·.1),names:=gX C sc,blk:=true,own:=(sc.names.filter (λy=>y.2==.cell)).map (·.1),ky:=[],rz:=false,xcl:=[],tr:=false,mts:=C.bmts,byk:=C.bky,lms:=[],lav:=[]}
structure Fk(P:J7)(w:World)(K:W.Frag)(mg:Str->Option Value)(base:Heap)(E:Ev)(T:Tb)(k:Nat)(f y:Str)(ad:Addr)(fd:J8)(ps:List Str):Prop where
 ok:bM P w K mg base CX0 k ad fd ps (gF E (T.S y))
 mg:mg f=some (.ref ad)
 kp:W.keepIn K (.ref ad)=true
 db:(f==("__debug__":Str))=false
structure Mf(P:J7)(w:World)(K:W.Frag)(mg:Str->Option Value)(base:Heap)(E:Ev)(T:Tb)(k:Nat)(x:Str)(c:J6)(xi:Str)(ad:Addr)(fd:J8)(ps:List Str):Prop where
 mkr:Mk K (E.cls c) ad
 ok:bM P w K mg base CX0 k ad fd ps (gF E (T.S xi))
 mg:mg x=some (.ref (E.cls c))
 ms:BX T c x xi
 db:(x==("__debug__":Str))=false
noncomputable def up1:Ar->Ar
 | .arg i=>.arg (i+1)
 | a=>a
structure FkX(P:J7)(w:World)(K:W.Frag)(mg:Str->Option Value)(base:Heap)(E:Ev)(T:Tb)(k:Nat)(f y:Str)(ad:Addr)(fd:J8)(ps:List Str):Prop where
 ok:∃S0 X0,bM P w K mg base (CXo P w) k ad fd ps (AN E S0 X0)/\∀xs G Q,T.S y xs G Q->S0 xs G Q∨X0 xs G T.xp
 mg:mg f=some (.ref ad)
 kp:W.keepIn K (.ref ad)=true
 db:(f==("__debug__":Str))=false
structure MfX(P:J7)(w:World)(K:W.Frag)(mg:Str->Option Value)(base:Heap)(E:Ev)(T:Tb)(k:Nat)(x y:Str)(c:J6)(xi:Str)(ad:Addr)(fd:J8)(ps:List Str):Prop where
 mkr:Mk K (E.cls c) ad
 ok:∃S0 X0,bM P w K mg base (CXo P w) k ad fd ps (AN E S0 X0)/\∀xs G Q,T.S xi xs G Q->S0 xs G Q∨X0 xs G T.xp
 mg:mg x=some (.ref (E.cls c))
 ms:BX T c y xi
 db:(x==("__debug__":Str))=false
def aFC(P:J7)(w:World)(K:W.Frag)(mg:Str->Option Value)(base:Heap)(E:Ev)(T:Tb)(k:Nat)(x y:Str):Prop :=
 (∃c f fd ps Bn fld,XIn K mg (E.cls c) f Bn fld/\mg x=some (.ref (E.cls c))/\bM P w K mg base CX0 k f fd ps (spI (E.cls c) fld)/\L2.bG K fd ps []/\∀xs G Q,T.S y xs G Q->∃v,xs=[v]/\T.xp c [fld] [v] G)∨False
def ac{α:Type}{P:α->Prop}{x:α}{l:List α}(h:P x)(t:∀y∈l,P y):∀y∈x::l,P y:=List.forall_mem_cons.mpr ⟨h,t⟩
def an{α:Type}{P:α->Prop}:∀y∈([]:List α),P y:=λ_ h=>nomatch h
structure Gf(P:J7)(w:World)(K:W.Frag)(mg:Str->Option Value)(base:Heap)(E:Ev)(T:Tb)(k:Nat)(C:Cfg):Prop where
 fns:∀f∈C.fns,∃ad fd ps,Fk P w K mg base E T k f f ad fd ps/\L2.bG K fd ps []:=by walk_at "gg"
 mks:∀x∈C.mks,∃c xi ad fd ps,Mf P w K mg base E T k x c xi ad fd ps/\L2.bG K fd ps []:=by walk_at "gg"
 shs:∀s∈C.shs,∃ad fd ps,Fk P w K mg base E T k s.1 s.1 ad fd ps/\fP K fd ps s.2.1 s.2.2.1 s.2.2.2:=by walk_at "gg"
 mkk:∀s∈C.mkk,∃c xi ad fd ps,Mf P w K mg base E T k s.1 c xi ad fd ps/\fP K fd ps 1 s.2.1 (.arg 0::s.2.2.map up1):=by walk_at "gg"
 gls:∀x∈C.gls,∃u v,mg x=some u/\aM v u/\RP E (λ_=>none) (T.gv x) v:=by walk_at "gg"
 tys:∀x∈C.tys,mg x=none/\(∃n,bootBuiltins x=some (.type n)/\T.gv x= .ty n)/\x≠"__name__":=by walk_at "gg"
 blt:∀x∈C.blt,mg x=none:=by walk_at "gg"
 eqs:∀y∈C.eqs,∃ad fd,wB K (E.cls y.1) "__eq__" ad/\bM P w K mg base CX0 k ad fd ["self","other"] (gF E (T.S y.2))/\L2.bG K fd ["self","other"] []:=by walk_at "gg"
 nes:∀y∈C.nes,∃ad fd,NeC K (E.cls y.1)/\wB K (E.cls y.1) "__eq__" ad/\bM P w K mg base CX0 k ad fd ["self","other"] (gF E (T.S y.2))/\L2.bG K fd ["self","other"] []:=by walk_at "gg"
 lns:∀y∈C.lns,∃ad fd,NeC K (E.cls y.1)/\wB K (E.cls y.1) "__len__" ad/\bM P w K mg base CX0 k ad fd ["self"] (gF E (T.S y.2))/\L2.bG K fd ["self"] []:=by walk_at "gg"
 ows:∀y∈C.ows,∀b,OH.lookup y.1=some b->∀z∈y.2,∃ad fd k0 nm,k0+2<=k/\bwN b=some nm/\NeC K (E.cls z.1)/\wB K (E.cls z.1) nm ad/\bM P w K mg base CX0 k0 ad fd ["self"] (gF E (T.S z.2))/\L2.bG K fd ["self"] []:=by walk_at "gg"
 gds:∀y∈C.gds,∃a es n,mg y.1=some (.ref a)/\K.lookup a=some ⟨.type "dict",none,.dict es n,#[]⟩/\W.KeysLit w.params es.toList/\(a==sysModules)=false/\∀z,findBy Value.isStrOf es z=(y.2.lookup z).map λf=>.ref (E.fna f):=by walk_at "gg"
 fvs:∀y∈C.fvs,∃fd ps,bM P w K mg base CX0 k (E.fna y.1) fd ps (gF E (T.S y.1))/\W.keepIn K (.ref (E.fna y.1))=true/\fP K fd ps y.2.1 [] y.2.2:=by walk_at "gg"
 mkp:∀s∈C.mkp,∃c xi ad fd ps,Mf P w K mg base E T k s.1 c xi ad fd ps/\fP K fd ps (s.2.1+1) s.2.2.1 (.arg 0::s.2.2.2.map up1):=by walk_at "gg"
 exs:∀y∈C.exs,∃ad fd,NeC K (E.cls y.1)/\wB K (E.cls y.1) "__eq__" ad/\bM P w K mg base CX0 k ad fd ["self","other"] (gF E (T.S y.2))/\L2.bG K fd ["self","other"] []/\EqL K (E.cls y.1)/\∀d∈T.cs,d≠y.1->EqD K (E.cls y.1) (E.cls d):=by walk_at "gg"
 kr:∀y∈C.ky,C.rz=true:=by walk_at "gg"
 kf:∀y∈C.ky,(y.1∈C.fns->∃ad fd ps,FkX P w K mg base E T k y.1 y.2 ad fd ps/\L2.bG K fd ps [])/\(y.1∈C.mks->∃c xi ad fd ps,MfX P w K mg base E T k y.1 y.2 c xi ad fd ps/\L2.bG K fd ps []):=by walk_at "gg"
 ks:∀s∈C.shs,∀y∈C.ky,y.1=s.1->∃ad fd ps,FkX P w K mg base E T k s.1 y.2 ad fd ps/\fP K fd ps s.2.1 s.2.2.1 s.2.2.2:=by walk_at "gg"
 km:∀s∈C.mkk,∀y∈C.ky,y.1=s.1->∃c xi ad fd ps,MfX P w K mg base E T k s.1 y.2 c xi ad fd ps/\fP K fd ps 1 s.2.1 (.arg 0::s.2.2.map up1):=by walk_at "gg"
 kp:∀s∈C.mkp,∀y∈C.ky,y.1=s.1->∃c xi ad fd ps,MfX P w K mg base E T k s.1 y.2 c xi ad fd ps/\fP K fd ps (s.2.1+1) s.2.2.1 (.arg 0::s.2.2.2.map up1):=by walk_at "gg"
 xc:∀y∈C.xcl,aFC P w K mg base E T k y.1 y.2:=by walk_at "gg"
 mts:∀s∈C.mts,∀y∈s.2.2.2,∃ad fd ps,Cls K (E.cls y.1)/\wB K (E.cls y.1) s.1 ad/\fP K fd ps (s.2.1+1) s.2.2.1 (.arg 0::y.2.2.map upA)/\
   (bM P w K mg base CX0 k ad fd ps (gF E (T.S y.2.1))∨(C.rz=true/\∃S0 X0,bM P w K mg base (CXo P w) k ad fd ps (AN E S0 X0)/\∀xs G Q,T.S y.2.1 xs G Q->S0 xs G Q∨X0 xs G T.xp)):=by walk_at "gg"
 bmts:∀s∈C.bmts,∀y∈s.2.2.2,∃ad fd ps,Cls K (E.cls y.1)/\wB K (E.cls y.1) s.1 ad/\fP K fd ps (s.2.1+1) s.2.2.1 (.arg 0::y.2.2.map upA)/\bM P w K mg base CX0 k ad fd ps (gF E (T.S y.2.1)):=by walk_at "gg"
 byk:∀y∈C.byk,∃ad fd ps,Fk P w K mg base E T k y.1 y.2 ad fd ps/\L2.bG K fd ps []:=by walk_at "gg"
 bky:∀y∈C.bky,∃ad fd ps,Fk P w K mg base E T k y.1 y.2 ad fd ps/\L2.bG K fd ps []:=by walk_at "gg"
def aDi(K:W.Frag)(mg:Str->Option Value)(E:Ev)(cat:List J6)(ns:List Str):Prop:= ∃cs:List Addr,(∀p∈ns.zip cs,mg p.1=some (.ref p.2))/\ns.length=cs.length/\(∀c∈cs,LX.aEb K c=true/\W.typeIn K (.ref c)=some (.type "type"))/\W.subIn K (.type "type") (.type "tuple")=some false/\∀c∈cat,LX.aAe K (E.cls c) cs=some true
structure Tf(P:J7)(w:World)(K:W.Frag)(mg:Str->Option Value)(base:Heap)(E:Ev)(T:Tb)(k:Nat)(C:Cfg):Prop where
 tr:C.tr=true->∀x f z,Gf P w K mg base (E.at f z) (T.at x) k C.inT
 ca:C.tr=true->aDi K mg E C.cat C.cln
 hh:C.tr=true->C.hs=true->∃kh,kh+1<40/\kh<=k/\Gf P w K mg base E T kh C.inH
structure Lq(X:Cx)(E:Ev)(T:Tb)(k:Nat)(C:Cfg):Prop where
 lm:C.lms≠[]->aF9 X/\∃kk,40<=kk/\(∀f z x y nm,Gf X.prog X.w X.K X.mg X.base (E.at f z) T kk (C.inL x y nm))/\∀s∈C.lms,∀y∈s.2,aFU X.prog X.w X.K X.mg X.base E T k (kk+2) s.1 1 y
 lv:C.lav≠[]->VO X.prog X.w X.K X.mg X.base E T k
def Lq.no{X:Cx}{E:Ev}{T:Tb}{k:Nat}{C:Cfg}(h1:C.lms=[])(h2:C.lav=[]):Lq X E T k C:=⟨λh=>absurd h1 h,λh=>absurd h2 h⟩
structure Kn(X:Cx)(E:Ev)(T:Tb)(k:Nat)(C:Cfg):Prop where
 pl:Pl X E T (k+1)
 N:X.N=C.N
 nd:C.N.Nodup
 nm:X.env.scope.names=C.names
 kd:X.env.scope.kind= .function
 fn:∀x,(C.blk=false∨x∈C.own)->X.fn x=true
 ce:∀x,C.names.lookup x=some .cell->∃c,X.env.cells.lookup x=some c
 ps:PassesOwn (model X.prog X.w) X.A X.env X.xe
 gf:Gf X.prog X.w X.K X.mg X.base E T k C
 ow:(C.rz=true∨C.tr=true)->Own X
 xk:C.rz=true->∃EX,(∀e s',xeO X EX e s'->X.xe e s')/\KX E E.f0 E.z0 T.xp EX
 xi:aFN X E T
 cm:C.cm=true->40<=k
 gu:C.rp=true->X.A.guards=some []
 tf:Tf X.prog X.w X.K X.mg X.base E T k C
 lq:Lq X E T k C
def VE:∀y∈OH,bootBuiltins y.1=some (aA3 y.2)/\y.1≠"__name__"/\(y.1==("__debug__":Str))=false:=by
 intro y hy;simp only[OH,List.mem_cons,List.not_mem_nil,or_false] at hy;rcases hy with rfl|rfl|rfl|rfl|rfl|rfl|rfl|rfl|rfl|rfl|rfl|rfl|rfl|rfl|rfl<;>exact⟨by first|exact PySem.boot_len|(with_unfolding_all rfl),by decide,by decide⟩
theorem aZ{α β:Type}[BEq α][LawfulBEq α]:∀{l:List (α×β)} {x:α} {b:β},l.lookup x=some b->(x,b)∈l
 | [],_,_,h=>by cases h
 | (y,c)::r,x,b,h=>by
   rw[List.lookup_cons] at h;cases e:x==y with
   | true=>rw[e] at h;cases h;rw[beq_iff_eq.mp e];exact wDq ..
   | false=>rw[e] at h;exact wCq _ (aZ h)
section
variable{X:Cx}{E:Ev}{T:Tb}{k:Nat}{C:Cfg}
def Kn.vis(K:Kn X E T k C)(h:aCe C x=true):Vis X.env.scope x:=by
 unfold aCe at h;unfold Vis;rw[K.nm];split at h
 . rename_i e;exact .inl e
 . rename_i e;exact .inr (.inl e)
 . rename_i e;exact .inr (.inr e)
 . cases h
def Kn.loc(K:Kn X E T k C)(h:DA C x=true):L2.Loc X.env.scope x/\(X.fn x=true∨X.env.scope.names.lookup x=some .local):=by
 unfold DA at h;unfold L2.Loc;rw[K.nm];split at h
 . rename_i e;exact⟨.inl e,.inr e⟩
 . rename_i e;exact⟨.inr e,.inl (K.fn x (by
     rw[Bool.or_eq_true] at h;exact h.imp (λz=>by simpa using z) λz=>List.contains_iff_mem.mp z))⟩
 . cases h
def Kn.gl(K:Kn X E T k C)(h:glB C x=true):Gl X x:=by
 unfold glB at h;unfold Gl Env.kindOf;rw[K.nm];exact beq_iff_eq.mp h
def mW(h:C.ky.lookup x=none):C.key x=x:=by unfold Cfg.key;rw[h];rfl
def nF(h:C.ky.lookup x=some y):C.key x=y:=by unfold Cfg.key;rw[h];rfl
def Kn.co(K:Kn X E T k C)(hz:C.rz=true){y:Str}{ad:Addr}{fd:J8}{ps:List Str}{j:Nat}(F:∃S0 X0,bM X.prog X.w X.K X.mg X.base (CXo X.prog X.w) j ad fd ps (AN E S0 X0)/\∀xs G Q,T.S y xs G Q->S0 xs G Q∨X0 xs G T.xp):Co X E (T.S y) j ad fd ps:=by
 obtain⟨S0,X0,F,h⟩:=F;obtain⟨EX,hx,kx⟩:=K.xk hz;exact Co.ofX F h hx kx
def bC(h:cH e=false):starEach (e::es) env=(false,eval e env)::starEach es env:=by
 cases e<;>first|rfl|(cases h)
def AS(h:cH e=false):assignEach (e::es) env=(false,assign e env)::assignEach es env:=by
 cases e<;>first|rfl|(cases h)
def xB(h:EU o=false):attributeBase o f env w=w:=by
 unfold attributeBase;split
 . rename_i x _ _;have h:(x==("super":Str))=false:=h;rw[ja];rw[show(x !=(Str.ofString "super"))=true by show(!(x==("super":Str)))=true;rw[h];rfl];rfl
 . rfl
def uW(h:iK b=false):behindInMarks op b=false:=by
 cases b<;>first|rfl|(cases h)
def dP(h:iK e=false):∀x,foldedSetIterable e env x=pure x:=by
 intro x;cases e<;>first|rfl|(cases h)
def FE(h:KE e=false):yV e:=by
 intro o i;cases e<;>first|rfl|(cases h)
def tJ(K:Kn X E T k C)(sc:Scope):(relabel sc X.env).names=gX C sc:=by
 unfold relabel gX Env.kindOf;rw[K.nm,K.kd];simp
theorem EN(K:Kn X E T k C):∀{l:List (Str×Option Nat)},(∀p∈l,∀j,p.2=some j->X.N[j]? =some p.1/\X.env.kindOf p.1=some .cell/\(relabel sc X.env).names.lookup p.1=some .cell/\∃c,cl.lookup p.1=some c/\X.env.cells.lookup p.1=some c)->fZ X sc cl (l.map (·.1)) (l.map (·.2))
 | [],_=>trivial
 | (n,none)::r,h=>by
   show fZ X sc cl (r.map (·.1)) (r.map (·.2));exact EN K λp hp=>h p (wCq _ hp)
 | (n,some j)::r,h=>⟨h _ (wDq ..) j rfl,EN K λp hp=>h p (wCq _ hp)⟩
theorem fW:∀{l:List (Str×NameKind)} {p:Str×Option Nat} {j:Nat},p∈fF C l->p.2=some j->(p.1,NameKind.free)∈l/\slot C.N p.1=some j/\C.names.lookup p.1=some .cell
 | [],_,_,h,_=>by cases h
 | (n,kk)::r,p,j,h,e=>by
   unfold fF at h;split at h
   . rcases List.mem_cons.mp h with z|z
     . subst z;cases e
     . obtain⟨a,b⟩:=fW z e;exact⟨wCq _ a,b⟩
   . rcases List.mem_cons.mp h with z|z
     . subst z;cases e
     . obtain⟨a,b⟩:=fW z e;exact⟨wCq _ a,b⟩
   . split at h
     . rename_i j' hs;split at h
       . rename_i hc;rcases List.mem_cons.mp h with z|z
         . subst z;cases e;exact⟨wDq ..,hs,hc⟩
         . obtain⟨a,b⟩:=fW z e;exact⟨wCq _ a,b⟩
       . obtain⟨a,b⟩:=fW h e;exact⟨wCq _ a,b⟩
     . obtain⟨a,b⟩:=fW h e;exact⟨wCq _ a,b⟩
   . obtain⟨a,b⟩:=fW h e;exact⟨wCq _ a,b⟩
theorem HM:∀{l:List (Str×NameKind)} {acc:List (Str×Addr)} {n:Str} {c:Addr},(n,c)∈clos cells l acc->(n,c)∈acc∨(n,NameKind.free)∈l
 | [],_,_,_,h=>.inl h
 | (m,k)::r,acc,n,c,h=>by
   unfold clos at h;rcases HM h with z|z
   . split at z
     . rename_i hk;rcases List.mem_cons.mp z with e|z
       . cases e;subst hk;exact .inr (wDq ..)
       . exact .inl z
     . exact .inl z
   . exact .inr (wCq _ z)
def yX(h:gW C sc=true):C.cm=true:=by
 unfold gW at h;simp only[Bool.and_eq_true] at h;exact h.1
def HD(h:gW C sc=true):IR C sc=true:=by
 unfold gW at h;simp only[Bool.and_eq_true] at h;exact h.2
def Kn.block(K:Kn X E T k C)(h:IR C sc=true):∃cl,cG X ((fF C sc.names).map (·.1)) sc cl ((fF C sc.names).map (·.2))/\∀C0 s₀ H₀ ex,Kn (cxC X ((fF C sc.names).map (·.1)) sc cl C0 s₀ H₀ ex) E T k (bX C sc):=by
 unfold IR at h;simp only[Bool.and_eq_true,List.all_eq_true,decide_eq_true_eq] at h;obtain⟨⟨⟨hk,hn⟩,hd⟩,hc⟩:=h;have hk:sc.kind= .function:=beq_iff_eq.mp hk;have fr:∀y∈sc.names,y.2= .free->C.names.lookup y.1=some .cell:=λy hy e=>by
   have:=(hn y hy).2;rw[e] at this;simpa using this
 have ncell:∀x,(x,NameKind.cell)∈sc.names->(x,NameKind.free)∉sc.names:=λx hx hf=>by
   have:=(hn _ hx).1.1;simp[hf] at this
 have hf:∀y∈sc.names,y.2= .free->∃c,X.env.cells.lookup y.1=some c:=λy hy e=>K.ce y.1 (fr y hy e);have hcl:vS X.env.cells (clos X.env.cells sc.names []):=HY hf trivial;have look:∀n,(n,NameKind.free)∈sc.names->∃c,(clos X.env.cells sc.names []).lookup n=some c/\X.env.cells.lookup n=some c:=λn hn=>xM hcl (vM (.inr hn));refine⟨clos X.env.cells sc.names [],⟨YI hf,(λx hx=>by
   cases e:(clos X.env.cells sc.names []).lookup x with
   | none=>rfl
   | some c =>
     rcases HM (aZ e) with z|z
     . cases z
     . exact absurd z (ncell x hx)),hk,λy hy e=>?_,GR hcl λn hn=>vM (.inr hn),hcl,EN K λp hp j e=>?_⟩,λC0 s₀ H₀ ex=>⟨⟨K.pl.hK,K.pl.calm,K.pl.room,K.pl.cls,K.pl.fld⟩,rfl,hd,tJ K sc,hk,(λx z=>by
   rcases z with z|z
   . cases z
   . obtain⟨y,hy,e⟩:=List.mem_map.mp z;obtain⟨h1,h2⟩:=List.mem_filter.mp hy;subst e;refine List.contains_iff_mem.mpr ?_;rw[show(y.1,NameKind.cell)=y from by rw[<-beq_iff_eq.mp h2]];exact h1),λx hx=>?_,PassesOwn.never,⟨K.gf.fns,K.gf.mks,K.gf.shs,K.gf.mkk,K.gf.gls,K.gf.tys,K.gf.blt,K.gf.eqs,K.gf.nes,K.gf.lns,K.gf.ows,K.gf.gds,K.gf.fvs,K.gf.mkp,K.gf.exs,(λ_ h=>nomatch h),(λ_ h=>nomatch h),(λ_ _ _ h=>nomatch h),(λ_ _ _ h=>nomatch h),(λ_ _ _ h=>nomatch h),(λ_ h=>nomatch h),(λs hs y hy=>let ⟨ad,fd,ps,a,b,c,d⟩:=K.gf.bmts s hs y hy;⟨ad,fd,ps,a,b,c,.inl d⟩),K.gf.bmts,K.gf.bky,K.gf.bky⟩,(λh=>by rcases h with h|h<;>cases h),(λh=>by cases h),⟨K.xi.xi,K.xi.fx⟩,K.cm,K.gu,⟨(λh=>by cases h),(λh=>by cases h),(λh=>by cases h)⟩,.no rfl rfl⟩⟩
 . have:=(hn y hy).1.2;rw[e] at this;simpa using this
 . obtain⟨hm,hs,hcell⟩:=fW hp e;refine⟨by rw[K.N];exact nS hs,by unfold Env.kindOf;rw[K.nm];exact hcell,?_,look _ hm⟩;rw[tJ K sc];have:=hc p hp;rw[e] at this;simpa using this
 . have hx:(gX C sc).lookup x=some .cell:=hx;have hm:=aZ hx;unfold gX at hm;obtain⟨⟨n,kk⟩,hy,e⟩:=List.mem_map.mp hm;have e':(if (kk==NameKind.free&&C.names.lookup n==some NameKind.cell)=true then(n,NameKind.cell) else(n,kk))=(x,NameKind.cell):=e;split at e'
   . rename_i hcond;cases e';have:kk= .free:=by
       rw[Bool.and_eq_true] at hcond;exact beq_iff_eq.mp hcond.1
     subst this;obtain⟨c,h1,_⟩:=look x hy;exact⟨c,pK (λz=>ncell x z hy) h1⟩
   . cases e';obtain⟨c,h1,_⟩:=wM (n:=C0+1) (cl:=clos X.env.cells sc.names []) hy;exact⟨c,h1⟩
theorem jP:∀{kws:List Keyword} {ks:List Str},kwN kws=some ks->(backToKw pos (keywordEach kws env)).all (·.1.isSome)=true/\(backToKw pos (keywordEach kws env)).filterMap (·.1)=ks/\(backToKw pos (keywordEach kws env)).any (·.1.isNone)=false/\kws.length=ks.length
 | [],ks,h=>by cases h;exact⟨rfl,rfl,rfl,rfl⟩
 | ⟨some n,v,p⟩::r,ks,h=>by
   unfold kwN at h;cases e:kwN r with
   | none=>rw[e] at h;cases h
   | some l =>
     rw[e] at h;cases h;obtain⟨a,b,c,d⟩:=jP (pos:=pos) (env:=env) e;refine⟨?_,?_,?_,by rw[List.length_cons,List.length_cons,d]⟩
     . show(true&&(backToKw pos (keywordEach r env)).all (·.1.isSome))=true;rw[a];rfl
     . show n::(backToKw pos (keywordEach r env)).filterMap (·.1)=n::l;rw[b]
     . show(false||(backToKw pos (keywordEach r env)).any (·.1.isNone))=false;rw[c];rfl
 | ⟨none,v,p⟩::r,ks,h=>by cases h
end
abbrev Rk(C:Cfg)(J:Cx->Ev->Tb->CE->Prop):={c:CE // ∀{X E T k},Kn X E T k C->J X E T c}
abbrev RE(C:Cfg)(e:Expr):=Rk C λX E T c=>JE X E e (wpE T c)
abbrev RT(C:Cfg)(e:Expr):=Rk C λX E T c=>JT X E e (wpT T c)
abbrev RL(C:Cfg)(es:List Expr):={a:Rk C λX E T c=>JA X E es (wpL T c) // ∀e∈es,cH e=false}
abbrev RK(C:Cfg)(ks:List Keyword):=Rk C λX E T c=>JK X E ks (wpL T c)
abbrev RB(C:Cfg)(op:BoolOp)(vs:List Expr):=Rk C λX E T c=>∀pos,JE X E (.BoolOp op vs pos) (wpE T c)
abbrev RWb(C:Cfg)(op:BoolOp)(vs:List Expr):=Rk C λX E T c=>∀pos,JW X E (.BoolOp op vs pos) (wpT T c)
abbrev ROp(C:Cfg)(o:Option Expr):=Rk C λX E T c=>JO X E o (wpO T c)
abbrev RTs(C:Cfg)(l:List Expr):=Rk C λX E T c=>wA X E l (wpT T c)
abbrev RG(C:Cfg)(e:Expr):=Rk C λX E T c=>JG X E e (wpG T c)
abbrev RGs(C:Cfg)(es:List Expr):={a:Rk C λX E T c=>JGs X E es (cQ T c) // ∀e∈es,cH e=false}
abbrev RI(C:Cfg)(tg e:Expr):=Rk C λX E T c=>JI X E tg e (wpI T c)
structure Tr where
 e:∀(C:Cfg) (m:Bool) (e:Expr),Option (RE C e)
 t:∀(C:Cfg) (e:Expr),Option (RT C e)
 l:∀(C:Cfg) (es:List Expr),Option (RL C es)
 kk:∀(C:Cfg) (ks:List Keyword),Option (RK C ks)
 b:∀(C:Cfg) (op:BoolOp) (vs:List Expr),Option (RB C op vs)
 w:∀(C:Cfg) (op:BoolOp) (vs:List Expr),Option (RWb C op vs)
 g:∀(C:Cfg) (e:Expr),Option (RG C e)
 gs:∀(C:Cfg) (es:List Expr),Option (RGs C es)
 i:∀(C:Cfg) (tg e:Expr),Option (RI C tg e)
noncomputable def wth{α:Type}:(o:Option α)->Option {a // o=some a}
 | some a=>some ⟨a,rfl⟩
 | none=>none
noncomputable def ob1{α β:Type}(a:Option α)(f:α->β):Option β:=a.bind λx=>some (f x)
noncomputable def ob2{α β γ:Type}(a:Option α)(b:Option β)(f:α->β->γ):Option γ:=a.bind λx=>b.bind λy=>some (f x y)
def ob3{α β γ δ:Type}(a:Option α)(b:Option β)(c:Option γ)(f:α->β->γ->δ):Option δ:=a.bind λx=>ob2 b c (f x)
def ob4{α β γ δ ε:Type}(a:Option α)(b:Option β)(c:Option γ)(d:Option δ)(f:α->β->γ->δ->ε):Option ε:=a.bind λx=>ob3 b c d (f x)
noncomputable def orE{α:Type}:Option α->Option α->Option α
 | some a,_=>some a
 | none,b=>b
noncomputable def gd{α:Type}(b:Bool)(f:b=true->Option α):Option α:=if h:b=true then f h else none
noncomputable def aF7(C:Cfg):Expr->Bool
 | .List [] _=>C.M.contains "[]"
 | .Call (.Name f _) [_] [] _=>f==("list":Str)&&C.M.contains "[]"
 | _=>false
section
variable{X:Cx}{E:Ev}{T:Tb}{k:Nat}{C:Cfg}
theorem iN:∀{es:List Expr},(∀e∈es,cH e=false)->(backTo pos (starEach es env)).any (·.1)=false
 | [],_=>rfl
 | e::r,h=>by
   rw[bC (h e (wDq ..))];show(false||(backTo pos (starEach r env)).any (·.1))=false;rw[iN λx hx=>h x (wCq _ hx)];rfl
theorem iA:∀{es:List Expr},(∀e∈es,cH e=false)->(assignEach es env).length=es.length/\(assignEach es env).findIdx? (·.1)=none
 | [],_=>⟨rfl,rfl⟩
 | e::r,h=>by
   obtain⟨a,b⟩:=iA (env:=env) (es:=r) λx hx=>h x (wCq _ hx);rw[AS (h e (wDq ..))];refine⟨by rw[List.length_cons,List.length_cons,a],?_⟩;rw[List.findIdx?_cons];simp only[b];rfl
def aAm(h:(!iK c)=true):lastMarks [op,op'] [b,c]=false:=by
 show lastMarks [op'] [c]=false;exact uW (Bool.not_eq_true' _▸h)
def bnf(h:(!b)=true):b=false:=by cases b<;>first|rfl|cases h
def ba2(h:(a&&b)=true):a=true/\b=true:=Bool.and_eq_true_iff.mp h
def HI{α:Type}{l:List α}{p:α->Bool}{s:α}(h:l.find? p=some s):s∈l/\p s=true:=⟨List.mem_of_find?_eq_some h,List.find?_some h⟩
def nN(h:QD x=true):(x==("__debug__":Str))=false/\(x==("__classdict__":Str))=false:=⟨bnf (ba2 h).1,bnf (ba2 h).2⟩
def Kn.sl(K:Kn X E T k C)(h:slot C.N x=some i):X.N[i]? =some x:=by rw[K.N];exact nS h
def Kn.ndX(K:Kn X E T k C):X.N.Nodup:=by rw[K.N];exact K.nd
def Kn.bl(K:Kn X E T k C)(h:C.blt.contains x=true):X.mg x=none:=K.gf.blt _ (List.contains_iff_mem.mp h)
def Kn.rm(K:Kn X E T k C):cJ k X.A:=K.pl.room.mono (Nat.le_succ _)
def Kn.k40(K:Kn X E T k C)(h:C.cm=true):40<=k+1:=Nat.le_succ_of_le (K.cm h)
def rC(h:∀y∈e::r,cH y=false):starEach (e::r) env=(false,eval e env)::starEach r env:=bC (h e (wDq ..))
def xC(h:∀y∈e::r,cH y=false):(backTo pos (starEach r env)).any (·.1)=false:=iN λy hy=>h y (wCq _ hy)
noncomputable def shP{β:Type}(x:Str)(n:Nat)(ks:List Str)(s:Str×Nat×List Str×β):Bool:=s.1==x&&(s.2.1==n&&s.2.2.1==ks)
def DS{β:Type}{x:Str}{l:List (Str×Nat×List Str×β)}{s:Str×Nat×List Str×β}(h:l.find? (shP x n ks)=some s):∃y,s=(x,n,ks,y)/\(x,n,ks,y)∈l:=by
 obtain⟨m,h⟩:=HI h;obtain⟨a,b,c,d⟩:=s;obtain⟨h1,h⟩:=ba2 h;obtain⟨h2,h3⟩:=ba2 h;cases beq_iff_eq.mp h1;cases beq_iff_eq.mp h2;cases beq_iff_eq.mp h3;exact⟨d,rfl,m⟩
def Kn.sh(K:Kn X E T k C){s:Str×Nat×List Str×List Ar}(hm:s∈C.shs):∃ad fd ps,Co X E (T.S (C.key s.1)) k ad fd ps/\X.mg s.1=some (.ref ad)/\W.keepIn X.K (.ref ad)=true/\(s.1==("__debug__":Str))=false/\fP X.K fd ps s.2.1 s.2.2.1 s.2.2.2:=by
 cases hy:C.ky.lookup s.1 with
 | none =>
   rw[mW hy];obtain⟨ad,fd,ps,F,hb⟩:=K.gf.shs s hm;exact⟨ad,fd,ps,.of F.ok,F.mg,F.kp,F.db,hb⟩
 | some y =>
   rw[nF hy];obtain⟨ad,fd,ps,F,hb⟩:=K.gf.ks s hm _ (aZ hy) rfl;exact⟨ad,fd,ps,K.co (K.gf.kr _ (aZ hy)) F.ok,F.mg,F.kp,F.db,hb⟩
def Kn.mkx(K:Kn X E T k C)(hm:s∈C.mkk):∃c xi ad fd ps,Mk X.K (E.cls c) ad/\Co X E (T.S xi) k ad fd ps/\X.mg s.1=some (.ref (E.cls c))/\BX T c (C.key s.1) xi/\(s.1==("__debug__":Str))=false/\fP X.K fd ps 1 s.2.1 (.arg 0::s.2.2.map up1):=by
 cases hy:C.ky.lookup s.1 with
 | none =>
   rw[mW hy];obtain⟨c,xi,ad,fd,ps,F,hb⟩:=K.gf.mkk s hm;exact⟨c,xi,ad,fd,ps,F.mkr,.of F.ok,F.mg,F.ms,F.db,hb⟩
 | some y =>
   rw[nF hy];obtain⟨c,xi,ad,fd,ps,F,hb⟩:=K.gf.km s hm _ (aZ hy) rfl;exact⟨c,xi,ad,fd,ps,F.mkr,K.co (K.gf.kr _ (aZ hy)) F.ok,F.mg,F.ms,F.db,hb⟩
def Kn.mp(K:Kn X E T k C)(hm:s∈C.mkp):∃c xi ad fd ps,Mk X.K (E.cls c) ad/\Co X E (T.S xi) k ad fd ps/\X.mg s.1=some (.ref (E.cls c))/\BX T c (C.key s.1) xi/\(s.1==("__debug__":Str))=false/\fP X.K fd ps (s.2.1+1) s.2.2.1 (.arg 0::s.2.2.2.map up1):=by
 cases hy:C.ky.lookup s.1 with
 | none =>
   rw[mW hy];obtain⟨c,xi,ad,fd,ps,F,hb⟩:=K.gf.mkp s hm;exact⟨c,xi,ad,fd,ps,F.mkr,.of F.ok,F.mg,F.ms,F.db,hb⟩
 | some y =>
   rw[nF hy];obtain⟨c,xi,ad,fd,ps,F,hb⟩:=K.gf.kp s hm _ (aZ hy) rfl;exact⟨c,xi,ad,fd,ps,F.mkr,K.co (K.gf.kr _ (aZ hy)) F.ok,F.mg,F.ms,F.db,hb⟩
def aDP(K:Kn X E T k C)(hg:glB C x=true)(hc:(C.fns.contains x||C.mks.contains x)=true)(a:RL C (e::r)):JE X E (.Call (.Name x p) (e::r) [] pos) (wpE T (.cal (C.key x) a.1.1)):=by
 rw[Bool.or_eq_true,List.contains_iff_mem,List.contains_iff_mem] at hc;cases hy:C.ky.lookup x with
 | none =>
   rw[mW hy];rcases hc with hc|hc
   . obtain⟨ad,fd,ps,F,hb⟩:=K.gf.fns x hc;exact SZ (.of F.ok) K.rm (K.gl hg) F.mg F.kp hb F.db (a.1.2 K) (rC a.2) (xC a.2)
   . obtain⟨c,xi,ad,fd,ps,F,hb⟩:=K.gf.mks x hc;exact NS F.mkr (.of F.ok) K.pl.room (K.gl hg) F.mg hb F.ms F.db (a.1.2 K) (rC a.2) (xC a.2)
 | some y =>
   rw[nF hy];have hz:=K.gf.kr _ (aZ hy);obtain⟨f1,f2⟩:=K.gf.kf _ (aZ hy);rcases hc with hc|hc
   . obtain⟨ad,fd,ps,F,hb⟩:=f1 hc;exact SZ (K.co hz F.ok) K.rm (K.gl hg) F.mg F.kp hb F.db (a.1.2 K) (rC a.2) (xC a.2)
   . obtain⟨c,xi,ad,fd,ps,F,hb⟩:=f2 hc;exact NS F.mkr (K.co hz F.ok) K.pl.room (K.gl hg) F.mg hb F.ms F.db (a.1.2 K) (rC a.2) (xC a.2)
def ZS(K:Kn X E T k C)(hg:glB C x=true)(hk:kwN kws=some ks)(hf:C.shs.find? (shP x (e::r).length ks)=some s)(a:RL C (e::r))(b:RK C kws) :
   JE X E (.Call (.Name x p) (e::r) kws pos) (wpE T (.cak (C.key x) a.1.1 b.1 s.2.2.2)):=by
 obtain⟨y,rfl,hm⟩:=DS hf;obtain⟨k1,k2,k3,k4⟩:=jP (pos:=pos) (env:=X.env) hk;obtain⟨ad,fd,ps,F,mg,kp,db,hb⟩:=K.sh hm;exact aCz F K.rm (K.gl hg) mg kp hb db (a.1.2 K) (b.2 K) rfl k4 k1 k2 (rC a.2) (by rw[iN a.2,k3];rfl)
def aCn(K:Kn X E T k C)(hg:glB C x=true)(hk:kwN kws=some ks)(hf:C.shs.find? (shP x 0 ks)=some s)(b:RK C kws) :
   JE X E (.Call (.Name x p) [] kws pos) (wpE T (.cak (C.key x) .nil b.1 s.2.2.2)):=by
 obtain⟨y,rfl,hm⟩:=DS hf;obtain⟨k1,k2,k3,k4⟩:=jP (pos:=pos) (env:=X.env) hk;obtain⟨ad,fd,ps,F,mg,kp,db,hb⟩:=K.sh hm;exact WA F K.rm (K.gl hg) mg kp hb db (b.2 K) k4 k1 k2 (by rw[k3];rfl)
def aAq(K:Kn X E T k C)(hg:glB C x=true)(hk:kwN kws=some ks)(hf:C.mkk.find? (λs=>s.1==x&&s.2.1==ks)=some s)(b:RK C kws) :
   JE X E (.Call (.Name x p) [] kws pos) (wpE T (.cak (C.key x) .nil b.1 s.2.2)):=by
 obtain⟨hm,hp⟩:=HI hf;obtain⟨s,t,u⟩:=s;cases beq_iff_eq.mp (ba2 hp).1;cases beq_iff_eq.mp (ba2 hp).2;obtain⟨k1,k2,k3,k4⟩:=jP (pos:=pos) (env:=X.env) hk;obtain⟨c,xi,ad,fd,ps,M,F,mg,ms,db,hb⟩:=K.mkx hm;exact ZB M F K.pl.room (K.gl hg) mg hb ms db (b.2 K) k4 k1 k2 (by rw[k3];rfl)
def aCB(K:Kn X E T k C)(hg:glB C x=true)(hk:kwN kws=some ks)(hf:C.mkp.find? (shP x (e::r).length ks)=some s)(a:RL C (e::r))(b:RK C kws) :
   JE X E (.Call (.Name x p) (e::r) kws pos) (wpE T (.cak (C.key x) a.1.1 b.1 s.2.2.2)):=by
 obtain⟨y,rfl,hm⟩:=DS hf;obtain⟨k1,k2,k3,k4⟩:=jP (pos:=pos) (env:=X.env) hk;obtain⟨c,xi,ad,fd,ps,M,F,mg,ms,db,hb⟩:=K.mp hm;exact WX M F K.pl.room (K.gl hg) mg hb ms db (a.1.2 K) (b.2 K) rfl k4 k1 k2 (rC a.2) (by rw[iN a.2,k3];rfl)
def WO(h:KE i=false)(v:Value):assign (.Subscript o i pos') env v=(do
     let ov <-holding [v] (eval o env)
     let iv <-holding [v,ov] (eval i env)
     standAt pos'
     holding [v,ov,iv] (setItem ov iv v)
     release [v,ov,iv] []):=by
 cases i<;>first|rfl|(cases h)
def YG(h:KE i=false)(ov iv new:Value):augStore i ov iv new=(do holding [new,ov,iv] (setItem ov iv new);release [new,ov,iv] [];pure .next):=by
 cases i<;>first|rfl|(cases h)
variable(S:Tr)
def aEa(C:Cfg)(x:Str)(p:Pos):Option (RE C (.Name x p)):=gd (QD x) λhp=>match wth (slot C.N x) with
 | some i=>gd (aCe C x) λhv=>some ⟨.var i.1,λK=>aCZ (K.sl i.2) (K.vis hv) (nN hp).1 (nN hp).2⟩
 | none=>gd (glB C x) λhg=>(gd (C.gls.contains x) λh=>some ⟨.glo x,λK=>by
     obtain⟨u,v,h1,h2,h3⟩:=K.gf.gls _ (List.contains_iff_mem.mp h);exact aCS (K.gl hg) h1 h2 h3 (nN hp).1⟩).or (gd (C.tys.contains x) λh=>some ⟨.glo x,λK=>by
     obtain⟨h1,⟨nn,h2,h3⟩,h4⟩:=K.gf.tys _ (List.contains_iff_mem.mp h);exact aDN (K.gl hg) h1 h2 h3 h4 (nN hp).1⟩)
noncomputable def aDj(C:Cfg)(v:Const)(j:Nat)(p:Pos):Option (RE C (.Constant v j p)):=match v with
 | .int i=>some ⟨.int i,λ_=>aCb⟩
 | .bool b=>some ⟨.bl b,λ_=>aDr⟩
 | .none=>some ⟨.non,λ_=>aAM⟩
 | .str s=>some ⟨.str s,λ_=>aBy⟩
 | _=>none
def aEQ(C:Cfg)(a:Expr)(op:CmpOp)(b:Expr)(p:Pos):Option (RE C (.Compare a [op] [b] p)):=gd (!iK b) λhs =>
 orE (match op with
   | .Eq =>
     none
   | _=>none) <|
 ob2 (S.e C false a) (S.e C false b) λa b=>⟨.cmp op a.1 b.1,λK=>aB1 K.pl (uW (bnf hs)) (a.2 K) (b.2 K)⟩
def aEh(C:Cfg)(a:Expr)(ops:List CmpOp)(bs:List Expr)(p:Pos):Option (RE C (.Compare a ops bs p)):=match ops,bs with
 | [op],[b]=>aEQ S C a op b p
 | [op,op'],[b,c]=>gd (!iK c) λhs =>
   ob3 (S.e C false a) (S.e C false b) (S.e C false c) λa b c=>⟨.chn op op' a.1 b.1 c.1,λK=>aCL K.pl (aAm hs) (a.2 K) (b.2 K) (c.2 K)⟩
 | _,_=>none
def aDJ(C:Cfg)(o:Option Expr):Option (ROp C o):=match o with
 | none=>some ⟨.nil,λ_=>aC8⟩
 | some e=>ob1 (S.e C false e) λe=>⟨.tst e.1,λK=>UZ (e.2 K)⟩
def aEP(C:Cfg)(a s:Expr)(p:Pos):Option (RE C (.Subscript a s p)) :=
 match s with
 | .Slice lo hi none _=>ob3 (S.e C false a) (aDJ S C lo) (aDJ S C hi) λa l h=>⟨.sli a.1 l.1 h.1,λK=>aAW K.pl (a.2 K) (l.2 K) (h.2 K)⟩
 | .Slice none none (some (.UnaryOp .USub (.Constant (.int 1) _ _) _)) _=>ob1 (S.e C false a) λa=>⟨.rev a.1,λK=>aB0 K.pl (a.2 K)⟩
 | s =>
   gd (!KE s) λh=>ob2 (S.e C false a) (S.e C false s) λa i=>⟨.idx a.1 i.1,λK=>aBb K.pl (a.2 K) (i.2 K) (FE (bnf h))⟩
def aGa(C:Cfg)(a:Expr)(f:Str)(p:Pos):Option (RE C (.Attribute a f p)):=gd (!EU a) λh=>ob1 (S.e C false a) λa =>
 ⟨.att a.1 f,λK=>aCj K.pl (a.2 K) (xB (bnf h))⟩
def tZ(C:Cfg)(x:Str)(np:Pos)(e:Expr)(r:List Expr)(p:Pos):Option (RE C (.Call (.Name x np) (e::r) [] p)) :=
 gd (glB C x) λhg=>ob2 (wth (C.mkp.find? (shP x (e::r).length []))) (S.l C (e::r)) λs a=>⟨.cak (C.key x) a.1.1 .nil s.1.2.2.2,λK=>aCB K hg rfl s.2 a ⟨.nil,λ_=>FI⟩⟩
def aFv(C:Cfg)(x:Str)(np:Pos)(e:Expr)(r:List Expr)(p:Pos)(hg:glB C x=true)(b:{b // OH.lookup x=some b}):Option (RE C (.Call (.Name x np) (e::r) [] p)) :=
 gd (C.blt.contains x&&(C.cm||!WJ b.1)) λhc=>ob1 (S.l C (e::r)) λa =>
   have h40:C.cm=false->WJ b.1=false:=λz=>bnf (by simpa [z] using (ba2 hc).2)
   ⟨.blt b.1 a.1.1,λK=>by
     obtain⟨b1,b2,b3⟩:=VE _ (aZ b.2);exact aAv K.pl (λz=>K.k40 (by cases e:C.cm<;>first|rfl|(rw[h40 e] at z;cases z))) (K.gl hg) (K.bl (ba2 hc).1) b1 b2 b3 (a.1.2 K) (rC a.2) (xC a.2)⟩
def MR(C:Cfg)(m:Bool)(x:Str)(np:Pos)(es:List Expr)(kws:List Keyword)(p:Pos):Option (RE C (.Call (.Name x np) es kws p)):=match es,kws with
 | e::r,[] =>
   orE (tZ S C x np e r p) <|
   gd (glB C x) λhg=>match wth (OH.lookup x) with
     | some b=>aFv S C x np e r p hg b
     | none =>
       orE (ob2 (wth (C.shs.find? (shP x (e::r).length []))) (S.l C (e::r)) λs a=>(⟨.cak (C.key x) a.1.1 .nil s.1.2.2.2,λK=>ZS K hg rfl s.2 a ⟨.nil,λ_=>FI⟩⟩:RE C _)) <|
       gd (C.fns.contains x||C.mks.contains x) λhc=>ob1 (S.l C (e::r)) λa=>⟨.cal (C.key x) a.1.1,λK=>aDP K hg hc a⟩
 | e::r,kw::kws=>gd (glB C x) λhg=>(wth (kwN (kw::kws))).bind λks =>
   ob3 (wth (C.shs.find? (shP x (e::r).length ks.1))) (S.l C (e::r)) (S.kk C (kw::kws)) λs a b=>⟨.cak (C.key x) a.1.1 b.1 s.1.2.2.2,λK=>ZS K hg ks.2 s.2 a b⟩
 | [],kw::kws=>gd (glB C x) λhg=>(wth (kwN (kw::kws))).bind λks =>
   orE (ob2 (wth (C.shs.find? (shP x 0 ks.1))) (S.kk C (kw::kws)) λs b=>(⟨.cak (C.key x) .nil b.1 s.1.2.2.2,λK=>aCn K hg ks.2 s.2 b⟩:RE C _)) <|
   ob2 (wth (C.mkk.find? λs=>s.1==x&&s.2.1==ks.1)) (S.kk C (kw::kws)) λs b=>⟨.cak (C.key x) .nil b.1 s.1.2.2,λK=>aAq K hg ks.2 s.2 b⟩
 | [],[]=>none
def aFF(C:Cfg)(o:Expr)(mth:Str)(ap:Pos)(es:List Expr)(kws:List Keyword)(p:Pos):Option (RE C (.Call (.Attribute o mth ap) es kws p)):=gd (!EU o) λhb=>gd (ap.endLine==p.line) λhl =>
 orE (match es,kws with
 | _,_=>none) <|
 match es,kws with
 | [e],[]=>gd (!cH e) λhs =>
   orE (gd (mth==("append":Str)) λh=>ob2 (S.e C false o) (S.e C false e) λo e=>⟨.app o.1 e.1,λK=>by cases beq_iff_eq.mp h;exact aBI (o.2 K) (e.2 K) (xB (bnf hb)) (bC (bnf hs)) hl⟩) <|
   none
 | _,_=>none
def RZ(K:Kn X E T k C)(h:(gW C sc&&!iK j3)=true)(i:RI C tg j3)(g:RG (bX C sc) tg)(t:RTs (bX C sc) ifs)(e:RE (bX C sc) elt) :
   JE X E (.ListComp elt [⟨tg,j3,ifs,0⟩] sc p) (wpE T (.cmpr m g.1 i.1 t.1 e.1 ((fF C sc.names).map (·.2)))):=by
 obtain⟨cl,B,KB⟩:=K.block (HD (ba2 h).1);exact ZF B K.pl (K.k40 (yX (ba2 h).1)) (i.2 K) (λC0 s₀ H₀ ex=>g.2 (KB C0 s₀ H₀ ex)) (λC0 s₀ H₀ ex=>t.2 (KB C0 s₀ H₀ ex)) (λC0 s₀ H₀ ex=>e.2 (KB C0 s₀ H₀ ex)) (dP (bnf (ba2 h).2))
def XI(K:Kn X E T k C)(h:(x==("range":Str)&&(glB C x&&(C.blt.contains x&&(!cH a&&IR C sc))))=true)(i:RE C a)(g:RG (bX C sc) tg)(t:RTs (bX C sc) ifs)(e:RE (bX C sc) elt) :
   JE X E (.ListComp elt [⟨tg,.Call (.Name x np) [a] [] cp,ifs,0⟩] sc p) (wpE T (.cmpr m g.1 (.irg (.cons i.1 .nil)) t.1 e.1 ((fF C sc.names).map (·.2)))):=by
 obtain⟨h1,h⟩:=ba2 h;obtain⟨g1,h⟩:=ba2 h;obtain⟨b1,h⟩:=ba2 h;obtain⟨st,ho⟩:=ba2 h;cases beq_iff_eq.mp h1;obtain⟨cl,B,KB⟩:=K.block ho;exact OY B (RH (K.gl g1) (K.bl b1) (i.2 K) (bC (bnf st))) (λC0 s₀ H₀ ex=>g.2 (KB C0 s₀ H₀ ex)) (λC0 s₀ H₀ ex=>t.2 (KB C0 s₀ H₀ ex)) (λC0 s₀ H₀ ex=>e.2 (KB C0 s₀ H₀ ex)) (dP rfl)
def tTs(C:Cfg)(l:List Expr):Option (RTs C l):=match l with
 | []=>some ⟨.nil,λ_=>aGo⟩
 | [c]=>ob1 (S.t C c) λc=>⟨c.1,λK=>aFT (c.2 K)⟩
 | _=>none
abbrev RBd(C:Cfg)(b:Addr->Env->Sem Fin->Sem Fin):={c:CE // ∀{X E T k},Kn X E T k C->X.xe=NoE->∀D,JB X E (b D X.env) (wpC T c D)}
def bdE(C:Cfg)(elt:Expr):Option (RBd C (BM elt)):=ob1 (S.e C false elt) λe=>⟨.eml e.1,λK hx _=>aCd hx (e.2 K)⟩
def bdG(C:Cfg){e tg j3:Expr}{d:Nat}{ifs:List Expr}{bd:Addr->Env->Sem Fin->Sem Fin}(Tt:Tn e d tg j3 ifs bd)(b:Option (RBd C bd)):Option (RBd C (sL e d j3)):=gd (!iK j3&&C.cm) λh=>ob4 (S.i C tg j3) (S.g C tg) (tTs S C ifs) b λi g t b =>
 ⟨.gen g.1 i.1 t.1 b.1,λK hx D=>aCY hx (K.pl.calm (K.k40 (ba2 h).2)) Tt (i.2 K) (g.2 K) (t.2 K) (b.2 K hx D) (dP (bnf (ba2 h).1))⟩
def ZQ(K:Kn X E T k C){sc:Scope}(Tt:Tn (.ListComp elt (⟨tg,j3,ifs,0⟩::gs) sc p) 0 tg j3 ifs bd)(h:(gW C sc&&!iK j3)=true)(i:RI C tg j3)(g:RG (bX C sc) tg)(t:RTs (bX C sc) ifs)(b:RBd (bX C sc) bd) :
   JE X E (.ListComp elt (⟨tg,j3,ifs,0⟩::gs) sc p) (wpE T (.cmn m false g.1 i.1 t.1 b.1 ((fF C sc.names).map (·.2)))):=by
 obtain⟨cl,B,KB⟩:=K.block (HD (ba2 h).1);exact aCi Tt B K.pl (K.k40 (yX (ba2 h).1)) (i.2 K) (λC0 s₀ H₀ ex=>g.2 (KB C0 s₀ H₀ ex)) (λC0 s₀ H₀ ex=>t.2 (KB C0 s₀ H₀ ex)) (λD C0 s₀ H₀ ex=>b.2 (KB C0 s₀ H₀ ex) rfl D) (dP (bnf (ba2 h).2))
def tE(C:Cfg)(m:Bool)(e:Expr):Option (RE C e):=match e with
 | .Name x p=>aEa C x p
 | .Constant v j p=>aDj C v j p
 | .BinOp a op b _ =>
   orE (match op with
     | .Add=>gd m λ_=>ob2 (S.e C false a) (S.e C false b) λa b=>⟨.ladd a.1 b.1,λK=>YY (a.2 K) (b.2 K)⟩
     | .Mult=>gd (m||(match a with|.List .. =>true|_=>false)) λ_=>ob2 (S.e C false a) (S.e C false b) λa b=>⟨.lrp a.1 b.1,λK=>aBG (a.2 K) (b.2 K)⟩
     | _=>none) <|
   ob2 (S.e C false a) (S.e C false b) λa b=>⟨.bin op a.1 b.1,λK=>aAG K.pl (a.2 K) (b.2 K)⟩
 | .UnaryOp op a _=>ob1 (S.e C false a) (λa=>match op with
     | .USub=>(some ⟨.neg a.1,λK=>aAK (a.2 K)⟩:Option (RE C _))
     | .Not =>
       some ⟨.no a.1,λK=>aE2 K.pl (a.2 K)⟩
     | _=>none) |>.join
 | .BoolOp op vs p=>ob1 (S.b C op vs) λb=>⟨b.1,λK=>b.2 K p⟩
 | .Compare a ops bs p=>aEh S C a ops bs p
 | .IfExp c a b _=>ob3 (S.t C c) (S.e C false a) (S.e C false b) λc a b=>⟨.ite c.1 a.1 b.1,λK=>aBo (c.2 K) (a.2 K) (b.2 K)⟩
 | .Tuple es _ _=>ob1 (S.l C es) λa=>⟨.tup a.1.1,λK=>aAF (a.1.2 K)⟩
 | .List es _=>ob1 (S.l C es) λa=>⟨.lst m a.1.1,λK=>aAR (a.1.2 K)⟩
 | .Subscript a s p=>aEP S C a s p
 | .Attribute a f p=>aGa S C a f p
 | .Call f es kws p=>(match f with
   | .Name x np=>MR S C m x np es kws p
   | .Attribute o mth ap=>aFF S C o mth ap es kws p
   | _=>none)
 | .ListComp elt gens sc _=>(match gens with
   | [⟨tg,.Call (.Name x np) [a] [] cp,ifs,0⟩]=>orE (gd (gW C sc&&!iK (.Call (.Name x np) [a] [] cp)) λh=>ob4 (S.i C tg (.Call (.Name x np) [a] [] cp)) (S.g (bX C sc) tg) (tTs S (bX C sc) ifs) (S.e (bX C sc) false elt) λi g t e=>⟨.cmpr m g.1 i.1 t.1 e.1 ((fF C sc.names).map (·.2)),λK=>RZ K h i g t e⟩) <|
     gd (x==("range":Str)&&(glB C x&&(C.blt.contains x&&(!cH a&&IR C sc)))) λh=>ob4 (S.e C false a) (S.g (bX C sc) tg) (tTs S (bX C sc) ifs) (S.e (bX C sc) false elt) λi g t e=>⟨.cmpr m g.1 (.irg (.cons i.1 .nil)) t.1 e.1 ((fF C sc.names).map (·.2)),λK=>XI K h i g t e⟩
   | [⟨tg,j3,ifs,0⟩]=>gd (gW C sc&&!iK j3) λh=>ob4 (S.i C tg j3) (S.g (bX C sc) tg) (tTs S (bX C sc) ifs) (S.e (bX C sc) false elt) λi g t e=>⟨.cmpr m g.1 i.1 t.1 e.1 ((fF C sc.names).map (·.2)),λK=>RZ K h i g t e⟩
   | [⟨tg,j3,ifs,0⟩,⟨t1,i1,f1,0⟩]=>gd (gW C sc&&!iK j3) λh=>ob4 (S.i C tg j3) (S.g (bX C sc) tg) (tTs S (bX C sc) ifs) (bdG S (bX C sc) (yO (tg:=t1) (ifs:=f1) rfl rfl) (bdE S (bX C sc) elt)) λi g t b=>⟨.cmn m false g.1 i.1 t.1 b.1 ((fF C sc.names).map (·.2)),λK=>ZQ K (sA rfl rfl) h i g t b⟩
   | [⟨tg,j3,ifs,0⟩,⟨t1,i1,f1,0⟩,⟨t2,i2,f2,0⟩]=>gd (gW C sc&&!iK j3) λh=>ob4 (S.i C tg j3) (S.g (bX C sc) tg) (tTs S (bX C sc) ifs) (bdG S (bX C sc) (sA (tg:=t1) (ifs:=f1) rfl rfl) (bdG S (bX C sc) (yO (tg:=t2) (ifs:=f2) rfl rfl) (bdE S (bX C sc) elt))) λi g t b=>⟨.cmn m false g.1 i.1 t.1 b.1 ((fF C sc.names).map (·.2)),λK=>ZQ K (sA rfl rfl) h i g t b⟩
   | _=>none)
 | _=>none
def tL(C:Cfg)(es:List Expr):Option (RL C es):=match es with
 | []=>some ⟨⟨.nil,λ_=>aBw⟩,λ_ h=>nomatch h⟩
 | e::r =>
   gd (!cH e) λhs=>ob2 (S.e C (aF7 C e) e) (S.l C r) λe r=>⟨⟨.cons e.1 r.1.1,λK=>WI (e.2 K) (r.1.2 K) (bC (bnf hs))⟩,List.forall_mem_cons.mpr ⟨bnf hs,r.2⟩⟩
def tK(C:Cfg)(ks:List Keyword):Option (RK C ks):=match ks with
 | []=>some ⟨.nil,λ_=>FI⟩
 | ⟨_,v,_⟩::r=>ob2 (S.e C false v) (S.kk C r) λv r=>⟨.cons v.1 r.1,λK=>YN (v.2 K) (r.2 K)⟩
def tB(C:Cfg)(op:BoolOp)(vs:List Expr):Option (RB C op vs):=match vs with
 | []=>none
 | [a]=>ob1 (S.e C false a) λa=>⟨a.1,λK _=>aCk (a.2 K)⟩
 | a::b::r=>ob2 (S.e C false a) (S.b C op (b::r)) λa b=>match op with
   | .And=>⟨.an a.1 b.1,λK p=>aDl K.pl (a.2 K) (b.2 K p)⟩
   | .Or=>⟨.oo a.1 b.1,λK p=>aEj K.pl (a.2 K) (b.2 K p)⟩
def tW(C:Cfg)(op:BoolOp)(vs:List Expr):Option (RWb C op vs):=match vs with
 | []=>none
 | [a]=>ob1 (S.t C a) λa=>match op with
   | .And=>⟨a.1,λK _=>aBg (a.2 K)⟩
   | .Or=>⟨a.1,λK _=>aAB (a.2 K)⟩
 | a::b::r=>ob2 (S.t C a) (S.w C op (b::r)) λa b=>match op with
   | .And=>⟨.an a.1 b.1,λK p=>aFh (a.2 K) (b.2 K p)⟩
   | .Or=>⟨.oo a.1 b.1,λK p=>aDz (a.2 K) (b.2 K p)⟩
def tTC(C:Cfg)(a:Expr)(ops:List CmpOp)(bs:List Expr)(p:Pos):Option (RT C (.Compare a ops bs p)):=match ops,bs with
 | [op],[b]=>gd (!iK b) λhs =>
   orE (match op with
     | _=>none) <|
   ob2 (S.e C false a) (S.e C false b) λa b=>⟨.tsb (.cmp op a.1 b.1),λK=>aC2 K.pl (uW (bnf hs)) (a.2 K) (b.2 K)⟩
 | [op,op'],[b,c]=>gd (!iK c) λhs=>ob3 (S.e C false a) (S.e C false b) (S.e C false c) λa b c=>⟨.tsb (.chn op op' a.1 b.1 c.1),λK=>aC5 K.pl (aAm hs) (a.2 K) (b.2 K) (c.2 K)⟩
 | _,_=>none
def tT(C:Cfg)(e:Expr):Option (RT C e):=match e with
 | .BoolOp op vs p=>ob1 (S.w C op vs) λw=>⟨w.1,λK=>(w.2 K p).jt⟩
 | .UnaryOp .Not a _=>ob1 (S.t C a) λa=>⟨.no a.1,λK=>aEn (a.2 K)⟩
 | .Compare a ops bs p=>tTC S C a ops bs p
 | .Name x p=>ob1 (S.e C false (.Name x p)) λe =>
   ⟨.tst e.1,λK=>yL K.pl (e.2 K) λ_=>rfl⟩
 | .Call f es kws p=>ob1 (S.e C false (.Call f es kws p)) λe=>⟨.tst e.1,λK=>yL K.pl (e.2 K) λ_=>rfl⟩
 | .Subscript a b p=>ob1 (S.e C false (.Subscript a b p)) λe=>⟨.tst e.1,λK=>yL K.pl (e.2 K) λ_=>rfl⟩
 | .Attribute a f p=>ob1 (S.e C false (.Attribute a f p)) λe=>⟨.tst e.1,λK=>yL K.pl (e.2 K) λ_=>rfl⟩
 | _=>none
def tG(C:Cfg)(e:Expr):Option (RG C e):=match e with
 | .Name x _=>gd (DA C x) λh=>ob1 (wth (slot C.N x)) λi=>⟨.gn i.1,λK=>xH K.ndX (K.sl i.2) (K.loc h).1 (K.loc h).2⟩
 | .Tuple es _ _=>gd C.cm λh=>ob1 (S.gs C es) λg=>⟨.gt es.length g.1.1,λK=>SK K.pl (K.k40 h) (g.1.2 K) (iA g.2).1 (iA g.2).2⟩
 | _=>none
def tGs(C:Cfg)(es:List Expr):Option (RGs C es):=match es with
 | []=>some ⟨⟨.nil,λ_=>VV⟩,λ_ h=>nomatch h⟩
 | e::r=>gd (!cH e) λhs=>ob2 (S.g C e) (S.gs C r) λg r=>⟨⟨.cons g.1 r.1.1,λK=>NX (g.2 K) (r.1.2 K) (by rw[AS (bnf hs)];rfl)⟩,List.forall_mem_cons.mpr ⟨bnf hs,r.2⟩⟩
def tI(C:Cfg)(tg e:Expr):Option (RI C tg e):=match e with
 | .Call (.Name x p) es kws pos =>
   if x = "zip" then(match kws,tg,es with
     | [],.Tuple ..,e::r =>
       gd (x==("zip":Str)&&(glB C x&&C.blt.contains x)) λh=>ob1 (S.l C (e::r)) λa=>⟨.izp a.1.1,λK=>by
         cases beq_iff_eq.mp (ba2 h).1;exact aBx K.pl (K.gl (ba2 (ba2 h).2).1) (K.bl (ba2 (ba2 h).2).2) (a.1.2 K) (rC a.2) (xC a.2)⟩
     | _,_,_=>none) else
   if x = "range" then(match kws,es with
     | [],[a]=>gd (x==("range":Str)&&(glB C x&&(C.blt.contains x&&!cH a))) λh=>ob1 (S.e C false a) λa=>⟨.irg (.cons a.1 .nil),λK=>by
         obtain⟨h1,h⟩:=ba2 h;obtain⟨g1,h⟩:=ba2 h;obtain⟨b1,st⟩:=ba2 h;cases beq_iff_eq.mp h1;exact YC (K.gl g1) (K.bl b1) (a.2 K) (bC (bnf st))⟩
     | [],[a,b]=>gd (x==("range":Str)&&(glB C x&&(C.blt.contains x&&(!cH a&&!cH b)))) λh=>ob2 (S.e C false a) (S.e C false b) λa b=>⟨.irg (.cons a.1 (.cons b.1 .nil)),λK=>by
         obtain⟨h1,h⟩:=ba2 h;obtain⟨g1,h⟩:=ba2 h;obtain⟨b1,h⟩:=ba2 h;obtain⟨s1,s2⟩:=ba2 h;cases beq_iff_eq.mp h1;exact VR (K.gl g1) (K.bl b1) (a.2 K) (b.2 K) (by rw[bC (bnf s1),bC (bnf s2)];rfl) (bC (bnf s2))⟩
     | _,_=>none) else
   if x = "enumerate" then(match kws,tg,es with
     | [],.Tuple ..,[a] =>
       orE (gd (C.M.contains "enumerate"&&(x==("enumerate":Str)&&(glB C x&&(C.blt.contains x&&!cH a)))) λh=>ob1 (S.e C false a) λa=>⟨.iel a.1,λK=>by
         obtain⟨_,h⟩:=ba2 h;obtain⟨h1,h⟩:=ba2 h;obtain⟨g1,h⟩:=ba2 h;obtain⟨b1,st⟩:=ba2 h;cases beq_iff_eq.mp h1;exact XH K.pl (K.gl g1) (K.bl b1) (a.2 K) (bC (bnf st))⟩) <|
       gd (x==("enumerate":Str)&&(glB C x&&(C.blt.contains x&&!cH a))) λh=>ob1 (S.e C false a) λa=>⟨.ien a.1,λK=>by
         obtain⟨h1,h⟩:=ba2 h;obtain⟨g1,h⟩:=ba2 h;obtain⟨b1,st⟩:=ba2 h;cases beq_iff_eq.mp h1;exact aCu K.pl (K.gl g1) (K.bl b1) (a.2 K) (bC (bnf st))⟩
     | _,_,_=>none) else
   ob1 (S.e C false (.Call (.Name x p) es kws pos)) λe=>⟨.isq e.1,λK=>MP K.pl (e.2 K)⟩
 | e=>gd (!iK e) λ_=>ob1 (S.e C false e) λe=>⟨.isq e.1,λK=>MP K.pl (e.2 K)⟩
end
def trN:Nat->Tr
 | 0=>{
   e:=λ_ _ _=>none,t:=λ_ _=>none,l:=λ_ _=>none,kk:=λ_ _=>none,b:=λ_ _ _=>none,w:=λ_ _ _=>none,g:=λ_ _=>none,gs:=λ_ _=>none,i:=λ_ _ _=>none,
   }
 | n+1=>{
   e:=tE (trN n),t:=tT (trN n),l:=tL (trN n),kk:=tK (trN n),b:=tB (trN n),w:=tW (trN n),g:=tG (trN n),gs:=tGs (trN n),i:=tI (trN n),
   }
section
variable{X:Cx}{E:Ev}{T:Tb}{k:Nat}{C:Cfg}
abbrev RS(C:Cfg)(s:Stmt):={c:CS // ∀{X E T k},Kn X E T k C->JS X E s (wpS T c)}
abbrev RSs(C:Cfg)(s:List Stmt):={c:CS // ∀{X E T k},Kn X E T k C->JSs X E s (wpS T c)}
structure TrS where
 s:∀(C:Cfg) (s:Stmt),Option (RS C s)
 ss:∀(C:Cfg) (l:List Stmt),Option (RSs C l)
def zL(K:Kn X E T k C):X.env.blockKind= .function:=by
 unfold Env.blockKind;rw[K.kd];rfl
noncomputable def VH:Expr->Bool
 | .Tuple .. =>true
 | _=>false
noncomputable def aCV:Expr->Bool
 | .Tuple vs _ _=> !(vs.all (foldedForSure 8))
 | _=>false
def aBz(h:VH value=false):swappedStores [.Tuple ts kt pt] value env=pure none:=by
 cases value<;>first|rfl|(cases h)
def YT{ts vs:List Expr}{kt kv:Nat}{pt pv:Pos}{env:Env}(h:vs.all (foldedForSure 8)=true):swappedStores [.Tuple ts kt pt] (.Tuple vs kv pv) env=pure none:=by
 unfold swappedStores;dsimp only;split
 . rfl
 . split
   . rfl
   . split
     . rfl
     . first|rfl|rw[ja h]
def OO(h:¬aCV v=true):swappedStores [.Tuple ts kt pt] v env=pure none:=by
 cases v with
 | Tuple vs kv pv =>
   refine YT ?_;cases e:vs.all (foldedForSure 8) with
   | true=>rfl
   | false=>exact absurd (show(!(vs.all (foldedForSure 8)))=true by rw[e];rfl) h
 | _=>exact aBz rfl
theorem aGh:(Expr.Name x p).pos=p:=rfl
def aCO(K:Kn X E T k C)(hx:C.names.lookup x=some .local)(hy:C.names.lookup y=some .local)(hl:py.line=px.line)(hne:x≠y)(sa:cH a=false)(sb:cH b=false)
   (nf: [a,b].all (foldedForSure 8)=false) (nc: [a,b].all (constantsAlone 8)=false):swappedStores [.Tuple [.Name x px,.Name y py] kt pt] (.Tuple [a,b] k2 pt2) X.env=pure (some [x,y]):=by
 unfold swappedStores;dsimp only;have kx:(X.env.kindOf x==some .local)=true:=by unfold Env.kindOf;rw[K.nm,hx];rfl
 have ky:(X.env.kindOf y==some .local)=true:=by unfold Env.kindOf;rw[K.nm,hy];rfl
 have e:∀e:Expr,cH e=false->(match e with|.Starred .. =>true|_=>false)=false:=λe h=>by cases e<;>first|rfl|(cases h)
 have c1:(!([Expr.Name x px,Expr.Name y py].length==2||[Expr.Name x px,Expr.Name y py].length==3)||[a,b].length !=[Expr.Name x px,Expr.Name y py].length||X.env.blockKind !=ScopeKind.function)=false:=by
   rw[zL K];rfl
 rw[j9 (by rw[c1];exact Bool.false_ne_true)];have nm:([x,y]:List Str).eraseDups.length=2:=by
   have hb:(y==x)=false:=beq_eq_false_iff_ne.mpr (Ne.symm hne);simp[List.eraseDups_cons,hb]
 split
 . rename_i h2;exfalso
   simp only[List.any_cons,List.any_nil,Bool.or_false,Bool.or_eq_true] at h2;rcases h2 with h2|h2
   . cases a<;>first|(cases h2;done)|(cases sa)
   . cases b<;>first|(cases h2;done)|(cases sb)
 . simp only[List.filterMap_cons,List.filterMap_nil,kx,ky,List.head?_cons,Option.map_some,Option.getD_some,Bool.true_and,aGh,hl,beq_self_eq_true,if_true,List.length_cons,List.length_nil,nm,nf,nc];rfl
def YB(h1:slot N x=some i)(h2:slot N y=some j)(hne:x≠y):i≠j:=λe=>by
 subst e;have a1:=nS h1;have a2:=nS h2;rw[a1] at a2;exact hne (Option.some.inj a2)
noncomputable def aEO(C:Cfg):Expr->Bool
 | .Name x _=> !(C.names.lookup x==some .local)
 | .Subscript .. =>true
 | _=>false
theorem ZO{α β:Type}{f:α->Option β}:∀{l:List α},(∃x∈l,f x=none)->(l.filterMap f).length<l.length
 | [],⟨_,h,_⟩=>nomatch h
 | a::r,⟨x,h,e⟩=>by
   have le:(r.filterMap f).length<=r.length:=List.length_filterMap_le ..;rcases List.mem_cons.mp h with z|z
   . subst z;rw[List.filterMap_cons_none e,List.length_cons];omega
   . have:=ZO ⟨x,z,e⟩;cases ea:f a with
     | none=>rw[List.filterMap_cons_none ea,List.length_cons];omega
     | some b=>rw[List.filterMap_cons_some ea,List.length_cons,List.length_cons];omega
def aAI(K:Kn X E T k C)(hv:VH v=true)(h:ts.any (aEO C)=true):swappedStores [.Tuple ts kt pt] v X.env=pure none:=by
 cases v with
 | Tuple vs kv pv =>
   unfold swappedStores;dsimp only;split
   . rfl
   . split
     . rfl
     . rw[ja ?_];obtain⟨x,hx,hc⟩:=List.any_eq_true.mp h;rw[Bool.or_eq_true];refine .inl ?_;rw[bne_iff_ne];refine Nat.ne_of_lt (ZO ⟨x,hx,?_⟩);cases x with
       | Name y p =>
         dsimp only;rw[j9];intro z;rw[Bool.and_eq_true] at z;have e1:X.env.kindOf y=C.names.lookup y:=by unfold Env.kindOf;rw[K.nm]
         rw[e1] at z;have hc:(!(C.names.lookup y==some NameKind.local))=true:=hc;rw[z.1] at hc;cases hc
       | Subscript _ _ _=>rfl
       | _=>cases hc
 | _=>cases hv
noncomputable def OA(C:Cfg):Expr->Bool
 | .ListComp .. =>true
 | .List .. =>true
 | .Name x _=>C.ls.contains x
 | _=>false
def EY(K:Kn X E T k C)(c3:(C.names.lookup x==some .cell)=true) :
   swapsWithSole [.Name x px] (.ListComp elt gens sc vp) l X.env=pure false:=by
 unfold swapsWithSole swapsWith;dsimp only;have e1:X.env.kindOf x=C.names.lookup x:=by unfold Env.kindOf;rw[K.nm]
 rw[zL K,e1,beq_iff_eq.mp c3];rfl
def oX(h:uP e=false):swapsWith e t l env=pure false:=by
 cases e<;>first|rfl|(cases h)
def sK(K:Kn X E T k C)(c3:(C.names.lookup x==some .local)=true)(c4:(px.line==vp.line)=true)(c5:(!(sc.names.any λy=>y.1==x&&(y.2==.local||y.2==.cell)))=true) :
   swapsWith (.ListComp elt gens sc vp) (some (.Name x px)) l X.env=pure true:=by
 unfold swapsWith;dsimp only;have e1:X.env.kindOf x=C.names.lookup x:=by unfold Env.kindOf;rw[K.nm]
 rw[zL K,e1,c3];have e2:(!(sc.names.any λ(n,k)=>n==x&&(k==.local||k==.cell)))=true:=by rw[<-c5]
 show pure (true&&true&&(px.line==vp.line)&&!(sc.names.any λ(n,k)=>n==x&&(k==.local||k==.cell)))=pure true;rw[c4,e2];rfl
def aBr(K:Kn X E T k C)(Tt:Tn (.ListComp elt (⟨tg,j3,ifs,0⟩::gs) sc vp) 0 tg j3 ifs bd)(hi:slot C.N x=some i)(h:(C.names.lookup x==some .local&&(px.line==vp.line&&!(sc.names.any λy=>y.1==x&&(y.2==.local||y.2==.cell))))=true)(hb:(gW C sc&&!iK j3)=true)(it:RI C tg j3)(g:RG (bX C sc) tg)(t:RTs (bX C sc) ifs)(b:RBd (bX C sc) bd) :
   JS X E (.Assign [.Name x px] (.ListComp elt (⟨tg,j3,ifs,0⟩::gs) sc vp) p) (wpS T (.asg (.gn i) (.cmn m false g.1 it.1 t.1 b.1 ((fF C sc.names).map (·.2))))):=by
 obtain⟨c3,h⟩:=ba2 h;obtain⟨c4,c5⟩:=ba2 h;obtain⟨cl,B,KB⟩:=K.block (HD (ba2 hb).1);exact ZC Tt B K.pl (K.k40 (yX (ba2 hb).1)) K.ndX (K.sl hi) (by rw[K.nm];exact beq_iff_eq.mp c3) (it.2 K) (λC0 s₀ H₀ ex=>g.2 (KB C0 s₀ H₀ ex)) (λC0 s₀ H₀ ex=>t.2 (KB C0 s₀ H₀ ex)) (λD C0 s₀ H₀ ex=>b.2 (KB C0 s₀ H₀ ex) rfl D) (sK K c3 c4 c5) (dP (bnf (ba2 hb).2))
def lY(h:uP e=false):swapsWithSole [t] e l env=pure false:=oX h
def LF(h:OA C v=true):swapsWithSole [.Tuple gs kt pt] v l env=pure false:=by
 cases v<;>first|rfl|(cases h)
def QV(h:VH v=true):swapsWithSole [.Tuple gs kt pt] v l env=pure false:=by
 cases v<;>first|rfl|(cases h)
def NJ{v:Expr}(h:OA C v=true):¬aCV v=true:=by
 cases v<;>first|(intro z;cases z;done)|(cases h)
variable(S:Tr)(U:TrS)
def JQ(C:Cfg)(t v:Expr)(p:Pos):Option (RS C (.Assign [t] v p)):=match t with
 | .Name x px=>(match v with
   | .ListComp elt gens sc vp=>orE (gd (DA C x&&C.names.lookup x==some .cell) λh=>ob2 (wth (slot C.N x)) (S.e C (C.M.contains x) (.ListComp elt gens sc vp)) λi v=>⟨.asg (.gn i.1) v.1,λK=>uL (v.2 K) (xH K.ndX (K.sl i.2) (K.loc (ba2 h).1).1 (K.loc (ba2 h).1).2) (EY K (ba2 h).2) rfl rfl⟩) <|
     (match gens with
     | [⟨tg,j3,ifs,0⟩]=>gd (DA C x&&(C.names.lookup x==some .local&&(px.line==vp.line&&!(sc.names.any λy=>y.1==x&&(y.2==.local||y.2==.cell))))) λh=>gd (gW C sc&&!iK j3) λhb=>(wth (slot C.N x)).bind λi=>ob4 (S.i C tg j3) (S.g (bX C sc) tg) (tTs S (bX C sc) ifs) (S.e (bX C sc) false elt) λit g t e=>⟨.asg (.gn i.1) (.cmpr (C.M.contains x) g.1 it.1 t.1 e.1 ((fF C sc.names).map (·.2))),λK=>by
         obtain⟨_,h⟩:=ba2 h;obtain⟨c3,h⟩:=ba2 h;obtain⟨c4,c5⟩:=ba2 h;obtain⟨cl,B,KB⟩:=K.block (HD (ba2 hb).1);exact XG B K.pl (K.k40 (yX (ba2 hb).1)) K.ndX (K.sl i.2) (by rw[K.nm];exact beq_iff_eq.mp c3) (it.2 K) (λC0 s₀ H₀ ex=>g.2 (KB C0 s₀ H₀ ex)) (λC0 s₀ H₀ ex=>t.2 (KB C0 s₀ H₀ ex)) (λC0 s₀ H₀ ex=>e.2 (KB C0 s₀ H₀ ex)) (sK K c3 c4 c5) (dP (bnf (ba2 hb).2))⟩
     | [⟨tg,j3,ifs,0⟩,⟨t1,i1,f1,0⟩]=>gd (C.names.lookup x==some .local&&(px.line==vp.line&&!(sc.names.any λy=>y.1==x&&(y.2==.local||y.2==.cell)))) λh=>gd (gW C sc&&!iK j3) λhb=>(wth (slot C.N x)).bind λi=>ob4 (S.i C tg j3) (S.g (bX C sc) tg) (tTs S (bX C sc) ifs) (bdG S (bX C sc) (yO (tg:=t1) (ifs:=f1) rfl rfl) (bdE S (bX C sc) elt)) λit g t b=>⟨.asg (.gn i.1) (.cmn (C.M.contains x) false g.1 it.1 t.1 b.1 ((fF C sc.names).map (·.2))),λK=>aBr K (sA rfl rfl) i.2 h hb it g t b⟩
     | _=>none)
   | v=>gd (DA C x&&!uP v) λh=>ob2 (wth (slot C.N x)) (S.e C (C.M.contains x) v) λi v=>⟨.asg (.gn i.1) v.1,λK=>uL (v.2 K) (xH K.ndX (K.sl i.2) (K.loc (ba2 h).1).1 (K.loc (ba2 h).1).2) (lY (bnf (ba2 h).2)) rfl rfl⟩)
 | .Attribute o f _ =>
   gd (!uP v) λh=>ob2 (S.e C false o) (S.e C (C.M.contains f) v) λo v=>⟨.fld o.1 f v.1,λK=>aB3 K.pl (o.2 K) (v.2 K) (oX (bnf h))⟩
 | .Subscript o i _ =>
   gd (!uP v&&!KE i) λh=>ob3 (S.e C false o) (S.e C false i) (S.e C (C.M.contains "[]") v) λo i v=>⟨.sub o.1 i.1 v.1,λK=>aA6 (v.2 K) (o.2 K) (i.2 K) (WO (bnf (ba2 h).2)) (lY (bnf (ba2 h).1)) rfl⟩
 | .Tuple gs kt pt =>
   orE (gd (OA C v&&C.cm) λh=>ob2 (S.e C false v) (S.gs C gs) λv g=>⟨.asg (.gl gs.length g.1.1) v.1,λK=>uL (v.2 K) (aB6 K.pl (K.k40 (ba2 h).2) (g.1.2 K) (iA g.2).1 (iA g.2).2) (LF (ba2 h).1) (OO (NJ (ba2 h).1)) rfl⟩) <|
   orE (gd (VH v&&(gs.any (aEO C)&&C.cm)) λh=>ob2 (S.e C false v) (S.gs C gs) λv g=>⟨.asg (.gt gs.length g.1.1) v.1,λK=>uL (v.2 K) (SK K.pl (K.k40 (ba2 (ba2 h).2).2) (g.1.2 K) (iA g.2).1 (iA g.2).2) (QV (ba2 h).1) (aAI K (ba2 h).1 (ba2 (ba2 h).2).1) rfl⟩) <|
   if hp :aCV v=true then(match gs,v with
     | [.Name x px,.Name y py],.Tuple [a,b] _ _=>gd (C.names.lookup x==some .local&&(C.names.lookup y==some .local&&(py.line==px.line&&(x !=y&&(!cH a&&(!cH b&&(!([a,b].all (constantsAlone 8))&&C.cm))))))) λh=>ob4 (wth (slot C.N x)) (wth (slot C.N y)) (S.e C (C.M.contains x) a) (S.e C (C.M.contains y) b) λi j a b=>⟨.par i.1 j.1 a.1 b.1,λK=>by
         obtain⟨c1,h⟩:=ba2 h;obtain⟨c2,h⟩:=ba2 h;obtain⟨c3,h⟩:=ba2 h;obtain⟨c4,h⟩:=ba2 h;obtain⟨c5,h⟩:=ba2 h;obtain⟨c6,h⟩:=ba2 h;obtain⟨c7,hcm⟩:=ba2 h;have c1:=beq_iff_eq.mp c1;have c2:=beq_iff_eq.mp c2;have c4:=bne_iff_ne.mp c4;exact aBC K.pl (K.k40 hcm) K.ndX (K.sl i.2) (K.sl j.2) (YB i.2 j.2 c4) (by rw[K.nm];exact c1) (by rw[K.nm];exact c2) (a.2 K) (b.2 K) (bC (bnf c5)) (bC (bnf c6)) (aCO K c1 c2 (beq_iff_eq.mp c3) c4 (bnf c5) (bnf c6) (bnf hp) (bnf c7)) rfl⟩
     | _,_=>none)
   else gd (!uP v) λh=>ob2 (S.e C false v) (S.g C (.Tuple gs kt pt)) λv g=>⟨.asg g.1 v.1,λK=>uL (v.2 K) (g.2 K) (lY (bnf h)) (OO hp) rfl⟩
 | _=>none
def tS(C:Cfg)(s:Stmt):Option (RS C s):=match s with
 | .Expr e _=>(match e with
   | .Constant (.str _) _ _=>some ⟨.nil,λ_=>aBM⟩
   | e=>gd (!uP e) λh=>ob1 (S.e C false e) λe=>⟨.ex e.1,λK=>aFd (e.2 K) (oX (bnf h))⟩)
 | .Pass _=>some ⟨.nil,λ_=>YA⟩
 | .Raise v f _ =>
   some ⟨.nev,λ_=>aAQ⟩
 | .AugAssign (.Name x _) .Add v _=>gd (DA C x) λh=>ob2 (wth (slot C.N x)) (S.e C false v) λi v=>⟨.aug i.1 v.1,λK=>aC0 K.ndX (K.sl i.2) (K.loc h).1 (K.loc h).2 (v.2 K)⟩
 | .AugAssign (.Subscript o i _) .Add v _=>gd (!KE i) λh=>ob3 (S.e C false o) (S.e C false i) (S.e C false v) λo i v=>⟨.ags o.1 i.1 v.1,λK=>aCI (o.2 K) (i.2 K) (v.2 K) (YG (bnf h))⟩
 | .Return o _=>(match o with
   | none=>some ⟨.retN,λ_=>VW⟩
   | some e=>ob1 (S.e C C.rm e) λe=>⟨.ret e.1,λK=>aAz (e.2 K)⟩)
 | .If c a b _ =>
   ob3 (S.t C c) (U.ss C a) (U.ss C b) λc a b=>⟨.iff c.1 a.1 b.1,λK=>aDh (c.2 K) (a.2 K) (b.2 K)⟩
 | .While c b [] _=>ob1 (S.t C c) λc=>match U.ss C b with
   | some b=>⟨.wh c.1 b.1,λK=>aAb K.ps (c.2 K) (b.2 K)⟩
   | none=>⟨.wh c.1 .nev,λK=>aAb K.ps (c.2 K) VP⟩
 | .For tg it b [] _=>gd (!iK it&&C.cm) λh=>ob3 (S.i C tg it) (S.g C tg) (U.ss C b) λi g b=>⟨.fr g.1 i.1 b.1,λK=>aCh K.pl (K.k40 (ba2 h).2) K.ps (i.2 K) (g.2 K) (b.2 K) (dP (bnf (ba2 h).1))⟩
 | .Assign [t] v p=>JQ S C t v p
 | _=>none
def tSs(C:Cfg)(l:List Stmt):Option (RSs C l):=match l with
 | []=>some ⟨.nil,λ_=>aBd⟩
 | [s]=>ob1 (U.s C s) λs=>⟨s.1,λK=>aCc (s.2 K)⟩
 | s::t::r=>ob2 (U.s C s) (U.ss C (t::r)) λs r=>⟨.seq s.1 r.1,λK=>aBO (s.2 K) (r.2 K)⟩
end
def trS:Nat->TrS
 | 0=>⟨λ_ _=>none,λ_ _=>none⟩
 | n+1=>⟨tS (trN n) (trS n),tSs (trS n)⟩
def cSs(n:Nat)(C:Cfg)(l:List Stmt):Option CS:=((trS n).ss C l).map (·.1)
def aBL(h:cSs n C l=some c)(K:Kn X E T k C):JSs X E l (wpS T c):=by
 obtain⟨r,_,rfl⟩:=Option.map_eq_some_iff.mp h;exact r.2 K
structure aW(K:W.Frag)(x qual:Str)(st:Stmt)(dV:Value)(f:Addr)(fd:J8):Prop where
 ex :∃(oc:Value) (od:Option Addr) (kV doc pm:Value) (an:Option Addr) (cdv ct:Value) (osl:Array (Option Value)),
   fd=W.fnOf x qual (gK st) (dC st) (bZ st) dV kV doc pm an cdv ct/\K.lookup f=some ⟨oc,od,.func fd,osl⟩/\W.codeIn K cdv qual=true
 kp:W.keepIn K (.ref f)=true
def Wk(Q:PK1):PK1:=λx G=>∃G2:Gh,(∀a o,G2 a=some o->G a=some o)/\(Q x G2∨(∃p xs,x= .ref p/\G2 p=none/\G p=some (.lst xs)/\Q (.lst xs) G2)∨∃p c ns xs,x= .ref p/\G2 p=none/\G p=some (.ins c ns xs)/\Q (.ob c ns xs) G2)
def Wk.here(q:Q x G):Wk Q x G:=⟨G,λ_ _ z=>z,.inl q⟩
def Wk.of{Q:PK1}{x:PV}{G G2:Gh}(q:Q x G2)(h:∀a o,G2 a=some o->G a=some o):Wk Q x G:=⟨G2,h,.inl q⟩
def Wk.frz{Q:PK1}{p:Addr}{xs:List PV}{G G2:Gh}(hG:G p=some (.lst xs))(q:Q (.lst xs) G2)(h:∀a o,G2 a=some o->G a=some o)(n:G2 p=none):Wk Q (.ref p) G:=⟨G2,h,.inr (.inl ⟨p,xs,rfl,n,hG,q⟩)⟩
def SI(kq:Kq E F Z Q' Q)(s1:aP Z Z1)(S1:Sim E F H1 Z1 G1)(r1:RP E Z1 y v)(w:Wk Q' y G1):Q v H1:=by
 obtain⟨G2,hG,q1|⟨p,xs,e,n,hp,q1⟩|⟨p,c,ns,xs,e,n,hp,q1⟩⟩:=w
 . exact kq _ _ _ _ _ s1 (S1.weak hG) r1 q1
 case inr.inr =>
   subst e;have e:v= .ref p:=r1;subst e;obtain⟨z,o',ho,dx,vs,e,l,t⟩:=S1.g _ _ hp;subst e;refine kq (.ob c ns xs) _ _ _ _ (s1.trans (aV z _)) ((S1.frz hp ho).weak λa o q=>?_) ⟨p,dx,vs,rfl,aS,l,t.mono (aV z _)⟩ q1;by_cases ea:a=p
   . subst ea;rw[n] at q;cases q
   . rw[rZ ea];exact hG a o q
 . subst e;have e:v= .ref p:=r1;subst e;obtain⟨z,o',ho,vs,e,t⟩:=S1.g _ _ hp;subst e;refine kq _ _ _ _ _ (s1.trans (aV z _)) ((S1.frz hp ho).weak λa o q=>?_) (eG z t) q1;by_cases ea:a=p
   . subst ea;rw[n] at q;cases q
   . rw[rZ ea];exact hG a o q
def aN(Q:PK1):dL:=⟨λ_ G=>Wk Q .non G,Wk Q,λ_ _=>False,λ_ _=>False⟩
structure TU(st:Stmt)(ps:List Str)(C:Cfg):Prop where
 sc:yR C.N ps (bZ st)
 nm:(bZ st).names=C.names
 bk:C.blk=false
structure Ck(K:W.Frag)(E:Ev)(T:Tb):Prop where
 hK:E.K=K
 cls:OL E T.cs
 fld:∀c f,(c,f)∈T.fl->Cls K (E.cls c)/\cY K (E.cls c) f
structure Xo(K:W.Frag)(mg:Str->Option Value)(E:Ev)(T:Tb):Prop where
 xi:∀c n r,(c,n,r)∈T.xi->XAt K (E.cls c)/\((∃a,mg n=some (.ref a)/\W.kitOne K (.ref (E.cls c)) (.ref a)=some r)∨∃t,mg n=none/\bootBuiltins n=some (.type t)/\n≠"__name__"/\W.kitOne K (.ref (E.cls c)) (.type t)=some r)
 fx:∀c f,(c,f)∈T.fx->XAt K (E.cls c)/\W.findIn K (.ref (E.cls c)) f=some none
def Xo.no{K:W.Frag}{mg:Str->Option Value}{E:Ev}{T:Tb}(h1:T.xi=[])(h2:T.fx=[]):Xo K mg E T:=⟨(λc n r h=>by rw[h1] at h;cases h),(λc f h=>by rw[h2] at h;cases h)⟩
def Tf.no{P:J7}{w:World}{K:W.Frag}{mg:Str->Option Value}{base:Heap}{E:Ev}{T:Tb}{k:Nat}{C:Cfg}(h:C.tr=false):Tf P w K mg base E T k C:=⟨(λz=>by rw[h] at z;cases z),(λz=>by rw[h] at z;cases z),(λz=>by rw[h] at z;cases z)⟩
def SD{P:J7}{w:World}{K:W.Frag}{mg:Str->Option Value}{base:Heap}{E:Ev}{T:Tb}{k n:Nat}{C:Cfg}{x qual:Str}{st:Stmt}{dV:Value}{f:Addr}{fd:J8}{ps:List Str}{sp:Sp3}{code:CS}
   (F:aW K x qual st dV f fd) (D:TU st ps C) (ck:Ck K E T) (gf:Gf P w K mg base E T k C) (hc:cSs n C (dC st)=some code) (xo:Xo K mg E T) (tf:Tf P w K mg base E T k C) (hz:C.rz=false) (hcm:C.cm=true->40<=k) (hrp:C.rp=true->79<=k)
   (len:∀xs G Q,sp xs G Q->xs.length=ps.length) (hw:∀xs G Q,sp xs G Q->wpS T code (aN Q) (aC C.N.length xs) G) (lq:C.lms=[]/\(C.lav≠[]->VO P w K mg base E T k):=by exact⟨rfl,λh=>absurd rfl h⟩):bM P w K mg base CX0 (k+2) f fd ps (gF E sp):=by
 obtain⟨oc,od,kV,doc,pm,an,cdv,ct,osl,e,lk,hcd⟩:=F.ex;subst e;refine aD5 lk hcd D.sc (by rintro vs H Q E' ⟨xs,Z,G,F',Q',r,S,q,kq⟩;rw[<-r.length];exact len xs G Q' q) λA outer s H vs Q E' hr hsp=>?_;obtain⟨xs,Z,G,F',Q',r,S,q,kq⟩:=hsp;have kn:Kn (LA CX0 P w K mg base C.N qual (bZ st) f cdv A outer s H E').nox E T k C:=by
   refine⟨⟨ck.hK,(λz=>Option.isNone_iff_eq_none.mpr (hr.hd z)),hr,ck.cls,ck.fld⟩,rfl,D.sc.nd,D.nm,D.sc.kind,λ_ _=>rfl,λy hy=>?_,PassesOwn.never,gf,λ_=>⟨rfl,rfl⟩,(λz=>by rw[hz] at z;cases z),⟨xo.xi,xo.fx⟩,hcm,(λz=>hr.gd (Nat.succ_le_succ (hrp z))),tf,⟨λh=>absurd lq.1 h,lq.2⟩⟩;exact uQ (n:=s.heap.objs.size+1) (by rw[D.nm];exact hy)
 have js:=aBL hc kn F';refine⟨_,js.nox,aC C.N.length xs,Z,G,aN Q',RSt.start r,S,hw xs G Q' q,⟨?_,?_,?_,?_⟩⟩
 . rintro Y1 Y2 Z1 G1 H1 s1 S1 rs1 w;exact SI kq s1 S1 oK w
 . rintro y v Z1 G1 H1 s1 S1 r1 w;exact SI kq s1 S1 r1 w
 . rintro Y1 Y2 Z1 G1 H1 s1 S1 rs1 z;exact z
 . rintro Y1 Y2 Z1 G1 H1 s1 S1 rs1 z;exact z
def xW:Sp3:=λxs G Q=>∃ns:List Int,xs=[.scr ns]/\ns.length<=63/\∀G',Q (.bl true) G'
def HR(K:W.Frag):Sp:=λvs H Q _=>∃(p:Addr) (ns:List Int),vs=[.ref p]/\SqL K H p (ns.map V.int)/\ns.length<=63/\∀H',Q (.bl true) H'
def unT(H:Hp):Hp:=λb=>match H b with
 | some o=>if isT o=true then none else some o
 | none=>none
def AW(h:unT H b=some o):H b=some o/\isT o=false:=by
 unfold unT at h;split at h
 . rename_i u e;split at h
   . cases h
   . rename_i n;cases h;exact⟨e,by simpa using n⟩
 . cases h
def PJ(h:H b=some o)(n:isT o=false):unT H b=some o:=by
 unfold unT;rw[h];simp[n]
def YO{K:W.Frag}{xs:List V}:SqL K H p xs->SqL K (unT H) p xs:=λh=>by
 rcases h with (h|⟨o,h⟩)|h
 . exact .inl (.inl (PJ h rfl))
 . exact .inl (.inr ⟨o,PJ h rfl⟩)
 . exact .inr h
def aC7(h0:aP E.z0 (unT H))(hf:aP E.f0 λ_=>none)(h:HR E.K vs H Q X):gF E xW vs H Q X:=by
 obtain⟨p,ns,e,hS,hl,q⟩:=h;subst e;refine⟨[.scr ns],unT H,λ_=>none,λ_=>none,λx _=>x= .bl true,⟨.ref p,[],rfl,⟨p,rfl,YO hS⟩,rfl⟩,⟨λa o z=>(AW z).1,(λa o z=>nomatch z),(λa o z=>nomatch z),h0,hf,λa o z=>(AW z).2,λa o z=>nomatch z⟩,⟨ns,rfl,hl,λ_=>rfl⟩,?_⟩;intro x v Z1 G1 H1 s1 S1 r1 e;subst e;have e:v= .bl true:=r1;subst e;exact q H1
def JZ{K:W.Frag}{H:Hp}{a:Addr}{ns:List Int}(hl:ns.length<=63)(_:RX H)(h:SqL K H a (ns.map V.int)):HR K [.ref a] H (λv _=>v= .bl true) λ_ _ _=>False:=⟨a,ns,rfl,h,hl,λ_=>rfl⟩
def YL{K:W.Frag}{x qual:Str}{st:Stmt}{f:Addr}{oc:Value}{od an:Option Addr}{osl:Array (Option Value)}{dV kV doc pm cdv ct:Value}(l:K.lookup f=some ⟨oc,od,.func (W.fnOf x qual (gK st) (dC st) (bZ st) dV kV doc pm an cdv ct),osl⟩)
   (c:W.codeIn K cdv qual=true) (k:W.keepIn K (.ref f)=true):aW K x qual st dV f (W.fnOf x qual (gK st) (dC st) (bZ st) dV kV doc pm an cdv ct):=⟨⟨oc,od,kV,doc,pm,an,cdv,ct,osl,rfl,l,c⟩,k⟩
def aW.binds{K:W.Frag}{x qual:Str}{st:Stmt}{dV:Value}{f:Addr}{fd:J8}{ps:List Str}(F:aW K x qual st dV f fd)
   (h:∀(kV doc pm:Value) (an:Option Addr) (cdv ct:Value) (s:J5) (us:List Value),K.In s.heap->us.length=ps.length->BindsTo s (W.fnOf x qual (gK st) (dC st) (bZ st) dV kV doc pm an cdv ct) ⟨us,[]⟩ (ps.zip us)):L2.bG K fd ps []:=by
 obtain⟨oc,od,kV,doc,pm,an,cdv,ct,osl,rfl,lk,hcd⟩:=F.ex;intro s us hK hl;rw[List.append_nil] at hl ⊢;exact h kV doc pm an cdv ct s us hK hl
def aW.sh{K:W.Frag}{x qual:Str}{st:Stmt}{dV:Value}{f:Addr}{fd:J8}{ps:List Str}{n:Nat}{ks:List Str}{ar:List Ar}(F:aW K x qual st dV f fd)(hl:ar.length=ps.length)
   (h:∀(kV doc pm:Value) (an:Option Addr) (cdv ct:Value) (s:J5) (us ws:List Value),K.In s.heap->us.length=n->ws.length=ks.length->∃bs,BindsTo s (W.fnOf x qual (gK st) (dC st) (bZ st) dV kV doc pm an cdv ct) ⟨us,ks.zip ws⟩ (ps.zip bs)/\∀vs zs,aI vs us->aI zs ws->aI (ar.map (Ar.valV (vs++zs))) bs):fP K fd ps n ks ar:=by
 obtain⟨oc,od,kV,doc,pm,an,cdv,ct,osl,rfl,lk,hcd⟩:=F.ex;exact⟨hl,h kV doc pm an cdv ct⟩
noncomputable def Ar.valB(us:List Value):Ar->Value
 | .arg i=>us.getD i .none
 | .bl b=>.bool b
 | _=>.none
noncomputable def Ar.smp:Ar->Bool
 | .int _=>false
 | .str _=>false
 | _=>true
theorem GH(r:aI vs us):∀{ar:List Ar},ar.all Ar.smp=true->aI (ar.map (Ar.valV vs)) (ar.map (Ar.valB us))
 | [],_=>.nil
 | a::t,h=>by
   rw[List.all_cons,Bool.and_eq_true] at h;refine .cons ?_ (GH r h.2);cases a with
   | arg i =>
     show aM (vs.getD i .non) (us.getD i .none);rw[List.getD_eq_getElem?_getD,List.getD_eq_getElem?_getD];cases e:vs[i]? with
     | none =>
       rw[List.getElem?_eq_none_iff] at e;rw[List.getElem?_eq_none_iff.mpr (by rw[<-r.length];exact e)];rfl
     | some x =>
       obtain⟨u,hu,k⟩:=r.get e;rw[hu];exact k
   | non=>rfl
   | bl b=>rfl
   | int i=>cases h.1
   | str x=>cases h.1
def aW.sh2{K:W.Frag}{x qual:Str}{st:Stmt}{dV:Value}{f:Addr}{fd:J8}{ps:List Str}{n:Nat}{ks:List Str}{ar:List Ar}(F:aW K x qual st dV f fd)
   (h:∀(kV doc pm:Value) (an:Option Addr) (cdv ct:Value) (s:J5) (us ws:List Value),K.In s.heap->us.length=n->ws.length=ks.length->BindsTo s (W.fnOf x qual (gK st) (dC st) (bZ st) dV kV doc pm an cdv ct) ⟨us,ks.zip ws⟩ (ps.zip (ar.map (Ar.valB (us++ws))))) (hl:ar.length=ps.length:=by rfl) (hs:ar.all Ar.smp=true:=by rfl):fP K fd ps n ks ar :=
 F.sh hl λkV doc pm an cdv ct s us ws hK hu hw=>⟨_,h kV doc pm an cdv ct s us ws hK hu hw,λ_ _ r rz=>GH (r.append rz) hs⟩
structure FM(P:J7)(w:World)(K:W.Frag)(mg:Str->Option Value)(base:Heap)(E:Ev)(T:Tb)(lv:Nat)(ad:Addr)(fd:J8)(ps:List Str)(x:Str):Prop where
 ok:bM P w K mg base CX0 lv ad fd ps (gF E (T.S x))
 kp:W.keepIn K (.ref ad)=true
 bd:L2.bG K fd ps []
section
variable{P:J7}{w:World}{K:W.Frag}{mg:Str->Option Value}{base:Heap}{E:Ev}{T:Tb}{lv k:Nat}{ad:Addr}{fd:J8}{ps:List Str}{x:Str}
def FM.g(h:FM P w K mg base E T lv ad fd ps x)(m:mg x=some (.ref ad))(hk:lv<=k:=by decide)(db:(x==("__debug__":Str))=false:=by decide +kernel):∃ad fd ps,Fk P w K mg base E T k x x ad fd ps/\L2.bG K fd ps []:=⟨_,_,_,⟨h.ok.mono hk,m,h.kp,db⟩,h.bd⟩
def FM.s(h:FM P w K mg base E T lv ad fd ps x)(m:mg x=some (.ref ad))(sh:fP K fd ps n ks ar)(hk:lv<=k:=by decide)(db:(x==("__debug__":Str))=false:=by decide +kernel):∃ad fd ps,Fk P w K mg base E T k x x ad fd ps/\fP K fd ps n ks ar:=⟨_,_,_,⟨h.ok.mono hk,m,h.kp,db⟩,sh⟩
end
def FJ{mg:Str->Option Value}(h:mg x=some (.int i t)):∃u v,mg x=some u/\aM v u/\RP E (λ_=>none) (.int i) v:=⟨_,.int i,h,⟨t,rfl⟩,rfl⟩
def aCg{E:Ev}{mg:Str->Option Value}{x:Str}(h:mg x=some (.ref a))(e:E.cls c=a):∃u v,mg x=some u/\aM v u/\RP E (λ_=>none) (.cl c) v:=⟨_,.ref a,h,rfl,by rw[<-e];rfl⟩
def WH{E:Ev}{K:W.Frag}{mg:Str->Option Value}{x:Str}{n:Nat}{sl:Array (Option Value)}(hK:E.K=K)(h:mg x=some (.ref a))(l:K.lookup a=some ⟨.type "tuple",none,.seq #[.int i t,.int j u,.int k v] n,sl⟩):∃u v,mg x=some u/\aM v u/\RP E (λ_=>none) (.tup [.int i,.int j,.int k]) v :=
 ⟨_,.ref a,h,rfl,a,[.int i,.int j,.int k],rfl,.inr ⟨_,_,_,by rw[hK];exact l,rfl,rfl,by show 3<=sizeLine;decide,.cons ⟨t,rfl⟩ (.cons ⟨u,rfl⟩ (.cons ⟨v,rfl⟩ .nil)),rfl⟩,_,_,rfl,rfl,_,_,rfl,rfl,_,_,rfl,rfl,rfl⟩
def nZ{mg:Str->Option Value}(h:∃u v,mg x=some u/\aM v u/\RP E (λ_=>none) y v)(e:z=y):∃u v,mg x=some u/\aM v u/\RP E (λ_=>none) z v:=e▸h
end L3
namespace L3
open PySem PySem.W PyProof.Rows
def aEf{p q:J7}{loose:List Str}{Xt:J5->Bool}{α:Type}{Yf:J5->α}{Ya:World->α}{N:Nat}{g0:Bool}{H₀:Params->Heap}{gs₀:Array GenState}{d₀:Drawn}{k₀ m₀:Nat}{ann:Option Value}{M:Nat}
   (open_:∀w:World,(fencedOpening treeTable p w N).map (λs=>(s.heap,s.gens,s.drawn,s.toks))=some (H₀ w.params,gs₀,d₀,k₀))
   (size:∀w:World,((H₀ w.params).isNs mainGlobals&&gs₀.size==0,(H₀ w.params).objs.size,(H₀ w.params).nsMap mainGlobals "__annotations__")=(true,m₀,ann)) (le:Nat.ble M N=true)
   (run:∀(w:World) (os:OsState),∃s₁,topRun treeTable p w m₀ ann M ⟨H₀ w.params,gs₀,d₀,k₀,os⟩ (topStub p)=some s₁/\
     (staticsOk (importedModules p.main.body) (H₀ w.params) s₁.heap&&namesBound p s₁.heap&&gensDone s₁&&laidKept (H₀ w.params) s₁.heap,openSeen q loose (importedModules p.main.body) Xt g0 s₁,Yf s₁)=(true,openGood q loose,Ya w)):LeftO p q loose Xt Yf Ya N g0:=λw=>by
 obtain⟨⟨h,gs,d,k,os⟩,e,e'⟩:=Option.map_eq_some_iff.mp (open_ w);obtain⟨rfl,rfl,rfl,rfl⟩:h=H₀ w.params/\gs=gs₀/\d=d₀/\k=k₀:=by simpa using e'
 obtain⟨z1,z2,z3⟩:_/\_/\_:=by simpa only [Prod.mk.injEq] using size w
 obtain⟨s₁,r,l⟩:=run w os;obtain⟨l1,l2,l3⟩:_/\_/\_:=by simpa only [Prod.mk.injEq] using l
 have r:=topRun_mono (N-M) _ _ _ _ r;rw[show M+(N-M)=N by have:=Nat.le_of_ble_eq_true le;omega] at r;have t:topFrom treeTable p w N ⟨H₀ w.params,gs,d,k,os⟩=some s₁:=by
   unfold topFrom;dsimp only;rw[z1,z2,z3,r];show(match staticsOk (importedModules p.main.body) (H₀ w.params) s₁.heap&&namesBound p s₁.heap&&gensDone s₁&&laidKept (H₀ w.params) s₁.heap with|true=>_|false=>_)=_;rw[l1]
 unfold openEnds;rw[e];show(topFrom treeTable p w N _).map _=_;rw[t];exact congrArg some (Prod.ext l2 l3)
noncomputable def ZK(o:Option (J5×Thread))(s:J5):J5:=match o with|some x=>x.1|none=>s
noncomputable def aAg(o:Option (Flow×J5×Code×Pos))(s:J5):J5:=match o with|some x=>x.2.1|none=>s
end L3
namespace L3
open PySem PySem.Spec
open PyProof.Rows hiding St
open L2
local macro_rules|`(%[$x|_])=>`(CE.cons $x CE.nil)|`(%[$x,$y,*|_])=>`(CE.cons $x %[$y,*|_])
section
variable{G:Gh}{Q:PK1}{x y:PV}{i j:Int}{s:Str}{b c:Bool}{a:Addr}
theorem cS:pI C g (.int i) (.int j) G Q=(C i j/\Q (g i j) G):=rfl
theorem cK:vI .Add=vR:=rfl
theorem eQ:vI .Sub=pI (λ_ _=>True) λi j=>.int (i-j):=rfl
theorem dG:vI .Mult (.int i) (.int j) G Q=(mZ i j/\Q (.int (i*j)) G):=rfl
theorem aEL:vI .Mult (.tup xs) (.int j) G Q=(xs≠[]/\1<=j/\xs.length*j.toNat<=10000/\Q (.tup (List.replicate j.toNat xs).flatten) G):=rfl
theorem jH:vI .FloorDiv=pI rA λi j=>.int (i/j):=rfl
theorem sT:vI .Mod=pI aAf λi j=>.int (i%j):=rfl
theorem UE:vI .Pow=pI MU λi j=>.int (i^j.toNat):=rfl
theorem eX:vR (.int i) (.int j) G Q=Q (.int (i+j)) G:=rfl
theorem aDt:vR (.str s) (.str t) G Q=(s.length+t.length<=sizeLine/\Q (.str (s++t)) G):=rfl
def eO:vR (.lst xs) (.lst ys) G Q=(xs.length+ys.length<=sizeLine/\Q (.lst (xs++ys)) G):=by
 show(∃xs' ys',some xs=some xs'/\some ys=some ys'/\_)=_;exact propext ⟨by rintro⟨_,_,e1,e2,h⟩;cases e1;cases e2;exact h,λh=>⟨_,_,rfl,rfl,h⟩⟩
theorem BU:vR (.tup xs) (.tup ys) G Q=(xs.length+ys.length<=sizeLine/\Q (.tup (xs++ys)) G):=rfl
theorem rS:jK .Lt=pI (λ_ _=>True) λi j=>.bl (decide (i<j)):=rfl
theorem kH:jK .LtE=pI (λ_ _=>True) λi j=>.bl (decide (i<=j)):=rfl
theorem rV:jK .Gt=pI (λ_ _=>True) λi j=>.bl (decide (j<i)):=rfl
theorem zA:jK .GtE=pI (λ_ _=>True) λi j=>.bl (decide (j<=i)):=rfl
theorem cO:jK .Eq=pEq false:=rfl
theorem mK:jK .NotEq=pEq true:=rfl
theorem zN:jK .Is=pIs false:=rfl
theorem AE:jK .IsNot=pIs true:=rfl
def dH:pEq false (.int i) (.int j) G Q=Q (.bl (decide (i=j))) G:=by
 show(true=true/\true=true/\Q (.bl (i==j)) G)=_;simp only[true_and];congr 2
def vB:pEq true (.int i) (.int j) G Q=Q (.bl (!decide (i=j))) G:=by
 show(true=true/\true=true/\Q (.bl (!(i==j))) G)=_;simp only[true_and];congr 2
theorem gG:pG (.bl b) G R=R b G:=rfl
theorem aDp:pG .non G R=R false G:=rfl
theorem aDB:pG (.tup xs) G R=R (!xs.isEmpty) G:=rfl
theorem jG:WZ (.int i) G Q=Q (.int (-i)) G:=rfl
def vH:pIs false .non .non G Q=Q (.bl true) G:=propext ⟨λh=>h.elim (λz=>z.2) (λz=>absurd rfl z.1),λh=>.inl ⟨rfl,h⟩⟩
def sM:pIs true .non .non G Q=Q (.bl false) G:=propext ⟨λh=>h.elim (λz=>z.2) (λz=>absurd rfl z.1),λh=>.inl ⟨rfl,h⟩⟩
def yE(h:x≠.non):pIs false x .non G Q=Q (.bl false) G:=propext ⟨λz=>z.elim (λz=>absurd z.1 h) (λz=>z.2),λq=>.inr ⟨h,q⟩⟩
def GD(h:x≠.non):pIs true x .non G Q=Q (.bl true) G:=propext ⟨λz=>z.elim (λz=>absurd z.1 h) (λz=>z.2),λq=>.inr ⟨h,q⟩⟩
theorem dE:gR (.tup xs) (.int i) G Q=(∃v,atI xs i=some v/\Q v G):=rfl
theorem PC:gR (.scr ns) (.int i) G Q=(∃n,atI ns i=some n/\Q (.int n) G):=rfl
def aX:gR (.lst xs) (.int i) G Q=(∃v,atI xs i=some v/\Q v G):=by
 show(∃ys v,some xs=some ys/\_)=_;exact propext ⟨by rintro⟨_,v,e1,h⟩;cases e1;exact⟨v,h⟩,by rintro⟨v,h⟩;exact⟨_,v,rfl,h⟩⟩
def gS(h:G a=some (.lst xs)):bE G (.ref a)=some xs:=by unfold bE;dsimp only;rw[h]
theorem aDc:bE G (.lst xs)=some xs:=rfl
def AZ(h:G a=some (.lst xs)):gR (.ref a) (.int i) G Q=(∃v,atI xs i=some v/\Q v G):=by
 show(∃ys v,bE G (.ref a)=some ys/\_)=_;rw[gS h];exact propext ⟨by rintro⟨_,v,e1,h⟩;cases e1;exact⟨v,h⟩,by rintro⟨v,h⟩;exact⟨_,v,rfl,h⟩⟩
def BZ:gR (.ref a) (.int i) (gup G a (.lst xs)) Q=(∃v,atI xs i=some v/\Q v (gup G a (.lst xs))):=AZ aO
def CF(h:G a=some (.lst xs)):DE (.ref a) (.int i) v G R=(∃j,ixN xs.length i=some j/\R (gup G a (.lst (xs.set j v)))):=propext
 ⟨by rintro⟨_,_,_,j,e1,e2,e3,e4,r⟩;cases e1;cases e2;rw[h] at e3;cases e3;exact⟨j,e4,r⟩,by rintro⟨j,e4,r⟩;exact⟨_,_,_,j,rfl,rfl,h,e4,r⟩⟩
def QU:DE (.ref a) (.int i) v (gup G a (.lst xs)) R=(∃j,ixN xs.length i=some j/\R (gup G a (.lst (xs.set j v)))):=by
 rw[CF aO];simp only[kX]
variable{cs:List J6}
def iZ:bU cs .len [.tup xs] G Q=Q (.int xs.length) G:=by
 refine propext ⟨λh=>?_,λq=>.inl ⟨_,rfl,q⟩⟩;rcases h with ⟨ys,e,q⟩|⟨ys,e,q⟩|⟨z,e,_⟩|⟨ys,e,q⟩
 . cases e;exact q
 . cases e
 . cases e
 . cases e
def AM:bU cs .len [.scr xs] G Q=Q (.int xs.length) G:=by
 refine propext ⟨λh=>?_,λq=>.inr (.inl ⟨_,rfl,q⟩)⟩;rcases h with ⟨ys,e,q⟩|⟨ys,e,q⟩|⟨z,e,_⟩|⟨ys,e,q⟩
 . cases e
 . cases e;exact q
 . cases e
 . cases e
def hU:bU cs .len [.lst xs] G Q=Q (.int xs.length) G:=by
 refine propext ⟨λh=>?_,λq=>.inr (.inr (.inr ⟨_,rfl,q⟩))⟩;rcases h with ⟨ys,e,q⟩|⟨ys,e,q⟩|⟨z,e,_⟩|⟨ys,e,q⟩
 . cases e
 . cases e
 . cases e
 . cases e;exact q
theorem sN:bU cs .abs [.int i] G Q=Q (.int (i.natAbs:Int)) G:=rfl
theorem BT:bU cs .max [.int i,.int j] G Q=Q (.int (max i j)) G:=rfl
theorem AR:bU cs .min [.int i,.int j] G Q=Q (.int (min i j)) G:=rfl
theorem aE7:bU cs .int [.int i] G Q=Q (.int i) G:=rfl
theorem HK:bU cs .int [.bl b] G Q=Q (.int (if b then 1 else 0)) G:=rfl
def HL(h:oW x G=some n):bU cs .isi [x,.ty T] G Q=(T∈pB/\Q (.bl (AH n T)) G):=propext
 ⟨by rintro⟨hT,h'⟩;exact⟨hT,by
   rcases h' with ⟨m,e,q⟩|⟨c,e,_,q⟩
   . rw[h] at e;cases e;exact q
   . exfalso;cases x<;>first|(cases e;done)|skip
     . cases h
     . unfold oW at h;unfold JV at e;dsimp only at h e;split at h
       . rename_i q;rw[q] at e;cases e
       . cases h⟩,by rintro⟨hT,q⟩;exact⟨hT,.inl ⟨n,h,q⟩⟩⟩
theorem aEM:oW (.int i) G=some "int":=rfl
theorem aFq:oW (.bl b) G=some "bool":=rfl
theorem aDf:oW (.str s) G=some "str":=rfl
theorem aFc:oW .non G=some "NoneType":=rfl
theorem aEr:oW (.tup xs) G=some "tuple":=rfl
theorem aDO:oW (.lst xs) G=some "list":=rfl
def TH:bU cs .isi [.int i,.ty T] G Q=(T∈pB/\Q (.bl (AH "int" T)) G):=HL rfl
def mU:bU cs .isi [.tup xs,.ty T] G Q=(T∈pB/\Q (.bl (AH "tuple" T)) G):=HL rfl
def VL{c:J6}:bU cs .isi [.ob c ns xs,.cl c] G Q=(c∈cs/\Q (.bl true) G):=propext
 ⟨by rintro⟨hc,h'⟩;exact⟨hc,by
   rcases h' with ⟨m,e,q⟩|⟨c',e,_,q⟩
   . cases e
   . cases e;rw[decide_eq_true rfl] at q;exact q⟩,by rintro⟨hc,q⟩;exact⟨hc,.inr ⟨c,rfl,hc,by rw[decide_eq_true rfl];exact q⟩⟩⟩
def eZ:bU cs .tuple [.lst xs] G Q=Q (.tup xs) G:=propext
 ⟨λh=>by
   rcases h with ⟨ys,e,q⟩|⟨ys,e,q⟩
   . cases e
   . cases e;exact q,λq=>.inr ⟨_,rfl,q⟩⟩
def QI(h:G a=some (.lst xs)):bU cs .tuple [.ref a] G Q=Q (.tup xs) G:=propext
 ⟨λh'=>by
   rcases h' with ⟨ys,e,q⟩|⟨ys,e,q⟩
   . cases e
   . rw[gS h] at e;cases e;exact q,λq=>.inr ⟨_,gS h,q⟩⟩
def CG:bU cs .tuple [.ref a] (gup G a (.lst xs)) Q=Q (.tup xs) (gup G a (.lst xs)):=QI aO
def BI:bU cs .all [.lst xs] G Q=(∃b,vW xs=some b/\Q (.bl b) G):=propext
 ⟨by rintro⟨_,b,e,eb,q⟩;cases e;exact⟨b,eb,q⟩,by rintro⟨b,eb,q⟩;exact⟨_,b,rfl,eb,q⟩⟩
theorem tR:lO true G xs Q= ∀p,G p=none->Q (.ref p) (gup G p (.lst xs)):=rfl
theorem bW:lO false G xs Q=Q (.lst xs) G:=rfl
theorem jO:pA (.tup xs) G R=R (λ_=>True) xs G:=rfl
theorem gC:pA (.lst xs) G R=R (λ_=>True) xs G:=rfl
theorem aEV:pA (.scr xs) G R=R (λ_=>True) (xs.map .int) G:=rfl
def HS{α:Type}{v:α}{R:α->Prop}:(∃c,some v=some c/\R c)=R v:=propext ⟨by rintro⟨_,e,r⟩;cases e;exact r,λr=>⟨v,rfl,r⟩⟩
end
def at0{α:Type}{x:α}{xs:List α}:atI (x::xs) 0=some x:=cU (xs:=x::xs) (j:=0) rfl
def at1{α:Type}{x y:α}{xs:List α}:atI (x::y::xs) 1=some y:=cU (xs:=x::y::xs) (j:=1) rfl
def at2{α:Type}{x y z:α}{xs:List α}:atI (x::y::z::xs) 2=some z:=cU (xs:=x::y::z::xs) (j:=2) rfl
def at3{α:Type}{x y z u:α}{xs:List α}:atI (x::y::z::u::xs) 3=some u:=cU (xs:=x::y::z::u::xs) (j:=3) rfl
theorem aFp:(aN Q).rt=Wk Q:=rfl
theorem aFr:(aN Q).nx Y G=Wk Q .non G:=rfl
def aD:("int"∈pB)=True/\("bool"∈pB)=True/\("tuple"∈pB)=True/\("str"∈pB)=True/\("list"∈pB)=True:=⟨eq_true ddq,eq_true ddq,eq_true ddq,eq_true ddq,eq_true ddq⟩
def aBk:AH "int" "int"=true:=by decide
def aBq:AH "int" "bool"=false:=by decide
def uE:AH "tuple" "tuple"=true:=by decide
def sz2:(2:Nat)<=sizeLine:=by decide
def sz1:(1:Nat)<=sizeLine:=by decide
def sz3:(3:Nat)<=sizeLine:=by decide
def szN(h:n<=1000):n<=sizeLine:=Nat.le_trans h ddq
structure Hd(p:Prop):Prop where
 o:p
def kW(P:∀N:PSt->Gh->Prop,Hd (∀Y' G',wpS T b D Y' G'->N Y' G')->wpS T a {D with nx:=N} Y G):wpS T (.seq a b) D Y G:=P _ ⟨λ_ _ h=>h⟩
noncomputable def FQ(q:Rat):PV:=.tup [.int q.num,.int (q.den:Int)]
def fK:Sp3:=λxs G Q=>∃i,xs=[.int i]/\Q (.bl true) G
def nY:Sp3:=λxs G Q=>∃i j:Int,xs=[.int i,.int j]/\0<=i/\0<=j/\Q (.int (Int.gcd i j)) G
def mH:Sp3:=λxs G Q=>∃q,xs=[FQ q]/\Q (.bl true) G
def cI:Sp3:=λxs G Q=>∃t b:Int,xs=[.int t,.int b]/\b≠0/\Sm 9000 b/\Q (FQ (Rat.divInt t b)) G
def Bd(n:Nat)(q:Rat):Prop:=Sm n q.num/\Sm n (q.den:Int)
def Bd.mono{n m:Nat}{q:Rat}(h:Bd n q)(e:n<=m):Bd m q:=⟨h.1.mono e,h.2.mono e⟩
def NB{t b:Int}(hb:b≠0):0<b.gcd t:=Int.gcd_pos_of_ne_zero_left _ hb
def Bd.divInt(ht:Sm n t)(hb:Sm n b)(h0:b≠0):Bd n (Rat.divInt t b):=by
 have gp:(0:Int)<(b.gcd t:Int):=by have:=NB (t:=t) h0;omega
 constructor
 . rw[Rat.num_divInt];have e:Sm n (b.sign*t):=by
     rcases Int.lt_trichotomy b 0 with z|z|z
     . rw[Int.sign_eq_neg_one_of_neg z,Int.neg_one_mul];exact ht.neg
     . exact absurd z h0
     . rw[Int.sign_eq_one_of_pos z,Int.one_mul];exact ht
   exact e.div gp
 . rw[Rat.den_divInt,j9 h0];have e:Sm n ((b.natAbs:Int)):=by unfold Sm at *;omega
   have:=e.div gp;rw[Int.natCast_ediv];exact this
def DF(hb:0<b):FQ (Rat.divInt t b)= .tup [.int (t/(Int.gcd t b:Int)),.int (b/(Int.gcd t b:Int))]:=by
 unfold FQ;rw[Rat.num_divInt,Rat.den_divInt,j9 ooq,Int.sign_eq_one_of_pos hb,Int.one_mul,Int.gcd_comm,Int.natCast_ediv];have:(b.natAbs:Int)=b:=by omega
 rw[this]
def ZI(a b:Rat):Rat.divInt (a.num*(b.den:Int)+b.num*(a.den:Int)) ((a.den:Int)*(b.den:Int))=a+b:=by
 rw[Rat.add_def',<-Rat.divInt_ofNat,Int.natCast_mul]
def aAn(a b:Rat):Rat.divInt (a.num*(b.den:Int)-b.num*(a.den:Int)) ((a.den:Int)*(b.den:Int))=a-b:=by
 rw[Rat.sub_def',<-Rat.divInt_ofNat,Int.natCast_mul]
def ZT(a b:Rat):Rat.divInt (a.num*b.num) ((a.den:Int)*(b.den:Int))=a*b:=by
 rw[Rat.mul_def',<-Rat.divInt_ofNat,Int.natCast_mul]
def fE{q:Rat}:(q.den:Int)≠0:=by have:=q.den_pos;omega
def bA{q:Rat}:(0:Int)<q.den:=by have:=q.den_pos;omega
def pF{a b:Int}(ha:a≠0)(hb:b≠0):a*b≠0:=Int.mul_ne_zero ha hb
def Bd.add(ha:Bd n a)(hb:Bd m b)(e:n+m+1<=l):Bd l (a+b):=by
 rw[<-ZI];refine Bd.divInt ?_ ?_ (pF fE fE)
 . exact((ha.1.mul hb.2)).add ((hb.1.mul ha.2).mono ooq) e
 . exact(ha.2.mul hb.2).mono ooq
def Bd.sub(ha:Bd n a)(hb:Bd m b)(e:n+m+1<=l):Bd l (a-b):=by
 rw[<-aAn];refine Bd.divInt ?_ ?_ (pF fE fE)
 . exact((ha.1.mul hb.2)).sub ((hb.1.mul ha.2).mono ooq) e
 . exact(ha.2.mul hb.2).mono ooq
def Bd.mul(ha:Bd n a)(hb:Bd m b)(e:n+m<=l):Bd l (a*b):=by
 rw[<-ZT];exact Bd.divInt ((ha.1.mul hb.1).mono e) ((ha.2.mul hb.2).mono e) (pF fE fE)
def Bd.int(h:Sm n i)(e:1<=n):Bd n (i:Rat):=⟨h,by
 show Sm n ((1:Nat):Int);unfold Sm;have:2^1<=2^n:=Nat.pow_le_pow_right ddq e;show 1<2^n;omega⟩
theorem DU:PV.tup [.int i,.int 1]=FQ (i:Rat):=rfl
def smK(a: -1000000000000<=x)(b:x<1000000000000)(e:41<=n):Sm n x:=by
 have:Sm 41 x:=by unfold Sm;omega
 exact this.mono e
def HP:Sp3:=λxs G Q=>∃qs:List Rat,xs=[.tup (qs.map FQ)]/\qs.length<=2/\Q .non G
def jD:Sp3:=λxs G Q=>∃a b,xs=[FQ a,FQ b]/\Bd 4000 a/\Bd 4000 b/\Q (FQ (a+b)) G
def kF:Sp3:=λxs G Q=>∃a b,xs=[FQ a,FQ b]/\Bd 4000 a/\Bd 4000 b/\Q (FQ (a-b)) G
def fL:Sp3:=λxs G Q=>∃a b,xs=[FQ a,FQ b]/\Bd 4000 a/\Bd 4000 b/\Q (FQ (a*b)) G
def yI:Sp3:=λxs G Q=>∃a b,xs=[FQ a,FQ b]/\Bd 4000 a/\Bd 4000 b/\b≠0/\Q (FQ (a/b)) G
def oH:Sp3:=λxs G Q=>∃a b,xs=[FQ a,FQ b]/\Bd 4000 a/\Bd 4000 b/\Q (.bl (decide (a<b))) G
noncomputable def nw(q:Rat):Int:=(2*q.num+(q.den:Int))/(2*(q.den:Int))
def CP:Sp3:=λxs G Q=>∃a,xs=[FQ a]/\Bd 8900 a/\Q (.int (nw a)) G
def kN:Sp3:=λxs G Q=>∃a,xs=[FQ a]/\0<=a/\a<=1/\Q (.bl true) G
def SH(a b c:Rat):PV:=.ob "Shade" ["ember","leaf","sky"] [FQ a,FQ b,FQ c]
def In1(a:Rat):Prop:=0<=a/\a<=1
def mV:Sp3:=λxs G Q=>∃a b c,xs=[FQ a,FQ b,FQ c]/\In1 a/\In1 b/\In1 c/\Q (SH a b c) G
def uD:Sp3:=λxs G Q=>∃p a b c,xs=[.ref p,FQ a,FQ b,FQ c]/\G p=some (.ins "Shade" [] [])/\In1 a/\In1 b/\In1 c/\Q .non (gup G p (.ins "Shade" ["ember","leaf","sky"] [FQ a,FQ b,FQ c]))
def fO:Sp3:=λxs G Q=>∃a b c,xs=[SH a b c]/\Q (.bl true) G
def nU:Sp3:=λxs G Q=>∃a b c,xs=[SH a b c]/\Q .non G
def bV:Sp3:=λxs G Q=>∃a b c,xs=[SH a b c]/\Q (.tup [FQ a,FQ b,FQ c]) G
def oQ:Sp3:=λxs G Q=>∃x a b c,xs=[x]/\bE G x=some [FQ a,FQ b,FQ c]/\In1 a/\In1 b/\In1 c/\Q (SH a b c) G
def uR:Sp3:=λxs G Q=>∃g:Int,xs=[.int g]/\1<=g/\g<=1000/\Q .non G
def DR:Sp3:=λxs G Q=>∃g:Int,xs=[.int g]/\1<=g/\g<=1000/\Q (.bl true) G
def sF:Sp3:=λxs G Q=>∃s g:Int,xs=[.int s,.int g]/\0<=s/\s<=g/\Q (.bl true) G
def lZ:Sp3:=λxs G Q=>∃s g:Int,xs=[.int s,.int g]/\0<=s/\s<=g/\Q .non G
def stp(a:Rat)(g:Int):PV:=.int (nw (a*(g:Rat)))
def wV:Sp3:=λxs G Q=>∃a b c g,xs=[SH a b c,.int g]/\1<=g/\g<=1000/\Bd 3000 a/\Bd 3000 b/\Bd 3000 c/\Q (.tup [stp a g,stp b g,stp c g]) G
noncomputable def aBD(s g:Int):Rat:=Rat.divInt (max (2*s-1) 0) (2*g)
noncomputable def aAU(s g:Int):Rat:=if s=g then 1 else Rat.divInt (2*s+1) (2*g)
def OJ:Sp3:=λxs G Q=>∃s g:Int,xs=[.int s,.int g]/\1<=g/\g<=1000/\0<=s/\s<=g/\Q (.tup [FQ (aBD s g),FQ (aAU s g),.bl (decide (s=g))]) G
structure PT(T:Tb):Prop where
 is_whole:T.S "is_whole"=fK
 common:T.S "common"=nY
 is_fraction:T.S "is_fraction"=mH
 lowest:T.S "lowest"=cI
 need_fractions:T.S "need_fractions"=HP
 plus:T.S "plus"=jD
 minus:T.S "minus"=kF
 times:T.S "times"=fL
 over:T.S "over"=yI
 below:T.S "below"=oH
 nearest_whole:T.S "nearest_whole"=CP
 is_share:T.S "is_share"=kN
 shade:T.S "Shade"=mV
 shadeI:T.S "Shade.__init__"=uD
 is_shade:T.S "is_shade"=fO
 need_shade:T.S "need_shade"=nU
 shares_of:T.S "shares_of"=bV
 shade_of:T.S "shade_of"=oQ
 is_grade:T.S "is_grade"=DR
 need_grade:T.S "need_grade"=uR
 is_step:T.S "is_step"=sF
 need_step:T.S "need_step"=lZ
 printed:T.S "printed"=wV
 span_of:T.S "span_of"=OJ
 gv_ONE:T.gv "ONE"=FQ 1
 gv_ZERO:T.gv "ZERO"=FQ 0
 gv_MOST_GRADE:T.gv "MOST_GRADE"= .int 1000
 gv_Shade:T.gv "Shade"= .cl "Shade"
 cs: "Shade"∈T.cs
 fl_e:("Shade",("ember":Str))∈T.fl
 fl_l:("Shade",("leaf":Str))∈T.fl
 fl_s:("Shade",("sky":Str))∈T.fl
 ty_int:T.gv "int"= .ty "int"
 ty_bool:T.gv "bool"= .ty "bool"
 ty_tuple:T.gv "tuple"= .ty "tuple"
def NF:gR (FQ q) (.int 0) G Q=Q (.int q.num) G:=by unfold FQ;rw[dE,at0,HS]
def NE:gR (FQ q) (.int 1) G Q=Q (.int q.den) G:=by unfold FQ;rw[dE,at1,HS]
def jL:(FQ a=FQ b)=(a=b):=propext ⟨λh=>by
 unfold FQ at h;injection h with h;injection h with h1 h;injection h with h2 _;injection h1 with h1;injection h2 with h2;exact Rat.ext h1 ooq,λh=>by rw[h]⟩
def aBU{q:Rat}:(1:Int)<=q.den:=by have:=q.den_pos;omega
def aAs{q:Rat}:Int.gcd (q.num.natAbs:Int) (q.den:Int)=1:=q.reduced
theorem oE:gE chk g tb D [] Y G=(chk G/\D.nx Y G):=rfl
theorem jZ:gE chk g tb D (x::r) Y G=(chk G/\g x Y G λY2 G2=>tb {D with nx:=gE chk g tb D r,ct:=gE chk g tb D r,bk:=D.nx} Y2 G2):=rfl
theorem fN:cL chk g ts te [] acc Y G Q=(chk G/\Q acc G):=rfl
theorem dM:cL chk g ts te (x::r) acc Y G Q=(chk G/\g x Y G λY2 G2=>ts Y2 G2 λok G3=>if ok=true then te Y2 G3 λy G4=>cL chk g ts te r (acc++[y]) Y2 G4 Q else cL chk g ts te r acc Y2 G3 Q):=rfl
theorem aDH:nM [a]=[.tup [.int 0,a]]:=rfl
theorem HJ:nM [a,b]=[.tup [.int 0,a],.tup [.int 1,b]]:=rfl
theorem GM:nM [a,b,c]=[.tup [.int 0,a],.tup [.int 1,b],.tup [.int 2,c]]:=rfl
theorem aGr:iW 0 (3:Int).toNat=[.int 0,.int 1,.int 2]:=rfl
theorem sZ:iW 0 3=[.int 0,.int 1,.int 2]:=rfl
def sY:(SH a b c=SH a' b' c')=(a=a'/\b=b'/\c=c'):=propext ⟨λh=>by
 unfold SH at h;injection h with _ _ h;injection h with h1 h;injection h with h2 h;injection h with h3 _;rw[jL] at h1 h2 h3;exact⟨h1,h2,h3⟩,by rintro⟨h1,h2,h3⟩;rw[h1,h2,h3]⟩
def mW0:=aD.1
def mW1:=aD.2.1
def mW2:=aD.2.2.1
def wk(s:J6):Lean.MacroM Lean.Syntax:=do
 let n<-(s.splitOn " ").filterMapM λx=>do if (<-Lean.Macro.resolveGlobalName x.toName).isEmpty then pure none else pure (some x.toName)
 let l<-n.mapM λx=>`(Lean.Parser.Tactic.simpLemma| $(Lean.mkIdent x):term)
 return (←`(tactic| simp only[$(l.toArray),*, *])).raw
def wqB:="wpS bJ bQ cR cE gA bP bS wpL wpT wpO wpI wpG cQ aN aC List.length_cons List.length_nil List.cons_append List.nil_append List.append_nil List.replicate Nat.reduceAdd Nat.reduceSub Nat.zero_add bI bK List.set_cons_zero List.set_cons_succ Option.some.injEq exists_eq_left' true_and and_true ite_self cS cO mW0 mW1 mW2 List.cons.injEq PV.int.injEq PV.bl.injEq PV.str.injEq PV.ref.injEq PV.tup.injEq and_assoc exists_and_left eq_self List.map Bool.not_true Bool.not_false Bool.and_self Bool.and_true Bool.true_and if_true if_false ite_true ite_false Bool.false_eq_true decide_eq_true_eq decide_true decide_false reduceCtorEq sz2 Wk.here cD bO List.getElem?_cons_zero List.getElem?_cons_succ cK bW gD Option.getD_some sz3 dO exists_false false_and and_false or_false Int.reduceToNat Int.reducePow"
local macro_rules | `(tactic| walk_at "rd") => wk (wqB++" wR iP tO ZX wY jH sT rS zA mK dH vB gG jG iZ sN TH mU aBk aBq uE GC HX fK nY")
section
variable{T:Tb}
noncomputable def lL:CS:=.ret (.an (.blt .isi %[.var 0,.glo "int"|_]) (.no (.blt .isi %[.var 0,.glo "bool"|_])))
def FP(h:PT T):∀xs G Q,fK xs G Q->wpS T lL (aN Q) (aC 1 xs) G:=by
 rintro xs G Q ⟨i,rfl,q⟩;unfold lL;have:=h.ty_int;have:=h.ty_bool;walk_at "rd"
def CK(hx:0<=x)(hy:0<y):Int.gcd y (x%y)=Int.gcd x y:=by
 rw[Int.gcd_comm x y];show y.natAbs.gcd (x%y).natAbs=y.natAbs.gcd x.natAbs;have e:(x%y).natAbs=x.natAbs%y.natAbs:=by rw[Int.natAbs_emod_of_nonneg hx]
 rw[e,Nat.gcd_rec y.natAbs x.natAbs,Nat.gcd_comm]
noncomputable def pQ:CS:=.seq (.wh (.tsb (.cmp .NotEq (.var 1) (.int 0))) (.par 0 1 (.var 1) (.bin .Mod (.var 0) (.var 1)))) (.ret (.var 0))
def TW(h:PT T):∀xs G Q,nY xs G Q->wpS T pQ (aN Q) (aC 2 xs) G:=by
 rintro xs G Q ⟨i,j,rfl,hi,hj,q⟩;unfold pQ;walk_at "rd"
 refine⟨λm Y H=>∃x y,Y=[some (.int x),some (.int y)]/\H=G/\0<=x/\0<=y/\Int.gcd x y=Int.gcd i j/\m=y.toNat,⟨_,i,j,rfl,rfl,hi,hj,rfl,rfl⟩,?_⟩;rintro m Y H ⟨x,y,rfl,rfl,hx,hy,hg,rfl⟩;walk_at "rd"
 split
 . rename_i hy0;have hy0:y≠0:=by simpa using hy0
   have h2:=Int.emod_lt_of_pos x (show 0<y by omega);have h3:=Int.emod_nonneg x (show y≠0 by omega);exact⟨by show 0<y;omega,(x%y).toNat,by omega,h3,(CK hx ooq).trans hg,rfl⟩
 . rename_i hy0;have e:y=0:=by simpa using hy0
   subst e;have g:((Int.gcd x 0:Nat):Int)=x:=by rw[Int.gcd_zero_right];omega
   refine Wk.here ?_;rw[<-g,hg];exact q
noncomputable def hX:CS:=.seq (.iff (.oo (.no (.tst (.blt .isi %[.var 0,.glo "tuple"|_]))) (.tsb (.cmp .NotEq (.blt .len %[.var 0|_]) (.int 2)))) (.ret (.bl false)) .nil) (.seq (.asg (.gt 2 %[.gn 1,.gn 2|_]) (.var 0)) (.ret (.an (.cal "is_whole" %[.var 1|_]) (.an (.cal "is_whole" %[.var 2|_]) (.an (.cmp .GtE (.var 2) (.int 1)) (.cmp .Eq (.cal "common" %[.blt .abs %[.var 1|_],.var 2|_]) (.int 1)))))))
def vX(h:PT T):∀xs G Q,mH xs G Q->wpS T hX (aN Q) (aC 3 xs) G:=by
 rintro xs G Q ⟨q,rfl,hq⟩;unfold hX;have:=h.ty_tuple;have:=h.is_whole;have:=h.common;have h1:=aBU (q:=q);have h2:=aAs (q:=q);unfold FQ;refine kW λN hN=>?_;walk_at "rd"
 refine hN.o _ _ ?_;clear hN N;refine kW λN hN=>?_;walk_at "rd"
 refine hN.o _ _ ?_;clear hN N;walk_at "rd"
 exact⟨by omega,by omega⟩
noncomputable def rB:CS:=.seq (.iff (.tsb (.cmp .Lt (.var 1) (.int 0))) (.par 0 1 (.neg (.var 0)) (.neg (.var 1))) .nil) (.seq (.asg (.gn 2) (.cal "common" %[.blt .abs %[.var 0|_],.var 1|_])) (.ret (.tup %[.bin .FloorDiv (.var 0) (.var 2),.bin .FloorDiv (.var 1) (.var 2)|_])))
def zD(t b:Int):Int.gcd (t.natAbs:Int) b=Int.gcd t b:=by show(t.natAbs:Int).natAbs.gcd _=_;rw[Int.natAbs_natCast];rfl
def yH(hb:0<b)(sb:Sm 9000 b):rA t (Int.gcd t b:Int)/\rA b (Int.gcd t b:Int):=by
 have gp:(0:Int)<(Int.gcd t b:Int):=by have:=Int.gcd_pos_of_ne_zero_right t (show b≠0 by omega);omega
 have gl:(Int.gcd t b:Int)<=b:=Int.le_of_dvd hb (Int.gcd_dvd_right _ _);have sg:Sm 9000 (Int.gcd t b:Int):=sb.le ooq gl;exact⟨FF gp sg,FF gp sg⟩
def OM(h:PT T):∀xs G Q,cI xs G Q->wpS T rB (aN Q) (aC 3 xs) G:=by
 rintro xs G Q ⟨t,b,rfl,h0,sb,hq⟩;unfold rB;have:=h.common;walk_at "rd"
 split
 . rename_i hb;obtain⟨d1,d2⟩:=yH (t:= -t) (b:= -b) ooq sb.neg;simp only[zD];refine⟨by omega,by omega,d1,d2,Wk.here ?_⟩;rw[<-DF ooq,Rat.neg_divInt_neg];exact hq
 . rename_i hb;obtain⟨d1,d2⟩:=yH (t:=t) (b:=b) ooq sb;simp only[zD];refine⟨by omega,by omega,d1,d2,Wk.here ?_⟩;rw[<-DF ooq];exact hq
end
local macro_rules | `(tactic| walk_at "rd") => wk (wqB++" wR iP sQ wY OC List.map_cons List.map_nil eQ dG jH eX kH dH gG BT eZ jO NF NE jL fK mH cI exists_eq' oE jZ fN dM aDH HJ GM sY fL CP kN fO nU bV uR DR sF lZ sz1")
section
variable{T:Tb}
def aBj(ha:Bd 4000 a)(hb:Bd 4000 b):Sm 9000 ((a.den:Int)*(b.den:Int)):=(ha.2.mul hb.2).mono ddq
noncomputable def lH:CS:=.ret (.an (.cal "is_fraction" %[.var 0|_]) (.chn .LtE .LtE (.int 0) (.idx (.var 0) (.int 0)) (.idx (.var 0) (.int 1))))
def aCs{a:Rat}(h:0<=a):0<=a.num:=Rat.num_nonneg.mpr h
def aDb{a:Rat}(h:a<=1):a.num<=(a.den:Int):=by
 have:=(Rat.le_iff a 1).mp h;simpa using this
def FB(h:PT T):∀xs G Q,kN xs G Q->wpS T lH (aN Q) (aC 1 xs) G:=by
 rintro xs G Q ⟨a,rfl,h0,h1,hq⟩;unfold lH;have:=h.is_fraction;have:=aCs h0;have:=aDb h1;walk_at "rd"
noncomputable def lK:CS:=.ret (.blt .isi %[.var 0,.glo "Shade"|_])
def NI:bU cs .isi [SH a b c,.cl "Shade"] G Q=("Shade"∈cs/\Q (.bl true) G):=VL
def ED(h:PT T):∀xs G Q,fO xs G Q->wpS T lK (aN Q) (aC 1 xs) G:=by
 rintro xs G Q ⟨a,b,c,rfl,hq⟩;unfold lK;have:=h.gv_Shade;have:=h.cs;have:=@NI;walk_at "rd"
noncomputable def iS:CS:=.iff (.no (.tst (.cal "is_shade" %[.var 0|_]))) .nev .nil
def xN(h:PT T):∀xs G Q,nU xs G Q->wpS T iS (aN Q) (aC 1 xs) G:=by
 rintro xs G Q ⟨a,b,c,rfl,hq⟩;unfold iS;have:=h.is_shade;walk_at "rd"
noncomputable def jJ:CS:=.seq (.ex (.cal "need_shade" %[.var 0|_])) (.ret (.tup %[.att (.var 0) "ember",.att (.var 0) "leaf",.att (.var 0) "sky"|_]))
def xU(hf:(c,f)∈T.fl)(hl:(ns.zip xs).lookup f=some v):KF T (.ob c ns xs) f G Q=Q v G:=by
 refine propext ⟨λh=>?_,λq=>⟨_,_,_,_,.inl rfl,hf,hl,q⟩⟩;obtain⟨c',ns',xs',v',e,_,l,q⟩:=h;rcases e with e|⟨_,e,_⟩
 . cases e;rw[hl] at l;cases l;exact q
 . cases e
def aFl(h:PT T){a b c:Rat}{G:Gh}{Q:PK1}:KF T (SH a b c) "ember" G Q=Q (FQ a) G:=xU h.fl_e rfl
def aFb(h:PT T){a b c:Rat}{G:Gh}{Q:PK1}:KF T (SH a b c) "leaf" G Q=Q (FQ b) G:=xU h.fl_l rfl
def aDo(h:PT T){a b c:Rat}{G:Gh}{Q:PK1}:KF T (SH a b c) "sky" G Q=Q (FQ c) G:=xU h.fl_s rfl
def BP(h:PT T):∀xs G Q,bV xs G Q->wpS T jJ (aN Q) (aC 1 xs) G:=by
 rintro xs G Q ⟨a,b,c,rfl,hq⟩;unfold jJ;have:=h.need_shade;have e1:=@aFl T h;have e2:=@aFb T h;have e3:=@aDo T h;walk_at "rd"
noncomputable def fG:CS:=.seq (.fr (.gt 2 %[.gn 4,.gn 5|_]) (.ien (.tup %[.var 1,.var 2,.var 3|_])) (.iff (.no (.tst (.cal "is_share" %[.var 5|_]))) .nev .nil)) (.seq (.fld (.var 0) "ember" (.var 1)) (.seq (.fld (.var 0) "leaf" (.var 2)) (.fld (.var 0) "sky" (.var 3))))
def pH(h:PT T):∀xs G Q,uD xs G Q->wpS T fG (aN Q) (aC 6 xs) G:=by
 rintro xs G Q ⟨p,a,b,c,rfl,hp,⟨a1,a2⟩,⟨b1,b2⟩,⟨c1,c2⟩,hq⟩;unfold fG;have:=h.is_share;refine kW λN hN=>?_;walk_at "rd"
 refine hN.o _ _ ?_;clear hN N;walk_at "rd"
 refine⟨"Shade",[],[],rfl,h.fl_e,by decide,"Shade",["ember"],[FQ a],aO,h.fl_l,by decide,"Shade",["ember","leaf"],[FQ a,FQ b],aO,h.fl_s,by decide,?_⟩;simp only[kX];exact Wk.here hq
def BR(h:PT T):aDQ T "Shade" "Shade" "Shade.__init__":=by
 intro xs G Q q p hp;rw[h.shade] at q;rw[h.shadeI];obtain⟨a,b,c,rfl,ha,hb,hc,q⟩:=q;refine⟨p,a,b,c,rfl,aO,ha,hb,hc,rfl,_,_,aO,?_⟩;rw[kX,AC hp];exact q
end
noncomputable def PU(x y z:Int):GO:=.lst [.int x,.int y,.int z]
def Pu(p:Addr)(G:Gh):Prop:= ∃x y z,G p=some (PU x y z)
def Pn(p:Addr)(G G':Gh):Prop:= ∃x y z,G'=gup G p (PU x y z)
def Pn.pu{p:Addr}{G G':Gh}(h:Pn p G G'):Pu p G':=let ⟨x,y,z,e⟩:=h;⟨x,y,z,by rw[e];exact aO⟩
def Pn.ne(h:Pn p G G')(n:q≠p):G' q=G q:=let ⟨x,y,z,e⟩:=h;by rw[e];exact cX n
def Pn.trans(a:Pn p G G1)(b:Pn p G1 G2):Pn p G G2:=let ⟨x,y,z,e⟩:=a;let ⟨x',y',z',e'⟩:=b;⟨x',y',z',by rw[e',e,kX]⟩
def Pu.ne(h:Pu p G)(n:G q=none):q≠p:=λe=>by subst e;obtain⟨_,_,_,e⟩:=h;rw[n] at e;cases e
def Pu.new{p q:Addr}{o:GO}(h:Pu p G)(n:G q=none):Pu p (gup G q o):=let ⟨x,y,z,e⟩:=h;⟨x,y,z,by rw[cX (Ne.symm (h.ne n))];exact e⟩
def iC:Sp3:=λxs G Q=>∃p m,xs=[.ref p,.int m]/\Pu p G/\0<m/\Sm 8000 m/\∀r G',0<=r->r<m->Pn p G G'->Q (.int r) G'
def CQ:Sp3:=λxs G Q=>∃(ns:List Int) (k:Int),xs=[.scr ns,.int k]/\0<=k/\k<64/\∀c,Q (.int c) G
def yD:Sp3:=λxs G Q=>∃c:Int,xs=[.int c]/\∀p x y z,G p=none->Q (.ref p) (gup G p (PU x y z))
def tM:Sp3:=λxs G Q=>∃p,xs=[.ref p]/\Pu p G/\∀q G',In1 q->Bd 12 q->Pn p G G'->Q (FQ q) G'
def wO:Sp3:=λxs G Q=>∃p,xs=[.ref p]/\Pu p G/\∀a b c G',In1 a->In1 b->In1 c->Bd 12 a->Bd 12 b->Bd 12 c->Pn p G G'->Q (.tup [FQ a,FQ b,FQ c]) G'
def aAw:Sp3:=λxs G Q=>∃p a b c,xs=[.ref p,.tup [FQ a,FQ b,FQ c]]/\Pu p G/\In1 a/\In1 b/\In1 c/\∀G',Pn p G G'->Q (SH a b c) G'
def wJ:Sp3:=λxs G Q=>∃q,xs=[FQ q]/\Bd 8900 q/\Q (.bl true) G
structure LT(T:Tb):Prop where
 cell:T.S "_law_cell"=CQ
 purse:T.S "_law_purse"=yD
 pick:T.S "_law_pick"=iC
 whole:T.S "_law_whole"=fK
 low:T.S "_law_low"=cI
 plus:T.S "_law_plus"=jD
 minus:T.S "_law_minus"=kF
 times:T.S "_law_times"=fL
 over:T.S "_law_over"=yI
 below:T.S "_law_below"=oH
 is_fraction:T.S "_law_is_fraction"=wJ
 share:T.S "_law_share"=tM
 shares:T.S "_law_shares"=wO
structure LM(T:Tb):Prop where
 made:T.S "_law_made"=aAw
local macro_rules | `(tactic| walk_at "rd") => wk (wqB++" wR iP wY eQ dG jH sT UE eX rS rV zA mK vB gG aX BZ QU sN HK tR uE at0 at1 at2 aEH aEF aEA NF NE fK cI")
section
variable{T:Tb}
noncomputable def rE:CS:=.seq (.sub (.var 0) (.int 2) (.bin .Add (.idx (.var 0) (.int 2)) (.int 1))) (.seq (.asg (.gn 2) (.bin .Mod (.idx (.var 0) (.int 0)) (.int 999999937))) (.seq (.sub (.var 0) (.int 0) (.bin .Add (.bin .Mult (.var 2) (.bin .Add (.bin .Mod (.var 2) (.int 50021)) (.int 20011))) (.bin .Mult (.int 90001) (.idx (.var 0) (.int 2))))) (.seq (.iff (.tsb (.cmp .Gt (.idx (.var 0) (.int 1)) (.int 0))) (.seq (.asg (.gn 3) (.bin .Mod (.idx (.var 0) (.int 1)) (.var 1))) (.seq (.sub (.var 0) (.int 1) (.bin .FloorDiv (.idx (.var 0) (.int 1)) (.var 1))) (.ret (.var 3)))) .nil) (.ret (.bin .Mod (.bin .FloorDiv (.bin .Mod (.idx (.var 0) (.int 0)) (.int 999999937)) (.int 16)) (.var 1))))))
def RJ(h:G p=some o):gup G p o=G:=by
 funext b;unfold gup;split
 . rename_i e;rw[e];exact h.symm
 . rfl
def FS(a:0<=x)(b:x<1000000000000):Sm 64 x:=by unfold Sm;omega
def TC:∀xs G Q,iC xs G Q->wpS T rE (aN Q) (aC 4 xs) G:=by
 rintro xs G Q ⟨p,m,rfl,⟨x,y,z,hp⟩,h0,h1,hq⟩;unfold rE;have e:G=gup G p (.lst [.int x,.int y,.int z]):=(RJ hp).symm;have fin:∀r x' y' z',0<=r->r<m->Q (.int r) (gup G p (.lst [.int x',.int y',.int z'])):=λr x' y' z' a b=>hq r _ a b ⟨x',y',z',rfl⟩;generalize hG:gup G p (.lst [.int x,.int y,.int z])=G1 at e;rw[<-hG] at e;rw[e];clear e hG;refine kW λN hN=>?_;walk_at "rd"
 refine hN.o _ _ ?_;clear hN N;refine kW λN hN=>?_;walk_at "rd"
 refine⟨by show(0:Int)<999999937;decide,hN.o _ _ ?_⟩;clear hN N;have s0:=FS (Int.emod_nonneg x (show(999999937:Int)≠0 by decide)) (Int.lt_trans (Int.emod_lt_of_pos x (show(0:Int)<999999937 by decide)) ddq);generalize x%999999937=s at *;refine kW λN hN=>?_;walk_at "rd"
 refine⟨by show(0:Int)<50021;decide,RV s0,RV (FS ddq ddq),hN.o _ _ ?_⟩;clear hN N;generalize s*(s%50021+20011)+90001*(z+1)=t;walk_at "rd"
 split
 . exact⟨h0,FF (k:=8000) h0 h1,Wk.here (fin _ _ _ _ (Int.emod_nonneg _ ooq) (Int.emod_lt_of_pos _ h0))⟩
 . exact⟨by show(0:Int)<999999937;decide,FF (k:=64) ddq (FS ddq ddq),h0,Wk.here (fin _ _ _ _ (Int.emod_nonneg _ ooq) (Int.emod_lt_of_pos _ h0))⟩
noncomputable def nQ:CS:=.ret (.lst true %[.bin .Add (.bin .Mult (.bin .Mod (.var 0) (.int 999999937)) (.int 7001)) (.int 3301),.idx (.lst false %[.int 0,.var 0|_]) (.blt .int %[.cmp .GtE (.var 0) (.bin .Pow (.int 10) (.int 18))|_]),.int 0|_])
def JR:∀xs G Q,yD xs G Q->wpS T nQ (aN Q) (aC 1 xs) G:=by
 rintro xs G Q ⟨c,rfl,hq⟩;unfold nQ;walk_at "rd"
 refine⟨by show(0:Int)<999999937;decide,aDv (FS ddq ddq),⟨by decide,by decide,by decide⟩,?_⟩;have e:∃x,atI [PV.int 0,PV.int c] (if decide ((10:Int)^Int.toNat 18<=c)=true then 1 else 0)=some (.int x):=by
   split
   . exact⟨_,at1⟩
   . exact⟨_,at0⟩
 obtain⟨x,e⟩:=e;simp only[decide_eq_true_eq] at e;refine⟨_,e,λp n=>Wk.here (hq p _ _ _ n)⟩
noncomputable def tY:CS:=.seq (.par 2 3 (.blt .abs %[.var 0|_]) (.var 1)) (.seq (.wh (.tsb (.cmp .Gt (.var 3) (.int 0))) (.par 2 3 (.var 3) (.bin .Mod (.var 2) (.var 3)))) (.ret (.tup %[.bin .FloorDiv (.var 0) (.var 2),.bin .FloorDiv (.var 1) (.var 2)|_])))
def uU:CS:=.seq (.iff (.tsb (.cmp .Lt (.var 1) (.int 0))) (.par 0 1 (.bin .Sub (.int 0) (.var 0)) (.bin .Sub (.int 0) (.var 1))) .nil) tY
def BW(hb:0<b)(sb:Sm 9000 b)(hq:Q (FQ (Rat.divInt t b)) G) :
   wpS T tY (aN Q) [some (.int t),some (.int b),none,none] G:=by
 unfold tY;walk_at "rd"
 refine⟨λm Y H=>∃x y,Y=[some (.int t),some (.int b),some (.int x),some (.int y)]/\H=G/\0<=x/\0<=y/\Int.gcd x y=Int.gcd t b/\m=y.toNat,⟨_,_,_,rfl,rfl,by omega,by omega,zD t b,rfl⟩,?_⟩;rintro m Y H ⟨x,y,rfl,rfl,hx,hy,hg,rfl⟩;walk_at "rd"
 split
 . rename_i hy0;have h2:=Int.emod_lt_of_pos x (show 0<y by omega);have h3:=Int.emod_nonneg x (show y≠0 by omega);exact⟨by show 0<y;omega,(x%y).toNat,by omega,h3,(CK hx ooq).trans hg,rfl⟩
 . rename_i hy0;have e:y=0:=by omega
   subst e;have g:x=((Int.gcd t b:Nat):Int):=by rw[<-hg,Int.gcd_zero_right];omega
   obtain⟨d1,d2⟩:=yH (t:=t) (b:=b) hb sb;subst g;refine⟨d1,d2,Wk.here ?_⟩;rw[<-DF hb];exact hq
def YM:∀xs G Q,cI xs G Q->wpS T uU (aN Q) (aC 4 xs) G:=by
 rintro xs G Q ⟨t,b,rfl,h0,sb,hq⟩;unfold uU;have e0:∀x:Int,0-x= -x:=λx=>by omega
 walk_at "rd"
 split
 . rename_i hb;refine BW ooq sb.neg ?_;rw[Rat.neg_divInt_neg];exact hq
 . rename_i hb;exact BW ooq sb hq
noncomputable def pM:CS:=.ret (.cal "_law_low" %[.bin .Add (.bin .Mult (.idx (.var 0) (.int 0)) (.idx (.var 1) (.int 1))) (.bin .Mult (.idx (.var 1) (.int 0)) (.idx (.var 0) (.int 1))),.bin .Mult (.idx (.var 0) (.int 1)) (.idx (.var 1) (.int 1))|_])
def PQ(h:LT T):∀xs G Q,jD xs G Q->wpS T pM (aN Q) (aC 2 xs) G:=by
 rintro xs G Q ⟨a,b,rfl,ha,hb,hq⟩;unfold pM;have:=h.low;walk_at "rd"
 refine⟨bY ha.1 hb.2,bY hb.1 ha.2,bY ha.2 hb.2,pF fE fE,aBj ha hb,Wk.here ?_⟩;rw[ZI];exact hq
noncomputable def nI:CS:=.ret (.cal "_law_low" %[.bin .Sub (.bin .Mult (.idx (.var 0) (.int 0)) (.idx (.var 1) (.int 1))) (.bin .Mult (.idx (.var 1) (.int 0)) (.idx (.var 0) (.int 1))),.bin .Mult (.idx (.var 0) (.int 1)) (.idx (.var 1) (.int 1))|_])
def IP(h:LT T):∀xs G Q,kF xs G Q->wpS T nI (aN Q) (aC 2 xs) G:=by
 rintro xs G Q ⟨a,b,rfl,ha,hb,hq⟩;unfold nI;have:=h.low;walk_at "rd"
 refine⟨bY ha.1 hb.2,bY hb.1 ha.2,bY ha.2 hb.2,pF fE fE,aBj ha hb,Wk.here ?_⟩;rw[aAn];exact hq
noncomputable def nO:CS:=.ret (.cal "_law_low" %[.bin .Mult (.idx (.var 0) (.int 0)) (.idx (.var 1) (.int 0)),.bin .Mult (.idx (.var 0) (.int 1)) (.idx (.var 1) (.int 1))|_])
def MF(h:LT T):∀xs G Q,fL xs G Q->wpS T nO (aN Q) (aC 2 xs) G:=by
 rintro xs G Q ⟨a,b,rfl,ha,hb,hq⟩;unfold nO;have:=h.low;walk_at "rd"
 refine⟨bY ha.1 hb.1,bY ha.2 hb.2,pF fE fE,aBj ha hb,Wk.here ?_⟩;rw[ZT];exact hq
noncomputable def mJ:CS:=.ret (.cmp .Lt (.bin .Mult (.idx (.var 0) (.int 0)) (.idx (.var 1) (.int 1))) (.bin .Mult (.idx (.var 1) (.int 0)) (.idx (.var 0) (.int 1))))
def LU:∀xs G Q,oH xs G Q->wpS T mJ (aN Q) (aC 2 xs) G:=by
 rintro xs G Q ⟨a,b,rfl,ha,hb,hq⟩;unfold mJ;walk_at "rd"
 refine⟨bY ha.1 hb.2,bY hb.1 ha.2,Wk.here ?_⟩;rw[show decide (a.num*(b.den:Int)<b.num*(a.den:Int))=decide (a<b) from decide_eq_decide.mpr (Rat.lt_iff a b).symm];exact hq
theorem TR:shp (FQ q)=true:=rfl
theorem QJ:pur G (FQ q)=FQ q:=rfl
def aCl:peq (FQ a) (FQ b)=decide (a=b):=by
 have:peq (FQ a) (FQ b)=(a.num==b.num&&((a.den:Int)==(b.den:Int)&&true)):=by unfold FQ;simp only[peq,oJ]
 rw[this,Bool.and_true,Bool.eq_iff_iff,Bool.and_eq_true,decide_eq_true_eq,beq_iff_eq,beq_iff_eq];exact⟨by rintro⟨x,y⟩;exact Rat.ext x ooq,λe=>by rw[e];exact⟨rfl,rfl⟩⟩
def WF:pEq true (FQ a) (FQ b) G Q=Q (.bl (!decide (a=b))) G:=by
 show(shp (pur G (FQ a))=true/\shp (pur G (FQ b))=true/\Q (.bl (!peq (FQ a) (FQ b))) G)=_;rw[QJ,QJ,TR,TR,aCl];simp
end
local macro_rules | `(tactic| walk_at "rd") => wk (wqB++" tX sX dG sT eX rS dH dE PC aX BZ AM CG tR gC at0 at1 at2 jL cI fN dM sZ iC tM mV")
section
variable{T:Tb}
noncomputable def pV:CS:=.seq (.iff (.tsb (.cmp .Lt (.var 1) (.blt .len %[.var 0|_]))) (.ret (.idx (.var 0) (.var 1))) .nil) (.seq (.asg (.gn 2) (.bin .Mod (.bin .Mult (.int 60013) (.bin .Add (.bin .Add (.bin .Mult (.var 1) (.var 1)) (.bin .Mult (.int 7) (.var 1))) (.int 3))) (.int 999999937))) (.seq (.fr (.gn 3) (.isq (.sli (.var 0) .nil (.tst (.int 4)))) (.asg (.gn 2) (.bin .Mod (.bin .Add (.bin .Mult (.var 2) (.int 30103)) (.var 3)) (.int 999999937)))) (.ret (.var 2))))
def sR(I:PSt->Gh->Prop):∀{xs:List PV} {Y:PSt} {G:Gh},I Y G->(∀x∈xs,∀Y G R,I Y G->(∀Y' G',I Y' G'->R Y' G')->g x Y G λY2 G2=>tb {D with nx:=R,ct:=R,bk:=D.nx} Y2 G2)->(∀Y G,I Y G->D.nx Y G)->gE (λ_=>True) g tb D xs Y G
 | [],Y,G,h,_,hd=>⟨trivial,hd Y G h⟩
 | x::r,Y,G,h,hs,hd=>⟨trivial,hs x (wDq ..) Y G _ h λY' G' h'=>sR I h' (λy hy=>hs y (wCq _ hy)) hd⟩
theorem MZ{ns:List Int}{lo hi:Option Int}{G:Gh}{Q:PK1}:eY (.scr ns) lo hi G Q=Q (.lst (lP (ns.map .int) lo hi)) G:=rfl
def BY{ns:List PV}{lo hi:Option Int}{G:Gh}{Q:PK1}:eY (.lst ns) lo hi G Q=Q (.lst (lP ns lo hi)) G:=propext ⟨by rintro⟨_,e,q⟩;cases e;exact q,λq=>⟨_,rfl,q⟩⟩
def NW:∀xs G Q,CQ xs G Q->wpS T pV (aN Q) (aC 4 xs) G:=by
 rintro xs G Q ⟨ns,k,rfl,h0,h1,hq⟩;unfold pV;have:=@MZ;walk_at "rd"
 split
 . rename_i hk;obtain⟨j,rfl⟩:=Int.eq_ofNat_of_zero_le h0;have hj:j<ns.length:=by omega
   exact⟨ns[j],cU (by simp[hj])⟩
 . have sk:Sm 64 k:=FS h0 ooq;refine⟨RV sk,aDv sk,RV (FS ddq ddq),by show(0:Int)<999999937;decide,?_⟩;refine sR (λY G'=>G'=G/\∃st u,Y=[some (.scr ns),some (.int k),some (.int st),u]/\0<=st/\st<999999937) ⟨rfl,_,_,rfl,Int.emod_nonneg _ ddq,Int.emod_lt_of_pos _ ddq⟩ ?_ ?_
   . rintro x hx Y G' R ⟨rfl,st,u,rfl,a1,a2⟩ hR;have hx':x∈ns.map PV.int:=by
       unfold lP at hx;exact List.mem_of_mem_drop (List.mem_of_mem_take hx)
     obtain⟨c,_,rfl⟩:=List.mem_map.mp hx';walk_at "rd"
     exact⟨RV (FS a1 ooq),by show(0:Int)<999999937;decide,hR _ _ ⟨rfl,_,_,rfl,Int.emod_nonneg _ ddq,Int.emod_lt_of_pos _ ddq⟩⟩
   . rintro Y G' ⟨rfl,st,u,rfl,a1,a2⟩;walk_at "rd"
def smP(a:0<=x)(b:x<1000000000000):Sm 8000 x:=smK ooq b ddq
def VQ(h0:0<=t)(h1:t<=b)(hb:0<b):In1 (Rat.divInt t b):=by
 constructor
 . exact Rat.divInt_nonneg h0 ooq
 . rw[Rat.divInt_eq_div];have hb':(0:Rat)<(b:Rat):=Rat.intCast_pos.mpr hb;have h2:(t:Rat)<=(b:Rat):=Rat.intCast_le_intCast.mpr h1;have h3:(t:Rat)/(b:Rat)*(b:Rat)=(t:Rat):=Rat.div_mul_cancel (by grind);refine Rat.le_of_mul_le_mul_right (c:=(b:Rat)) ?_ hb'
   grind
def Pk(p:Addr)(G K:Gh):Prop:= ∃G',Pn p G G'/\∀a u,G' a=some u->K a=some u
def Pk.of{p:Addr}{G G':Gh}(h:Pn p G G'):Pk p G G':=⟨G',h,λ_ _ z=>z⟩
def Pk.new{G K:Gh}{o:GO}(h:Pk p G K)(n:K l=none):Pk p G (gup K l o):=by
 obtain⟨G',a,b⟩:=h;refine⟨G',a,λx u q=>?_⟩;have:=b x u q;rw[cX (λe=>by rw[e,n] at this;cases this)];exact this
def Pk.set{G K:Gh}{o:GO}(h:Pk p G K)(n:G l=none)(ne:l≠p):Pk p G (gup K l o):=by
 obtain⟨G',a,b⟩:=h;refine⟨G',a,λx u q=>?_⟩;have e:x≠l:=λe=>by rw[e,a.ne ne,n] at q;cases q
 rw[cX e];exact b x u q
def Pk.pick{p:Addr}{G K K':Gh}(h:Pk p G K)(m:Pn p K K'):Pk p G K':=by
 obtain⟨G',a,b⟩:=h;obtain⟨x,y,z,e⟩:=m;refine⟨gup G' p (PU x y z),a.trans ⟨x,y,z,rfl⟩,λc u q=>?_⟩;rw[e];by_cases ec:c=p
 . subst ec;rw[aO] at q ⊢;exact q
 . rw[cX ec] at q ⊢;exact b c u q
def Pk.end_{p:Addr}{G K:Gh}{Q:PK1}{x:PV}(h:Pk p G K)(q:∀G',Pn p G G'->Q x G'):Wk Q x K:=let ⟨G',a,b⟩:=h;Wk.of (q G' a) b
def wU{R:Int->Prop}{A:Int->Int->Prop}:((∃k,[PV.int j]=[PV.int k]/\R k)∨(∃i k,[PV.int j]=[PV.int i,PV.int k]/\A i k))=R j:=propext
 ⟨λh=>h.elim (by rintro⟨_,e,r⟩;cases e;exact r) (by rintro⟨_,_,e,_⟩;cases e),λr=>.inl ⟨_,rfl,r⟩⟩
end
noncomputable abbrev R3:=Rat×Rat×Rat
def shV(r:R3):PV:=SH r.1 r.2.1 r.2.2
def bd0:Bd 2 0:=⟨by unfold Sm;decide,by unfold Sm;decide⟩
theorem aGq:shp (.tup [FQ a,FQ b,FQ c])=true:=rfl
def OG:pIs false (.tup xs) .non G Q=Q (.bl false) G:=yE (λz=>by cases z)
theorem av0:Ar.val (x::xs) (.arg 0)=x:=rfl
theorem av1:Ar.val (x::y::xs) (.arg 1)=y:=rfl
theorem av2:Ar.val (x::y::z::xs) (.arg 2)=z:=rfl
theorem avn:Ar.val xs .non= .non:=rfl
local macro_rules | `(tactic| walk_at "rd") => wk (wqB++" iP wY gG jL NI sY mV bV")
section
variable{T:Tb}
noncomputable def lD:CS:=.seq (.asg (.gl 3 %[.gn 1,.gn 2,.gn 3|_]) (.var 0)) (.ret (.cal "Shade" %[.var 1,.var 2,.var 3|_]))
def EO(h:PT T):∀xs G Q,oQ xs G Q->wpS T lD (aN Q) (aC 4 xs) G:=by
 rintro xs G Q ⟨x,a,b,c,rfl,hx,ia,ib,ic,hq⟩;unfold lD;have:=h.shade;walk_at "rd"
end
end L3
namespace L3
noncomputable abbrev Cf:=Nat->Rat
noncomputable def cb(a:Rat)(c:Cf)(b:Rat)(d:Cf):Cf:=λt=>a*c t+b*d t
noncomputable def dl(v:Nat):Cf:=λt=>if t=v then 1 else 0
def Ln(F:Cf->Rat):Prop:= ∀a b c d,F (cb a c b d)=a*F c+b*F d
def On(l:List Nat)(c:Cf):Prop:= ∀t,t∉l->c t=0
def On.cb(a b:Rat)(h:On l c)(g:On l d):On l (cb a c b d):=λt ht=>by
 unfold L3.cb;rw[h t ht,g t ht];grind
def On.mono{l l':List Nat}{c:Cf}(h:On l c)(e:∀t∈l,t∈l'):On l' c:=λt ht=>h t λz=>ht (e t z)
def On.dl(h:v∈l):On l (dl v):=λt ht=>by
 unfold L3.dl;rw[j9];intro e;subst e;exact ht h
def On.of{l:List Nat}{v:Nat}{c:Cf}(h:On (v::l) c)(e:c v=0):On l c:=λt ht=>by
 by_cases z:t=v
 . rw[z];exact e
 . exact h t (by simp[z,ht])
theorem aD1:∀(m:Nat) (Fs:List (Cf->Rat)) (l:List Nat),(∀F∈Fs,Ln F)->Fs.length=m->l.Nodup->m<l.length->∃c,On l c/\(∃t,c t≠0)/\∀F∈Fs,F c=0
 | 0,Fs,l,_,e,_,hl=>by
   obtain rfl:=List.eq_nil_of_length_eq_zero e;cases l with
   | nil=>exact absurd hl ddq
   | cons v r=>exact⟨dl v,On.dl (by simp),⟨v,by unfold dl;rw[ja rfl];decide⟩,by simp⟩
 | m+1,Fs,l,hF,e,nd,hl=>by
   cases Fs with
   | nil=>cases e
   | cons F Gs =>
     have hG:∀F∈Gs,Ln F:=λG h=>hF G (by simp[h]);have step:∀t∈l,∃c,On (l.erase t) c/\(∃t,c t≠0)/\∀F∈Gs,F c=0:=λt ht=>by
       refine aD1 m Gs (l.erase t) hG (by simpa using e) (nd.erase t) ?_;rw[List.length_erase_of_mem ht];omega
     have sub:∀t,∀s∈l.erase t,s∈l:=λt s h=>List.mem_of_mem_erase h;obtain⟨v,hv⟩:∃v,v∈l:=by
       cases l with
       | nil=>exact absurd hl (by simp)
       | cons v r=>exact⟨v,by simp⟩
     obtain⟨c,oc,⟨t,ht⟩,zc⟩:=step v hv;have tl:t∈l:=by
       apply Classical.byContradiction
       intro n;exact ht (oc t λz=>n (sub v t z))
     obtain⟨d,od,⟨u,hu⟩,zd⟩:=step t tl;have dt:d t=0:=od t (λz=>(List.Nodup.not_mem_erase nd) z);by_cases hd:F d=0
     . exact⟨d,od.mono (sub t),⟨u,hu⟩,λG hG'=>by
         rcases List.mem_cons.mp hG' with rfl|z
         . exact hd
         . exact zd G z⟩
     . refine⟨cb (F d) c (-F c) d,(oc.mono (sub v)).cb _ _ (od.mono (sub t)),⟨t,?_⟩,λG hG'=>?_⟩
       . unfold cb;rw[dt];intro z;have:F d*c t=0:=by grind
         rcases Rat.mul_eq_zero.mp this with z|z
         . exact hd z
         . exact ht z
       . rw[hF G hG'];rcases List.mem_cons.mp hG' with rfl|z
         . grind
         . rw[zc G z,zd G z];grind
structure Sc(S X Y Z:Cf->Rat)(i j k:Rat):Prop where
 s:Ln S
 x:Ln X
 y:Ln Y
 z:Ln Z
 i:0<i
 j:0<j
 k:0<k
noncomputable def Bi(X Y Z:Cf->Rat)(i j k:Rat)(c d:Cf):Rat:=i*(X c*X d)+j*(Y c*Y d)+k*(Z c*Z d)
def Ind(S X Y Z:Cf->Rat)(i j k:Rat)(l:List Nat):Prop:= ∀c,On l c->S c=0->Bi X Y Z i j k c c=0->∀t,c t=0
structure Pj(S X Y Z:Cf->Rat)(i j k:Rat)(l:List Nat)(g m:Cf):Prop where
 on:On l m
 one:S m=1
 up:∀c,On l c->S c=0->Bi X Y Z i j k (cb 1 g (-1) m) c=0
def Dq(X Y Z:Cf->Rat)(i j k:Rat)(g m:Cf):Rat:=Bi X Y Z i j k (cb 1 g (-1) m) (cb 1 g (-1) m)
structure Gd(S X Y Z:Cf->Rat)(i j k:Rat)(g:Cf)(l:List Nat)(m:Cf):Prop where
 ne:l≠[]
 nd:l.Nodup
 ind:Ind S X Y Z i j k l
 pj:Pj S X Y Z i j k l g m
 nn:∀t,0<=m t
section
variable{S X Y Z:Cf->Rat}{i j k:Rat}
def Bi.sym:(Bi X Y Z i j k) c d=(Bi X Y Z i j k) d c:=by unfold Bi;grind
def Sc.l(h:Sc S X Y Z i j k):(Bi X Y Z i j k) (cb a c b d) e=a*(Bi X Y Z i j k) c e+b*(Bi X Y Z i j k) d e:=by
 unfold Bi;rw[h.x,h.y,h.z];grind
def Sc.r(h:Sc S X Y Z i j k):(Bi X Y Z i j k) e (cb a c b d)=a*(Bi X Y Z i j k) e c+b*(Bi X Y Z i j k) e d:=by
 unfold Bi;rw[h.x,h.y,h.z];grind
def sq0{a:Rat}:0<=a*a:=by
 rcases Rat.le_total (a:=0) (b:=a) with h|h
 . exact Rat.mul_nonneg h h
 . have:=Rat.mul_nonneg (a:= -a) (b:= -a) (by grind) (by grind)
   grind
def sq1{a:Rat}(h:a*a=0):a=0:=by rcases Rat.mul_eq_zero.mp h with z|z<;>exact z
def Sc.pos(h:Sc S X Y Z i j k):0<=(Bi X Y Z i j k) c c:=by
 have h1:=Rat.mul_nonneg (Rat.le_of_lt h.i) (sq0 (a:=X c));have h2:=Rat.mul_nonneg (Rat.le_of_lt h.j) (sq0 (a:=Y c));have h3:=Rat.mul_nonneg (Rat.le_of_lt h.k) (sq0 (a:=Z c));unfold Bi;grind
def Sc.nil(h:Sc S X Y Z i j k)(e:(Bi X Y Z i j k) c c=0):X c=0/\Y c=0/\Z c=0:=by
 have h1:=Rat.mul_nonneg (Rat.le_of_lt h.i) (sq0 (a:=X c));have h2:=Rat.mul_nonneg (Rat.le_of_lt h.j) (sq0 (a:=Y c));have h3:=Rat.mul_nonneg (Rat.le_of_lt h.k) (sq0 (a:=Z c));unfold Bi at e;have e1:i*(X c*X c)=0:=by grind
 have e2:j*(Y c*Y c)=0:=by grind
 have e3:k*(Z c*Z c)=0:=by grind
 have n1:=h.i;have n2:=h.j;have n3:=h.k;refine⟨?_,?_,?_⟩
 . rcases Rat.mul_eq_zero.mp e1 with z|z
   . grind
   . exact sq1 z
 . rcases Rat.mul_eq_zero.mp e2 with z|z
   . grind
   . exact sq1 z
 . rcases Rat.mul_eq_zero.mp e3 with z|z
   . grind
   . exact sq1 z
def Sc.nilB(h:Sc S X Y Z i j k)(e:(Bi X Y Z i j k) c c=0):(Bi X Y Z i j k) d c=0:=by
 obtain⟨h1,h2,h3⟩:=h.nil e;unfold Bi;rw[h1,h2,h3];grind
def Ind.sub(h:Ind S X Y Z i j k l)(e:∀t∈l',t∈l):Ind S X Y Z i j k l':=λc oc=>h c (oc.mono e)
theorem Sc.proj(h:Sc S X Y Z i j k):∀(l:List Nat),l≠[]->l.Nodup->(∀t∈l,S (dl t)=1)->Ind S X Y Z i j k l->∀g,∃m,Pj S X Y Z i j k l g m
 | [],n,_,_,_,_=>absurd rfl n
 | [v],_,_,hs,hi,g=>⟨dl v,On.dl (by simp),hs v (by simp),λc oc sc=>by
     have :c v=0:=by
       have e:c=cb (c v) (dl v) 0 (dl v):=by
         funext t
         unfold cb dl;by_cases z:t=v
         . subst z;rw[ja rfl];grind
         . rw[j9 z,oc t (by simp[z])];grind
       have e2:=congrArg S e;rw[h.s,hs v (by simp),sc] at e2
       grind
     have e:c=cb 0 c 0 c:=by
       funext t
       unfold cb;by_cases z:t=v
       . subst z;rw[this];grind
       . rw[oc t (by simp[z])];grind
     rw[e,h.r];grind⟩
 | v::u::r,_,nd,hs,hi,g=>by
   have nd':=List.nodup_cons.mp nd;have hi':Ind S X Y Z i j k (u::r):=hi.sub λt ht=>wCq _ ht;have hs':∀t∈u::r,S (dl t)=1:=λt ht=>hs t (wCq _ ht);obtain⟨m,pm⟩:=h.proj (u::r) (by simp) nd'.2 hs' hi' g;obtain⟨w,pw⟩:=h.proj (u::r) (by simp) nd'.2 hs' hi' (dl v);have vw:w v=0:=pw.on v nd'.1;have or':On (v::u::r) (cb 1 (dl v) (-1) w):=(On.dl (by simp)).cb _ _ (pw.on.mono λt ht=>wCq _ ht);have sr:S (cb 1 (dl v) (-1) w)=0:=by rw[h.s,hs v (by simp),pw.one];grind
   have rv:(cb 1 (dl v) (-1) w) v=1:=by unfold cb dl;rw[ja rfl,vw];grind
   generalize er:cb 1 (dl v) (-1) w=q at *;have nz:(Bi X Y Z i j k) q q≠0:=λz=>by
     have:=hi q or' sr z v;rw[rv] at this;exact absurd this ddq
   have pos:=h.pos (c:=q);refine⟨cb 1 m ((Bi X Y Z i j k) (cb 1 g (-1) m) q/(Bi X Y Z i j k) q q) q,(pm.on.mono λt ht=>wCq _ ht).cb _ _ or',by rw[h.s,pm.one,sr];grind,λc oc sc=>?_⟩;have e:c=cb (c v) q 1 (cb 1 c (-c v) q):=by funext t;unfold cb;grind
   have o1:On (u::r) (cb 1 c (-c v) q):=(oc.cb _ _ or').of (by unfold cb;rw[rv];grind);have s1:S (cb 1 c (-c v) q)=0:=by rw[h.s,sc,sr];grind
   have b1:=pm.up _ o1 s1;have b2:=pw.up _ o1 s1;rw[er] at b2;have e2:∀d,(Bi X Y Z i j k) d c=c v*(Bi X Y Z i j k) d q+(Bi X Y Z i j k) d (cb 1 c (-c v) q):=λd=>by rw[h.r];grind
   have e3:=e2 (cb 1 g (-1) m);have e4:=e2 q;rw[b1] at e3;rw[b2] at e4;have e5:∀(A:Rat) d,(Bi X Y Z i j k) (cb 1 g (-1) (cb 1 m A q)) d=(Bi X Y Z i j k) (cb 1 g (-1) m) d-A*(Bi X Y Z i j k) q d:=λA d=>by
     have f1:=h.l (a:=1) (b:= -1) (c:=g) (d:=cb 1 m A q) (e:=d);have f2:=h.l (a:=1) (b:=A) (c:=m) (d:=q) (e:=d);have f3:=h.l (a:=1) (b:= -1) (c:=g) (d:=m) (e:=d)
     grind
   rw[e5,e3,e4];generalize (Bi X Y Z i j k) (cb 1 g (-1) m) q=p at *;generalize (Bi X Y Z i j k) q q=r at *
   grind
theorem aET{α:Type}(f:α->Rat):∀l:List α,l≠[]->∃t∈l,∀s∈l,f t<=f s
 | [],n=>absurd rfl n
 | [a],_=>⟨a,by simp,λs hs=>by rw[List.mem_singleton.mp hs];exact Rat.le_refl⟩
 | a::b::r,_=>by
   obtain⟨t,ht,q⟩:=aET f (b::r) (by simp);by_cases z:f a<=f t
   . refine⟨a,by simp,λs hs=>?_⟩;rcases List.mem_cons.mp hs with rfl|w
     . exact Rat.le_refl
     . have:=q s w;grind
   . refine⟨t,wCq _ ht,λs hs=>?_⟩;rcases List.mem_cons.mp hs with rfl|w
     . grind
     . exact q s w
def Sc.seg(h:Sc S X Y Z i j k){l:List Nat}(p:Pj S X Y Z i j k l g m)(oa:On l a)(sa:S a=1)(q:Rat) :
   Dq X Y Z i j k g (cb (1-q) a q m)=Dq X Y Z i j k g m+(1-q)*(1-q)*(Bi X Y Z i j k) (cb 1 a (-1) m) (cb 1 a (-1) m):=by
 have e:cb 1 g (-1) (cb (1-q) a q m)=cb 1 (cb 1 g (-1) m) (q-1) (cb 1 a (-1) m):=by funext t;unfold cb;grind
 have u:=p.up (cb 1 a (-1) m) (oa.cb _ _ p.on) (by rw[h.s,sa,p.one];grind);unfold Dq;rw[e];generalize cb 1 g (-1) m=x at *;generalize cb 1 a (-1) m=y at *;have u2:=Bi.sym (X:=X) (Y:=Y) (Z:=Z) (i:=i) (j:=j) (k:=k) (c:=x) (d:=y);rw[h.l,h.r,h.r,<-u2,u]
 grind
def Sc.least(h:Sc S X Y Z i j k){l:List Nat}(p:Pj S X Y Z i j k l g m)(oa:On l a)(sa:S a=1):Dq X Y Z i j k g m<=Dq X Y Z i j k g a:=by
 have e:a=cb (1-0) a 0 m:=by funext t;unfold cb;grind
 have z:=h.seg p oa sa 0;rw[<-e] at z;have:=h.pos (c:=cb 1 a (-1) m)
 grind
theorem Sc.desc(h:Sc S X Y Z i j k)(g:Cf):∀(n:Nat) (l:List Nat),l.length=n->l≠[]->l.Nodup->(∀t∈l,S (dl t)=1)->Ind S X Y Z i j k l->∀a,On l a->(∀t,0<=a t)->S a=1->
   ∃l' m,(∀t∈l',t∈l)/\l'.length<=l.length/\Gd S X Y Z i j k g l' m/\Dq X Y Z i j k g m<=Dq X Y Z i j k g a
 | 0,l,e,n,_,_,_,_,_,_,_=>absurd (List.eq_nil_of_length_eq_zero e) n
 | n+1,l,e,ne,nd,hs,hi,a,oa,na,sa=>by
   obtain⟨m,p⟩:=h.proj l ne nd hs hi g;by_cases nn:∀t,0<=m t
   . exact⟨l,m,λt z=>z,Nat.le_refl _,⟨ne,nd,hi,p,nn⟩,h.least p oa sa⟩
   . have ⟨v,hv⟩:=Classical.not_forall.mp nn;have hm:∀{t},¬0<=m t->t∈l:=λ{t} z=>Classical.byContradiction λw=>z (by rw[p.on t w];exact Rat.le_refl);obtain⟨t,ht,q⟩:=aET (λt=>a t/(a t-m t)) (l.filter λt=>decide (¬0<=m t)) (List.ne_nil_of_mem (List.mem_filter.mpr ⟨hm hv,decide_eq_true hv⟩));obtain⟨tl,tm⟩:=List.mem_filter.mp ht;have tm:=of_decide_eq_true tm;have dp:∀s,¬0<=m s->0<a s-m s:=λs hs=>by have:=na s;grind
     have dm:∀s,¬0<=m s->a s/(a s-m s)*(a s-m s)=a s:=λs hs=>Rat.div_mul_cancel (by have:=dp s hs;grind);have q:∀s,¬0<=m s->a t/(a t-m t)<=a s/(a s-m s):=λs hs=>q s (List.mem_filter.mpr ⟨hm hs,decide_eq_true hs⟩);have d1:=dm t tm;have p1:=dp t tm;generalize a t/(a t-m t)=o at *;have o0:0<=o:=by
       apply Classical.byContradiction
       intro z;have:=Rat.mul_pos (a:= -o) (b:=a t-m t) (by grind) p1;have:=na t
       grind
     have o1:0<=1-o:=by
       apply Classical.byContradiction
       intro z;have:=Rat.mul_pos (a:=o-1) (b:=a t-m t) (by grind) p1
       grind
     have ob:On l (cb (1-o) a o m):=oa.cb _ _ p.on;have sb:S (cb (1-o) a o m)=1:=by rw[h.s,sa,p.one];grind
     have bt:cb (1-o) a o m t=0:=by unfold cb;grind
     have nb:∀s,0<=cb (1-o) a o m s:=λs=>by
       unfold cb;by_cases z:0<=m s
       . have:=Rat.mul_nonneg o1 (na s);have:=Rat.mul_nonneg o0 z
         grind
       . have:=Rat.mul_nonneg (a:=a s/(a s-m s)-o) (b:=a s-m s) (by have:=q s z;grind) (Rat.le_of_lt (dp s z));have:=dm s z
         grind
     have db:Dq X Y Z i j k g (cb (1-o) a o m)<=Dq X Y Z i j k g a:=by
       have z1:=h.seg p oa sa o;have z2:=h.seg p oa sa 0;have e:a=cb (1-0) a 0 m:=by funext t;unfold cb;grind
       rw[<-e] at z2;have:=h.pos (c:=cb 1 a (-1) m);have:=Rat.mul_nonneg (Rat.mul_nonneg o0 (show 0<=2-o by grind)) this
       grind
     generalize cb (1-o) a o m=b at *;have oe:On (l.erase t) b:=λs hs=>by
       by_cases z:s=t
       . rw[z];exact bt
       . exact ob s λw=>hs ((List.mem_erase_of_ne z).mpr w)
     have ne':l.erase t≠[]:=λz=>by
       have:b=cb 0 b 0 b:=by funext s;unfold cb;rw[oe s (by rw[z];simp)];grind
       rw[this,h.s] at sb
       grind
     obtain⟨l',m',h1,h2,h3,h4⟩:=h.desc g n (l.erase t) (by rw[List.length_erase_of_mem tl];omega) ne' (nd.erase t) (λs z=>hs s (List.mem_of_mem_erase z)) (hi.sub λs z=>List.mem_of_mem_erase z) b oe nb sb;exact⟨l',m',λs z=>List.mem_of_mem_erase (h1 s z),Nat.le_trans h2 (by rw[List.length_erase_of_mem tl];omega),h3,by grind⟩
theorem Sc.pick(h:Sc S X Y Z i j k)(g:Cf):∀Ls:List (List Nat),(∃l∈Ls,l.length<=4/\∃m,Gd S X Y Z i j k g l m)->∃l∈Ls,l.length<=4/\∃m,Gd S X Y Z i j k g l m/\∀l'∈Ls,l'.length<=4->∀m',Gd S X Y Z i j k g l' m'->Dq X Y Z i j k g m<=Dq X Y Z i j k g m'
 | [],⟨_,z,_⟩=>by cases z
 | l::r,e=>by
   by_cases c:∃l∈r,l.length<=4/\∃m,Gd S X Y Z i j k g l m
   . obtain⟨u,hu,lu,m,gm,q⟩:=h.pick g r c;by_cases d:∃m',l.length<=4/\Gd S X Y Z i j k g l m'/\Dq X Y Z i j k g m'<Dq X Y Z i j k g m
     . obtain⟨m',ll,g',lt⟩:=d;refine⟨l,by simp,ll,m',g',λw hw lw m2 g2=>?_⟩;rcases List.mem_cons.mp hw with rfl|z
       . exact h.least g'.pj g2.pj.on g2.pj.one
       . have:=q w z lw m2 g2;grind
     . refine⟨u,wCq _ hu,lu,m,gm,λw hw lw m2 g2=>?_⟩;rcases List.mem_cons.mp hw with rfl|z
       . exact Classical.byContradiction λz=>d ⟨m2,lw,g2,by grind⟩
       . exact q w z lw m2 g2
   . obtain⟨u,hu,lu,m,gm⟩:=e;rcases List.mem_cons.mp hu with rfl|z
     . refine⟨u,by simp,lu,m,gm,λw hw lw m2 g2=>?_⟩;rcases List.mem_cons.mp hw with rfl|z
       . exact h.least gm.pj g2.pj.on g2.pj.one
       . exact absurd ⟨w,z,lw,m2,g2⟩ c
     . exact absurd ⟨u,z,lu,m,gm⟩ c
noncomputable def vO:List Nat->List (List Nat)
 | []=>[[]]
 | a::r=>vO r++(vO r).map (a::·)
theorem tU(p:Nat->Bool):∀l:List Nat,l.filter p∈vO l
 | []=>by simp[vO]
 | a::r=>by
   unfold vO;cases e:p a with
   | true=>rw[List.filter_cons_of_pos e];exact List.mem_append.mpr (.inr (List.mem_map.mpr ⟨_,tU p r,rfl⟩))
   | false=>rw[List.filter_cons_of_neg (by simp[e])];exact List.mem_append.mpr (.inl (tU p r))
def norm{l:List Nat}(nd:l.Nodup)(h:∀t∈l,t<n):∃l'∈vO (List.range n),l'.Nodup/\l'.length=l.length/\∀t,t∈l'↔t∈l:=by
 have m:∀t,t∈(List.range n).filter (λt=>decide (t∈l))↔t∈l:=λt=>by
   rw[List.mem_filter,List.mem_range,decide_eq_true_iff];exact⟨λz=>z.2,λz=>⟨h t z,z⟩⟩
 have nd':((List.range n).filter (λt=>decide (t∈l))).Nodup:=List.nodup_range.filter _;exact⟨_,tU _ _,nd',((List.perm_ext_iff_of_nodup nd' nd).mpr m).length_eq,m⟩
def Gd.norm(G:Gd S X Y Z i j k g l m)(nd:l'.Nodup)(len:l'.length=l.length)(e:∀t,t∈l'↔t∈l):Gd S X Y Z i j k g l' m :=
 ⟨λz=>by rw[z] at len;exact G.ne (List.eq_nil_of_length_eq_zero len.symm),nd,G.ind.sub λt ht=>(e t).mp ht,⟨G.pj.on.mono λt ht=>(e t).mpr ht,G.pj.one,λc oc=>G.pj.up c (oc.mono λt ht=>(e t).mp ht)⟩,G.nn⟩
def Sc.near(h:Sc S X Y Z i j k)(g:Cf)(hs:∀t,t<n->S (dl t)=1)(hn:0<n):∃l∈vO (List.range n),l.length<=4/\∃m,Gd S X Y Z i j k g l m/\∀v,v<n->(Bi X Y Z i j k) (cb 1 g (-1) m) (cb 1 (dl v) (-1) m)<=0:=by
 have start:∃l∈vO (List.range n),l.length<=4/\∃m,Gd S X Y Z i j k g l m:=by
   have i0:Ind S X Y Z i j k [0]:=λc oc sc _ t=>by
     by_cases z:t=0
     . subst z;have e:c=cb (c 0) (dl 0) 0 (dl 0):=by
         funext t;unfold cb dl
         by_cases z:t=0
         . subst z;rw[ja rfl];grind
         . rw[j9 z,oc t (by simp[z])];grind
       have e2:=congrArg S e;rw[h.s,hs 0 hn,sc] at e2
       grind
     . exact oc t (by simp[z])
   obtain⟨m,p⟩:=h.proj [0] (by simp) (by simp) (λt ht=>by rw[List.mem_singleton.mp ht];exact hs 0 hn) i0 g;have nn:∀t,0<=m t:=λt=>by
     by_cases z:t=0
     . subst z;have e:m=cb (m 0) (dl 0) 0 (dl 0):=by
         funext t;unfold cb dl
         by_cases z:t=0
         . subst z;rw[ja rfl];grind
         . rw[j9 z,p.on t (by simp[z])];grind
       have e2:=congrArg S e;rw[h.s,hs 0 hn,p.one] at e2
       grind
     . rw[p.on t (by simp[z])];exact Rat.le_refl
   obtain⟨l',h1,h2,h3,h4⟩:=norm (n:=n) (l:=[0]) (by simp) (λt ht=>by rw[List.mem_singleton.mp ht];exact hn);exact⟨l',h1,by rw[h3];decide,m,Gd.norm ⟨by simp,by simp,i0,p,nn⟩ h2 h3 h4⟩
 obtain⟨l,hl,l4,m,G,q⟩:=h.pick g _ start;refine⟨l,hl,l4,m,G,λv hv=>Classical.byContradiction λz=>?_⟩;have lin :∀t∈l,t<n:=by
   have : ∀(r:List Nat),∀l∈vO r,∀t∈l,t∈r:=λr=>by
     induction r with
     | nil=>intro l hl t ht;rw[List.mem_singleton.mp hl] at ht;exact ht
     | cons a r ih =>
       intro l hl t ht;rcases List.mem_append.mp hl with w|w
       . exact wCq _ (ih l w t ht)
       . obtain⟨l2,h2,rfl⟩:=List.mem_map.mp w;rcases List.mem_cons.mp ht with rfl|w
         . simp
         . exact wCq _ (ih l2 h2 t w)
   exact λt ht=>List.mem_range.mp (this _ l hl t ht)
 have sv:S (cb 1 (dl v) (-1) m)=0:=by rw[h.s,hs v hv,G.pj.one];grind
 have vl:v∉l:=λw=>z (by rw[G.pj.up _ ((On.dl w).cb _ _ G.pj.on) sv];exact Rat.le_refl);have mv:m v=0:=G.pj.on v vl;have rv:(cb 1 (dl v) (-1) m) v=1:=by unfold cb dl;rw[ja rfl,mv];grind
 have orr:On (v::l) (cb 1 (dl v) (-1) m):=(On.dl (by simp)).cb _ _ (G.pj.on.mono λt ht=>wCq _ ht);have ind:Ind S X Y Z i j k (v::l):=λc oc sc bc t=>by
   have e:(Bi X Y Z i j k) (cb 1 g (-1) m) c=c v*(Bi X Y Z i j k) (cb 1 g (-1) m) (cb 1 (dl v) (-1) m):=by
     have o1:On l (cb 1 c (-c v) (cb 1 (dl v) (-1) m)):=(oc.cb _ _ orr).of (by
       have:cb 1 c (-c v) (cb 1 (dl v) (-1) m) v=1*c v + -c v*(cb 1 (dl v) (-1) m) v:=rfl;rw[this,rv];grind)
     have u:=G.pj.up _ o1 (by rw[h.s,sc,sv];grind);rw[h.r (c:=c)] at u
     grind
   rw[h.nilB bc] at e;have cv:c v=0:=by
     rcases Rat.mul_eq_zero.mp e.symm with w|w
     . exact w
     . rw[w] at z;exact absurd Rat.le_refl z
   exact G.ind c (oc.of cv) sc bc t
 have nd:(v::l).Nodup:=List.nodup_cons.mpr ⟨vl,G.nd⟩;have hs':∀t∈v::l,S (dl t)=1:=λt ht=>by
   rcases List.mem_cons.mp ht with rfl|w
   . exact hs _ hv
   . exact hs t (lin t w)
 by_cases l3:l.length<=3
 . have bp:=h.pos (c:=cb 1 (dl v) (-1) m);have gp:0<(Bi X Y Z i j k) (cb 1 g (-1) m) (cb 1 (dl v) (-1) m):=by grind
   obtain⟨o,o0,o1,oo⟩:∃o:Rat,0<o/\o<=1/\o*(Bi X Y Z i j k) (cb 1 (dl v) (-1) m) (cb 1 (dl v) (-1) m)<=(Bi X Y Z i j k) (cb 1 g (-1) m) (cb 1 (dl v) (-1) m):=by
     generalize (Bi X Y Z i j k) (cb 1 (dl v) (-1) m) (cb 1 (dl v) (-1) m)=L at *;generalize (Bi X Y Z i j k) (cb 1 g (-1) m) (cb 1 (dl v) (-1) m)=p at *;have ne:p+L≠0:=by grind
     have e:p/(p+L)*(p+L)=p:=Rat.div_mul_cancel ne;generalize p/(p+L)=o at *;have o0:0<o:=Classical.byContradiction λw=>by
       have:=Rat.mul_nonneg (a:= -o) (b:=p+L) (by grind) (by grind)
       grind
     have o1:0<=1-o:=Classical.byContradiction λw=>by
       have:=Rat.mul_pos (a:=o-1) (b:=p+L) (by grind) (by grind)
       grind
     exact⟨o,o0,by grind,by have:=Rat.mul_nonneg (Rat.le_of_lt o0) (Rat.le_of_lt gp);grind⟩
   have oa:On (v::l) (cb 1 m o (cb 1 (dl v) (-1) m)):=(G.pj.on.mono λt ht=>wCq _ ht).cb _ _ orr;have na:∀t,0<=cb 1 m o (cb 1 (dl v) (-1) m) t:=λt=>by
     have h1:=Rat.mul_nonneg (show 0<=1-o by grind) (G.nn t);have h2:0<=dl v t:=by unfold dl;split<;>decide
     have h3:=Rat.mul_nonneg (Rat.le_of_lt o0) h2;unfold cb;grind
   obtain⟨l',m',h1,h2,h3,h4⟩:=h.desc g _ (v::l) rfl (by simp) nd hs' ind _ oa na (by rw[h.s,sv,G.pj.one];grind);have lt:Dq X Y Z i j k g (cb 1 m o (cb 1 (dl v) (-1) m))<Dq X Y Z i j k g m:=by
     have e:cb 1 g (-1) (cb 1 m o (cb 1 (dl v) (-1) m))=cb 1 (cb 1 g (-1) m) (-o) (cb 1 (dl v) (-1) m):=by funext t;unfold cb;grind
     unfold Dq;rw[e];generalize cb 1 g (-1) m=x at *;generalize cb 1 (dl v) (-1) m=y at *;have u2:=Bi.sym (X:=X) (Y:=Y) (Z:=Z) (i:=i) (j:=j) (k:=k) (c:=x) (d:=y);rw[h.l,h.r,h.r,<-u2];generalize (Bi X Y Z i j k) y y=L at *;generalize (Bi X Y Z i j k) x y=p at *;have f1:=Rat.mul_pos o0 gp;have f2:=Rat.mul_nonneg (Rat.le_of_lt o0) (show 0<=p-o*L by grind)
     grind
   obtain⟨l2,k1,k2,k3,k4⟩:=norm (n:=n) h3.nd (λt ht=>by
     rcases List.mem_cons.mp (h1 t ht) with rfl|w
     . exact hv
     . exact lin t w)
   have:=q l2 k1 (by rw[k3];exact Nat.le_trans h2 (by rw[List.length_cons];omega)) m' (h3.norm k2 k3 k4)
   grind
 . obtain⟨c,oc,⟨t,ht⟩,zc⟩:=aD1 4 [S,X,Y,Z] (v::l) (by simp[h.s,h.x,h.y,h.z]) rfl nd (by rw[List.length_cons];omega);have b0:(Bi X Y Z i j k) c c=0:=by unfold Bi;rw[zc X (by simp),zc Y (by simp),zc Z (by simp)];grind
   exact ht (ind c oc (zc S (by simp)) b0 t)
theorem WM(hF:Ln F):∀(l:List Nat) (c:Cf),l.Nodup->On l c->F c=(l.map λt=>c t*F (dl t)).sum
 | [],c,_,oc=>by
   have:c=cb 0 c 0 c:=by funext s;unfold cb;rw[oc s (by simp)];grind
   rw[this,hF];simp only[List.map_nil,List.sum_nil];grind
 | v::r,c,nd,oc=>by
   have nd':=List.nodup_cons.mp nd;have e:c=cb (c v) (dl v) 1 (cb 1 c (-c v) (dl v)):=by funext t;unfold cb;grind
   have o:On r (cb 1 c (-c v) (dl v)):=(oc.cb _ _ (On.dl (by simp))).of (by unfold cb dl;rw[ja rfl];grind);have ih:=WM hF r _ nd'.2 o;have e2:(r.map λt=>cb 1 c (-c v) (dl v) t*F (dl t))=r.map λt=>c t*F (dl t):=List.map_congr_left λt ht=>by
     have:t≠v:=λz=>nd'.1 (z▸ht);unfold cb dl;rw[j9 this];grind
   rw[e2] at ih;have e3:F c=c v*F (dl v)+1*F (cb 1 c (-c v) (dl v)):=by
     have:=hF (c v) 1 (dl v) (cb 1 c (-c v) (dl v));rw[<-e] at this;exact this
   rw[e3,ih,List.map_cons,List.sum_cons];grind
end
noncomputable abbrev Z3:=Int×Int×Int
noncomputable def aB(t:Int)(a b:Z3):Z3:=(t*b.1-a.1,t*b.2.1-a.2.1,t*b.2.2-a.2.2)
noncomputable def aR(e a b:Z3):Int:=e.1*a.1*b.1+e.2.1*a.2.1*b.2.1+e.2.2*a.2.2*b.2.2
noncomputable def dtZ:List (List Int)->Int
 | [[a]]=>a
 | [[a,b],[c,d]]=>a*d-b*c
 | [[a,b,c],[d,e,f],[g,h,i]]=>a*(e*i-f*h)-b*(d*i-f*g)+c*(d*h-e*g)
 | _=>1
def gB(e:Z3)(goal:Z3):List Z3->Option (List Int)
 | []=>none
 | s0::r =>
   let E:=r.map (aB 1 s0)
   let tb:=E.map λa=>E.map λb=>aR e a b
   let w:=E.map λa=>aR e a (aB 1 s0 goal)
   let ts:=(List.range r.length).map λp=>dtZ (tb.take p++[w]++tb.drop (p+1))
   if dtZ tb=0 then none else some ((dtZ tb-ts.sum)::ts)
section
variable{S X Y Z:Cf->Rat}{i j k:Rat}
structure Pts(X Y Z:Cf->Rat)(i j k:Rat)(e goal:Z3)(sp:Nat->Z3)(g:Cf)(l:List Nat):Prop where
 x:∀t∈l,X (dl t)=((sp t).1:Rat)
 y:∀t∈l,Y (dl t)=((sp t).2.1:Rat)
 z:∀t∈l,Z (dl t)=((sp t).2.2:Rat)
 gx:X g=(goal.1:Rat)
 gy:Y g=(goal.2.1:Rat)
 gz:Z g=(goal.2.2:Rat)
 i:i=(e.1:Rat)
 j:j=(e.2.1:Rat)
 k:k=(e.2.2:Rat)
def Pts.edge(P:Pts X Y Z i j k e goal sp g l)(h:Sc S X Y Z i j k)(h0:p0∈l)(hp:p∈l)(hq:q∈l) :
   ((aR e (aB 1 (sp p0) (sp p)) (aB 1 (sp p0) (sp q)):Int):Rat)=(Bi X Y Z i j k) (cb 1 (dl p) (-1) (dl p0)) (cb 1 (dl q) (-1) (dl p0)):=by
 unfold Bi aR aB;rw[h.x,h.y,h.z,h.x,h.y,h.z,P.x p hp,P.y p hp,P.z p hp,P.x q hq,P.y q hq,P.z q hq,P.x p0 h0,P.y p0 h0,P.z p0 h0,P.i,P.j,P.k];simp only[Rat.intCast_add,Rat.intCast_mul,Rat.intCast_sub,Int.one_mul]
 grind
def Pts.way(P:Pts X Y Z i j k e goal sp g l)(h:Sc S X Y Z i j k)(h0:p0∈l)(hp:p∈l) :
   ((aR e (aB 1 (sp p0) (sp p)) (aB 1 (sp p0) goal):Int):Rat)=(Bi X Y Z i j k) (cb 1 (dl p) (-1) (dl p0)) (cb 1 g (-1) (dl p0)):=by
 unfold Bi aR aB;rw[h.x,h.y,h.z,h.x,h.y,h.z,P.x p hp,P.y p hp,P.z p hp,P.gx,P.gy,P.gz,P.x p0 h0,P.y p0 h0,P.z p0 h0,P.i,P.j,P.k];simp only[Rat.intCast_add,Rat.intCast_mul,Rat.intCast_sub,Int.one_mul]
 grind
def Gd.wants(G:Gd S X Y Z i j k g l m)(h:Sc S X Y Z i j k)(el:l=p0::ps)(hs:∀t∈l,S (dl t)=1)(hp:p∈l) :
   (Bi X Y Z i j k) (cb 1 (dl p) (-1) (dl p0)) (cb 1 g (-1) (dl p0))=(ps.map λq=>m q*(Bi X Y Z i j k) (cb 1 (dl p) (-1) (dl p0)) (cb 1 (dl q) (-1) (dl p0))).sum:=by
 subst el;have nd:=List.nodup_cons.mp G.nd;have up:=G.pj.up (cb 1 (dl p) (-1) (dl p0)) ((On.dl hp).cb _ _ (On.dl (by simp))) (by rw[h.s,hs p hp,hs p0 (by simp)];grind);generalize cb 1 (dl p) (-1) (dl p0)=E at *;have lE:Ln λc=>(Bi X Y Z i j k) E c:=λa c b d=>h.r;have hm:=WM lE (p0::ps) m G.nd G.pj.on;have h1:=WM h.s (p0::ps) m G.nd G.pj.on;rw[G.pj.one] at h1;have e1:((p0::ps).map λt=>m t*S (dl t)).sum=m p0+(ps.map m).sum:=by
   rw[List.map_cons,List.sum_cons,hs p0 (by simp)];have:(ps.map λt=>m t*S (dl t))=ps.map m:=List.map_congr_left λt ht=>by rw[hs t (wCq _ ht)];grind
   rw[this];grind
 rw[e1] at h1;have e2:∀qs:List Nat,(qs.map λq=>m q*(Bi X Y Z i j k) E (cb 1 (dl q) (-1) (dl p0))).sum=(qs.map λq=>m q*(Bi X Y Z i j k) E (dl q)).sum-(qs.map m).sum*(Bi X Y Z i j k) E (dl p0):=λqs=>by
   induction qs with
   | nil=>simp only[List.map_nil,List.sum_nil];grind
   | cons a r ih =>
     simp only[List.map_cons,List.sum_cons];rw[ih,h.r];grind
 rw[e2,h.r];simp only[List.map_cons,List.sum_cons] at hm;have up2:(Bi X Y Z i j k) E (cb 1 g (-1) m)=0:=by rw[Bi.sym];exact up
 rw[h.r] at up2
 grind
def Gd.nz(G:Gd S X Y Z i j k g l m)(oc:On l c)(sc:S c=0)(h:c t≠0):(Bi X Y Z i j k) c c≠0:=λz=>h (G.ind c oc sc z t)
def dZ(h0:t≠p0):cb 1 (dl p) (-1) (dl p0) t=if t=p then 1 else 0:=by
 unfold cb dl;rw[j9 h0];split<;>grind
def uB{n:Int}(h:0<(n:Rat)):0<n:=Rat.intCast_lt_intCast.mp h
def FL{a d:Rat}(ha:0<a)(h0:0<=a*d)(h1:a*d≠0):0<d:=Classical.byContradiction λz=>by
 have:=Rat.mul_nonneg (Rat.le_of_lt ha) (show 0<=-d by grind)
 grind
def xO{n:Int}(h:(n:Rat)≠0):n≠0:=λz=>h (by rw[z];rfl)
def aGc(h:Sc S X Y Z i j k)(G:Gd S X Y Z i j k g l m)(P:Pts X Y Z i j k e goal sp g l)(hs:∀t∈l,S (dl t)=1)(l4:l.length<=4) :
   ∃(few:List Int) (b:Int),gB e goal (l.map sp)=some few/\0<b/\(few.map λn:Int=>(n:Rat))=l.map λt=>m t*(b:Rat):=by
 have one:=WM h.s l m G.nd G.pj.on;rw[G.pj.one] at one;have one:(1:Rat)=(l.map m).sum:=by
   rw[one];congr 1;exact List.map_congr_left λt ht=>by rw[hs t ht];grind
 match l,G,P,hs,l4,one with
 | [],G,_,_,_,_=>exact absurd rfl G.ne
 | [p0],G,P,hs,_,one =>
   simp only[List.map_cons,List.map_nil,List.sum_cons,List.sum_nil] at one;refine⟨[1],1,rfl,by decide,?_⟩;simp only[List.map_cons,List.map_nil];have:m p0=1:=by grind
   rw[this,Rat.one_mul]
 | [p0,p1],G,P,hs,_,one =>
   simp only[List.map_cons,List.map_nil,List.sum_cons,List.sum_nil] at one;have nd:=G.nd;simp only[List.nodup_cons,List.mem_cons,List.not_mem_nil,or_false,not_or] at nd;have a11:=P.edge h (p0:=p0) (p:=p1) (q:=p1) (by simp) (by simp) (by simp);have w1:=P.way h (p0:=p0) (p:=p1) (by simp) (by simp);have v1:=G.wants h rfl hs (p:=p1) (by simp);have n1:=G.nz (c:=cb 1 (dl p1) (-1) (dl p0)) (t:=p1) ((On.dl (by simp)).cb _ _ (On.dl (by simp))) (by rw[h.s,hs p1 (by simp),hs p0 (by simp)];grind) (by rw[dZ (Ne.symm nd.1),ja rfl];decide);simp only[List.map_cons,List.map_nil,List.sum_cons,List.sum_nil] at v1;simp only[gB,List.map_cons,List.map_nil,List.length_cons,List.length_nil,List.range_succ,List.range_zero,List.nil_append,List.take,List.drop,List.append_nil,List.cons_append,List.sum_cons,List.sum_nil];generalize aR e (aB 1 (sp p0) (sp p1)) (aB 1 (sp p0) (sp p1))=A11 at *;generalize aR e (aB 1 (sp p0) (sp p1)) (aB 1 (sp p0) goal)=W1 at *;generalize cb 1 (dl p1) (-1) (dl p0)=E1 at *;have q1:=h.pos (c:=E1);rw[<-a11] at n1 v1 q1;rw[<-w1] at v1;have d:dtZ [[A11]]=A11:=rfl;have d1:dtZ [[W1]]=W1:=rfl;refine⟨_,A11,by rw[d,d1,j9 (xO n1)],uB (by grind),?_⟩;simp only[List.map_cons,List.map_nil,Rat.intCast_sub,Rat.intCast_add];have z0:((0:Int):Rat)=0:=rfl;rw[z0]
   congr 1
   . grind
   . congr 1;grind
 | [p0,p1,p2],G,P,hs,_,one =>
   simp only[List.map_cons,List.map_nil,List.sum_cons,List.sum_nil] at one;have nd:=G.nd;simp only[List.nodup_cons,List.mem_cons,List.not_mem_nil,or_false,not_or] at nd;have a11:=P.edge h (p0:=p0) (p:=p1) (q:=p1) (by simp) (by simp) (by simp);have a12:=P.edge h (p0:=p0) (p:=p1) (q:=p2) (by simp) (by simp) (by simp);have a21:=P.edge h (p0:=p0) (p:=p2) (q:=p1) (by simp) (by simp) (by simp);have a22:=P.edge h (p0:=p0) (p:=p2) (q:=p2) (by simp) (by simp) (by simp);have w1:=P.way h (p0:=p0) (p:=p1) (by simp) (by simp);have w2:=P.way h (p0:=p0) (p:=p2) (by simp) (by simp);have v1:=G.wants h rfl hs (p:=p1) (by simp);have v2:=G.wants h rfl hs (p:=p2) (by simp);have o1:On [p0,p1,p2] (cb 1 (dl p1) (-1) (dl p0)):=(On.dl (by simp)).cb _ _ (On.dl (by simp));have o2:On [p0,p1,p2] (cb 1 (dl p2) (-1) (dl p0)):=(On.dl (by simp)).cb _ _ (On.dl (by simp));have s1:S (cb 1 (dl p1) (-1) (dl p0))=0:=by rw[h.s,hs p1 (by simp),hs p0 (by simp)];grind
   have s2:S (cb 1 (dl p2) (-1) (dl p0))=0:=by rw[h.s,hs p2 (by simp),hs p0 (by simp)];grind
   have c11:cb 1 (dl p1) (-1) (dl p0) p1=1:=by rw[dZ (Ne.symm nd.1.1),ja rfl]
   have c12:cb 1 (dl p1) (-1) (dl p0) p2=0:=by rw[dZ (Ne.symm nd.1.2),j9 (Ne.symm nd.2.1)]
   have c22:cb 1 (dl p2) (-1) (dl p0) p2=1:=by rw[dZ (Ne.symm nd.1.2),ja rfl]
   simp only[List.map_cons,List.map_nil,List.sum_cons,List.sum_nil] at v1 v2;simp only[gB,List.map_cons,List.map_nil,List.length_cons,List.length_nil,List.range_succ,List.range_zero,List.nil_append,List.take,List.drop,List.append_nil,List.cons_append,List.sum_cons,List.sum_nil];generalize aR e (aB 1 (sp p0) (sp p1)) (aB 1 (sp p0) (sp p1))=A11 at *;generalize aR e (aB 1 (sp p0) (sp p1)) (aB 1 (sp p0) (sp p2))=A12 at *;generalize aR e (aB 1 (sp p0) (sp p2)) (aB 1 (sp p0) (sp p1))=A21 at *;generalize aR e (aB 1 (sp p0) (sp p2)) (aB 1 (sp p0) (sp p2))=A22 at *;generalize aR e (aB 1 (sp p0) (sp p1)) (aB 1 (sp p0) goal)=W1 at *;generalize aR e (aB 1 (sp p0) (sp p2)) (aB 1 (sp p0) goal)=W2 at *;generalize cb 1 (dl p1) (-1) (dl p0)=E1 at *;generalize cb 1 (dl p2) (-1) (dl p0)=E2 at *;have sy:(A21:Rat)=A12:=by rw[a21,a12,Bi.sym]
   have n1:=G.nz (t:=p1) o1 s1 (by rw[c11];decide);have n2:=G.nz (c:=cb ((Bi X Y Z i j k) E1 E1) E2 (-((Bi X Y Z i j k) E1 E2)) E1) (t:=p2) (o2.cb _ _ o1) (by rw[h.s,s1,s2];grind) (by unfold cb;rw[c22,c12];grind);have q1:=h.pos (c:=E1);have q2:=h.pos (c:=cb ((Bi X Y Z i j k) E1 E1) E2 (-((Bi X Y Z i j k) E1 E2)) E1);rw[h.l,h.r,h.r] at n2 q2;rw[<-w1,<-a11,<-a12] at v1;rw[<-w2,<-a21,<-a22] at v2;rw[<-a11,<-a12,<-a21,<-a22] at n2 q2;rw[<-a11] at n1 q1;have q1:0<(A11:Rat):=by grind
   have q2:0<(A11:Rat)*A22-A12*A12:=FL q1 (by rw[sy] at q2;grind) (λz=>n2 (by rw[sy];grind));have d:((dtZ [[A11,A12],[A21,A22]]:Int):Rat)=A11*A22-A12*A21:=by show((A11*A22-A12*A21:Int):Rat)=_;simp only[Rat.intCast_sub,Rat.intCast_mul]
   have d1:((dtZ [[W1,W2],[A21,A22]]:Int):Rat)=W1*A22-W2*A21:=by show((W1*A22-W2*A21:Int):Rat)=_;simp only[Rat.intCast_sub,Rat.intCast_mul]
   have d2:((dtZ [[A11,A12],[W1,W2]]:Int):Rat)=A11*W2-A12*W1:=by show((A11*W2-A12*W1:Int):Rat)=_;simp only[Rat.intCast_sub,Rat.intCast_mul]
   have nd':((dtZ [[A11,A12],[A21,A22]]:Int):Rat)≠0:=by rw[d];intro z;apply n2;rw[sy] at *;grind
   refine⟨_,dtZ [[A11,A12],[A21,A22]],by rw[j9 (xO nd')],uB (by rw[d,sy];exact q2),?_⟩;simp only[List.map_cons,List.map_nil,Rat.intCast_sub,Rat.intCast_add,d,d1,d2];have z0:((0:Int):Rat)=0:=rfl;rw[z0,v1,v2,sy];clear v1 v2 d d1 d2 nd' n1 n2 q1 q2 a11 a12 a21 a22 w1 w2
   congr 1
   . grind
   . congr 1
     . grind
     . congr 1;grind
 | [p0,p1,p2,p3],G,P,hs,_,one =>
   simp only[List.map_cons,List.map_nil,List.sum_cons,List.sum_nil] at one;have nd:=G.nd;simp only[List.nodup_cons,List.mem_cons,List.not_mem_nil,or_false,not_or] at nd;have a11:=P.edge h (p0:=p0) (p:=p1) (q:=p1) (by simp) (by simp) (by simp);have a12:=P.edge h (p0:=p0) (p:=p1) (q:=p2) (by simp) (by simp) (by simp);have a13:=P.edge h (p0:=p0) (p:=p1) (q:=p3) (by simp) (by simp) (by simp);have a21:=P.edge h (p0:=p0) (p:=p2) (q:=p1) (by simp) (by simp) (by simp);have a22:=P.edge h (p0:=p0) (p:=p2) (q:=p2) (by simp) (by simp) (by simp);have a23:=P.edge h (p0:=p0) (p:=p2) (q:=p3) (by simp) (by simp) (by simp);have a31:=P.edge h (p0:=p0) (p:=p3) (q:=p1) (by simp) (by simp) (by simp);have a32:=P.edge h (p0:=p0) (p:=p3) (q:=p2) (by simp) (by simp) (by simp);have a33:=P.edge h (p0:=p0) (p:=p3) (q:=p3) (by simp) (by simp) (by simp);have w1:=P.way h (p0:=p0) (p:=p1) (by simp) (by simp);have w2:=P.way h (p0:=p0) (p:=p2) (by simp) (by simp);have w3:=P.way h (p0:=p0) (p:=p3) (by simp) (by simp);have v1:=G.wants h rfl hs (p:=p1) (by simp);have v2:=G.wants h rfl hs (p:=p2) (by simp);have v3:=G.wants h rfl hs (p:=p3) (by simp);have o1:On [p0,p1,p2,p3] (cb 1 (dl p1) (-1) (dl p0)):=(On.dl (by simp)).cb _ _ (On.dl (by simp));have o2:On [p0,p1,p2,p3] (cb 1 (dl p2) (-1) (dl p0)):=(On.dl (by simp)).cb _ _ (On.dl (by simp));have o3:On [p0,p1,p2,p3] (cb 1 (dl p3) (-1) (dl p0)):=(On.dl (by simp)).cb _ _ (On.dl (by simp));have s1:S (cb 1 (dl p1) (-1) (dl p0))=0:=by rw[h.s,hs p1 (by simp),hs p0 (by simp)];grind
   have s2:S (cb 1 (dl p2) (-1) (dl p0))=0:=by rw[h.s,hs p2 (by simp),hs p0 (by simp)];grind
   have s3:S (cb 1 (dl p3) (-1) (dl p0))=0:=by rw[h.s,hs p3 (by simp),hs p0 (by simp)];grind
   have c11:cb 1 (dl p1) (-1) (dl p0) p1=1:=by rw[dZ (Ne.symm nd.1.1),ja rfl]
   have c12:cb 1 (dl p1) (-1) (dl p0) p2=0:=by rw[dZ (Ne.symm nd.1.2.1),j9 (Ne.symm nd.2.1.1)]
   have c22:cb 1 (dl p2) (-1) (dl p0) p2=1:=by rw[dZ (Ne.symm nd.1.2.1),ja rfl]
   have c13:cb 1 (dl p1) (-1) (dl p0) p3=0:=by rw[dZ (Ne.symm nd.1.2.2),j9 (Ne.symm nd.2.1.2)]
   have c23:cb 1 (dl p2) (-1) (dl p0) p3=0:=by rw[dZ (Ne.symm nd.1.2.2),j9 (Ne.symm nd.2.2.1)]
   have c33:cb 1 (dl p3) (-1) (dl p0) p3=1:=by rw[dZ (Ne.symm nd.1.2.2),ja rfl]
   simp only[List.map_cons,List.map_nil,List.sum_cons,List.sum_nil] at v1 v2 v3;simp only[gB,List.map_cons,List.map_nil,List.length_cons,List.length_nil,List.range_succ,List.range_zero,List.nil_append,List.take,List.drop,List.append_nil,List.cons_append,List.sum_cons,List.sum_nil];generalize aR e (aB 1 (sp p0) (sp p1)) (aB 1 (sp p0) (sp p1))=A11 at *;generalize aR e (aB 1 (sp p0) (sp p1)) (aB 1 (sp p0) (sp p2))=A12 at *;generalize aR e (aB 1 (sp p0) (sp p1)) (aB 1 (sp p0) (sp p3))=A13 at *;generalize aR e (aB 1 (sp p0) (sp p2)) (aB 1 (sp p0) (sp p1))=A21 at *;generalize aR e (aB 1 (sp p0) (sp p2)) (aB 1 (sp p0) (sp p2))=A22 at *;generalize aR e (aB 1 (sp p0) (sp p2)) (aB 1 (sp p0) (sp p3))=A23 at *;generalize aR e (aB 1 (sp p0) (sp p3)) (aB 1 (sp p0) (sp p1))=A31 at *;generalize aR e (aB 1 (sp p0) (sp p3)) (aB 1 (sp p0) (sp p2))=A32 at *;generalize aR e (aB 1 (sp p0) (sp p3)) (aB 1 (sp p0) (sp p3))=A33 at *;generalize aR e (aB 1 (sp p0) (sp p1)) (aB 1 (sp p0) goal)=W1 at *;generalize aR e (aB 1 (sp p0) (sp p2)) (aB 1 (sp p0) goal)=W2 at *;generalize aR e (aB 1 (sp p0) (sp p3)) (aB 1 (sp p0) goal)=W3 at *;generalize cb 1 (dl p1) (-1) (dl p0)=E1 at *;generalize cb 1 (dl p2) (-1) (dl p0)=E2 at *;generalize cb 1 (dl p3) (-1) (dl p0)=E3 at *;have y1:(A21:Rat)=A12:=by rw[a21,a12,Bi.sym]
   have y2:(A31:Rat)=A13:=by rw[a31,a13,Bi.sym]
   have y3:(A32:Rat)=A23:=by rw[a32,a23,Bi.sym]
   have n1:=G.nz (t:=p1) o1 s1 (by rw[c11];decide);have n2:=G.nz (c:=cb ((Bi X Y Z i j k) E1 E1) E2 (-((Bi X Y Z i j k) E1 E2)) E1) (t:=p2) (o2.cb _ _ o1) (by rw[h.s,s1,s2];grind) (by unfold cb;rw[c22,c12];grind);have q1:=h.pos (c:=E1);have q2:=h.pos (c:=cb ((Bi X Y Z i j k) E1 E1) E2 (-((Bi X Y Z i j k) E1 E2)) E1);rw[h.l,h.r,h.r] at n2 q2;rw[<-w1,<-a11,<-a12,<-a13] at v1;rw[<-w2,<-a21,<-a22,<-a23] at v2;rw[<-w3,<-a31,<-a32,<-a33] at v3;rw[<-a11,<-a12,<-a21,<-a22] at n2 q2;rw[<-a11] at n1 q1;rw[y1] at n2 v2 q2;have q1:0<(A11:Rat):=by grind
   have q2:0<(A11:Rat)*A22-A12*A12:=FL q1 (by grind) (λz=>n2 (by grind));rw[y2,y3] at v3;have m2:(A11:Rat)*A22-A12*A12≠0:=by intro z;apply n2;grind
   have n3:=G.nz (c:=cb ((A11:Rat)*A22-A12*A12) E3 1 (cb (-((A13:Rat)*A22-A23*A12)) E1 (-((A11:Rat)*A23-A12*A13)) E2)) (t:=p3) (o3.cb _ _ (o1.cb _ _ o2)) (by rw[h.s,h.s,s1,s2,s3];grind) (by unfold cb;rw[c33,c13,c23];intro z;apply m2;grind);have q3:=h.pos (c:=cb ((A11:Rat)*A22-A12*A12) E3 1 (cb (-((A13:Rat)*A22-A23*A12)) E1 (-((A11:Rat)*A23-A12*A13)) E2));have ee:(Bi X Y Z i j k) (cb ((A11:Rat)*A22-A12*A12) E3 1 (cb (-((A13:Rat)*A22-A23*A12)) E1 (-((A11:Rat)*A23-A12*A13)) E2)) (cb ((A11:Rat)*A22-A12*A12) E3 1 (cb (-((A13:Rat)*A22-A23*A12)) E1 (-((A11:Rat)*A23-A12*A13)) E2))=((A11:Rat)*A22-A12*A12)*((A11:Rat)*(A22*A33-A23*A23)-A12*(A12*A33-A23*A13)+A13*(A12*A23-A22*A13)):=by
     rw[h.l,h.l,h.r,h.r,h.r,h.r,h.r,h.r,<-a11,<-a12,<-a13,<-a21,<-a22,<-a23,<-a31,<-a32,<-a33,y1,y2,y3]
     grind
   rw[ee] at n3 q3;have q3:=FL q2 q3 n3;have d:((dtZ [[A11,A12,A13],[A21,A22,A23],[A31,A32,A33]]:Int):Rat)=A11*(A22*A33-A23*A32)-A12*(A21*A33-A23*A31)+A13*(A21*A32-A22*A31):=by
     show((A11*(A22*A33-A23*A32)-A12*(A21*A33-A23*A31)+A13*(A21*A32-A22*A31):Int):Rat)=_;simp only[Rat.intCast_add,Rat.intCast_sub,Rat.intCast_mul]
   have d1:((dtZ [[W1,W2,W3],[A21,A22,A23],[A31,A32,A33]]:Int):Rat)=W1*(A22*A33-A23*A32)-W2*(A21*A33-A23*A31)+W3*(A21*A32-A22*A31):=by
     show((W1*(A22*A33-A23*A32)-W2*(A21*A33-A23*A31)+W3*(A21*A32-A22*A31):Int):Rat)=_;simp only[Rat.intCast_add,Rat.intCast_sub,Rat.intCast_mul]
   have d2:((dtZ [[A11,A12,A13],[W1,W2,W3],[A31,A32,A33]]:Int):Rat)=A11*(W2*A33-W3*A32)-A12*(W1*A33-W3*A31)+A13*(W1*A32-W2*A31):=by
     show((A11*(W2*A33-W3*A32)-A12*(W1*A33-W3*A31)+A13*(W1*A32-W2*A31):Int):Rat)=_;simp only[Rat.intCast_add,Rat.intCast_sub,Rat.intCast_mul]
   have d3:((dtZ [[A11,A12,A13],[A21,A22,A23],[W1,W2,W3]]:Int):Rat)=A11*(A22*W3-A23*W2)-A12*(A21*W3-A23*W1)+A13*(A21*W2-A22*W1):=by
     show((A11*(A22*W3-A23*W2)-A12*(A21*W3-A23*W1)+A13*(A21*W2-A22*W1):Int):Rat)=_;simp only[Rat.intCast_add,Rat.intCast_sub,Rat.intCast_mul]
   have nd':((dtZ [[A11,A12,A13],[A21,A22,A23],[A31,A32,A33]]:Int):Rat)≠0:=by
     rw[d,y1,y2,y3];intro z;rw[z] at q3;exact absurd q3 ddq
   refine⟨_,dtZ [[A11,A12,A13],[A21,A22,A23],[A31,A32,A33]],by rw[j9 (xO nd')],uB (by rw[d,y1,y2,y3];exact q3),?_⟩;simp only[List.map_cons,List.map_nil,Rat.intCast_sub,Rat.intCast_add,d,d1,d2,d3];have z0:((0:Int):Rat)=0:=rfl;rw[z0,v1,v2,v3,y1,y2,y3];clear v1 v2 v3 d d1 d2 d3 nd' n1 n2 n3 m2 q1 q2 q3 ee a11 a12 a13 a21 a22 a23 a31 a32 a33 w1 w2 w3 y1 y2 y3
   congr 1
   . grind
   . congr 1
     . grind
     . congr 1
       . grind
       . congr 1;grind
end
end L3
namespace L3
open PySem PySem.Spec
open PyProof.Rows hiding St
open L2
local macro_rules|`(%[$x|_])=>`(CE.cons $x CE.nil)|`(%[$x,$y,*|_])=>`(CE.cons $x %[$y,*|_])
noncomputable def mM(a b c a' b' c':Rat)(i j k:Int):Rat:=(i:Rat)*((a-a')*(a-a'))+(j:Rat)*((b-b')*(b-b'))+(k:Rat)*((c-c')*(c-c'))
def Ey(i j k:Int):Prop:=(1<=i/\i<=99)/\(1<=j/\j<=99)/\(1<=k/\k<=99)
def xP(x:PV)(i j k:Int):Prop:=(x= .non/\i=1/\j=1/\k=1)∨x= .tup [.int i,.int j,.int k]
def sm7(h1:1<=i)(h2:i<=99):Sm 7 i:=by unfold Sm;omega
def TK(e:Ey i j k)(ha:Bd 200 a)(hb:Bd 200 b)(hc:Bd 200 c)(ha':Bd 200 a')(hb':Bd 200 b')(hc':Bd 200 c'):Bd 2600 (mM a b c a' b' c' i j k):=by
 obtain⟨⟨i1,i2⟩,⟨j1,j2⟩,⟨k1,k2⟩⟩:=e;have x:=ha.sub ha' (show 200+200+1<=401 by decide);have y:=hb.sub hb' (show 200+200+1<=401 by decide);have z:=hc.sub hc' (show 200+200+1<=401 by decide);have bi:Bd 7 (i:Rat):=Bd.int (sm7 i1 i2) ddq;have bj:Bd 7 (j:Rat):=Bd.int (sm7 j1 j2) ddq;have bk:Bd 7 (k:Rat):=Bd.int (sm7 k1 k2) ddq;have x2:=bi.mul (x.mul x (show 401+401<=802 by decide)) (show 7+802<=809 by decide);have y2:=bj.mul (y.mul y (show 401+401<=802 by decide)) (show 7+802<=809 by decide);have z2:=bk.mul (z.mul z (show 401+401<=802 by decide)) (show 7+802<=809 by decide);exact(x2.add y2 (show 809+809+1<=1619 by decide)).add z2 ddq
def rQ:Sp3:=λxs G Q=>∃i j k,xs=[.tup [.int i,.int j,.int k]]/\Ey i j k/\Q (.bl true) G
def xJ:Sp3:=λxs G Q=>∃x i j k,xs=[x]/\xP x i j k/\Ey i j k/\Q (.tup [.int i,.int j,.int k]) G
def aAh:Sp3:=λxs G Q=>∃a b c a' b' c' i j k,xs=[SH a b c,SH a' b' c',.tup [.int i,.int j,.int k]]/\Ey i j k/\Bd 200 a/\Bd 200 b/\Bd 200 c/\Bd 200 a'/\Bd 200 b'/\Bd 200 c'/\
 ∀t d:Int,d≠0->Sm 9000 d->Rat.divInt t d=mM a b c a' b' c' i j k->Q (.tup [.int t,.int d]) G
def ZJ:Sp3:=λxs G Q=>∃a b c a' b' c' x i j k,xs=[SH a b c,SH a' b' c',x]/\xP x i j k/\Ey i j k/\Bd 200 a/\Bd 200 b/\Bd 200 c/\Bd 200 a'/\Bd 200 b'/\Bd 200 c'/\Q (FQ (mM a b c a' b' c' i j k)) G
def EI:Sp3:=λxs G Q=>∃a b c a' b' c' i j k,xs=[.tup [FQ a,FQ b,FQ c],.tup [FQ a',FQ b',FQ c'],.tup [.int i,.int j,.int k]]/\Ey i j k/\Bd 200 a/\Bd 200 b/\Bd 200 c/\Bd 200 a'/\Bd 200 b'/\Bd 200 c'/\Q (FQ (mM a b c a' b' c' i j k)) G
def DT:Sp3:=λxs G Q=>∃p,xs=[.ref p]/\Pu p G/\∀i j k G',Ey i j k->Pn p G G'->Q (.tup [.int i,.int j,.int k]) G'
def xP.t:xP (.tup [.int i,.int j,.int k]) i j k:=.inr rfl
def Ey.o:Ey 1 1 1:=⟨⟨by decide,by decide⟩,⟨by decide,by decide⟩,⟨by decide,by decide⟩⟩
theorem aBh:yS 3 [[a,b,c],[x,y,z],[u,v,w]]=[.tup [a,x,u],.tup [b,y,v],.tup [c,z,w]]:=rfl
theorem aAl:yS 3 [[a,b,c],[x,y,z]]=[.tup [a,x],.tup [b,y],.tup [c,z]]:=rfl
theorem aCW:vW [.bl a,.bl b,.bl c]=some (a&&(b&&(c&&true))):=rfl
theorem avi:Ar.val xs (.int i)= .int i:=rfl
theorem hV{α:Type}(src:α->PV)(J:List α->PSt->Gh->List PV->Prop)(hc:∀l Y G acc,J l Y G acc->chk G)
   (step:∀x r Y G acc (R:PV->PSt->Gh->Prop) (N:PSt->Gh->Prop),J (x::r) Y G acc->(∀y Y' G',J r Y' G' (acc++[y])->R y Y' G')->(∀Y' G',J r Y' G' acc->N Y' G')->g (src x) Y G λY2 G2=>ts Y2 G2 λok G3=>if ok=true then te Y2 G3 λy G4=>R y Y2 G4 else N Y2 G3)
   (fin:∀Y G acc,J [] Y G acc->Q acc G):∀(l:List α) Y G acc,J l Y G acc->cL chk g ts te (l.map src) acc Y G Q
 | [],Y,G,acc,h=>⟨hc _ _ _ _ h,fin _ _ _ h⟩
 | x::r,Y,G,acc,h=>⟨hc _ _ _ _ h,step x r Y G acc (λy Y' G'=>cL chk g ts te (r.map src) (acc++[y]) Y' G' Q) (λY' G'=>cL chk g ts te (r.map src) acc Y' G' Q) h (λy Y' G' h'=>hV src J hc step fin r Y' G' _ h') (λY' G' h'=>hV src J hc step fin r Y' G' _ h')⟩
def cB{α:Type}(src:α->PV)(J:List α->PSt->Gh->Prop)(hc:∀l Y G,J l Y G->chk G)
   (step:∀x r Y G (R:PSt->Gh->Prop),J (x::r) Y G->(∀Y' G',J r Y' G'->R Y' G')->g (src x) Y G λY2 G2=>tb {D with nx:=R,ct:=R,bk:=D.nx} Y2 G2)
   (fin:∀Y G,J [] Y G->D.nx Y G):∀(l:List α) Y G,J l Y G->gE chk g tb D (l.map src) Y G
 | [],Y,G,h=>⟨hc _ _ _ h,fin _ _ h⟩
 | x::r,Y,G,h=>⟨hc _ _ _ h,step x r Y G _ h λY' G' h'=>cB src J hc step fin r Y' G' h'⟩
theorem aQ{α:Type}(src f:α->PV)(J:PSt->Prop)(hc:chk G):∀(l:List α) (acc:List PV) (Y:PSt) (Q:List PV->Gh->Prop),J Y->
   (∀x∈l,∀Y (R:PV->PSt->Gh->Prop) (N:PSt->Gh->Prop),J Y->(∀Y',J Y'->R (f x) Y' G)->g (src x) Y G λY2 G2=>ts Y2 G2 λok G3=>if ok=true then te Y2 G3 λy G4=>R y Y2 G4 else N Y2 G3)->
   Q (acc++l.map f) G->cL chk g ts te (l.map src) acc Y G Q
 | [],acc,Y,Q,_,_,q=>⟨hc,by simpa using q⟩
 | x::r,acc,Y,Q,h,step,q=>⟨hc,step x (by simp) Y (λy Y' G'=>cL chk g ts te (r.map src) (acc++[y]) Y' G' Q) (λY' G'=>cL chk g ts te (r.map src) acc Y' G' Q) h λY' h' =>
     aQ src f J hc r _ Y' Q h' (λy hy=>step y (wCq _ hy)) (by rw[List.append_assoc];exact q)⟩
noncomputable def z3L(s:Z3):PV:=.lst [.int s.1,.int s.2.1,.int s.2.2]
noncomputable def eyZ(e:Z3):PV:=.tup [.int e.1,.int e.2.1,.int e.2.2]
noncomputable def iL(ns:List Int):PV:=.lst (ns.map .int)
def zsL(ss:List Z3):PV:=.lst (ss.map z3L)
def aG(r:R3):PV:=.tup [FQ r.1,FQ r.2.1,FQ r.2.2]
def I1(r:R3):Prop:=In1 r.1/\In1 r.2.1/\In1 r.2.2
def Z3B(n:Nat)(s:Z3):Prop:=Sm n s.1/\Sm n s.2.1/\Sm n s.2.2
def Z3B.mono{n m:Nat}{s:Z3}(h:Z3B n s)(e:n<=m):Z3B m s:=⟨h.1.mono e,h.2.1.mono e,h.2.2.mono e⟩
def EyZ(e:Z3):Prop:=Ey e.1 e.2.1 e.2.2
def EyZ.sm(h:EyZ e):Z3B 7 e:=⟨sm7 h.1.1 h.1.2,sm7 h.2.1.1 h.2.1.2,sm7 h.2.2.1 h.2.2.2⟩
def Dv(m:Int)(r:R3):Prop:=(r.1.den:Int) ∣ m/\(r.2.1.den:Int) ∣ m/\(r.2.2.den:Int) ∣ m
def uJ:Sp3:=λxs G Q=>∃rows:List R3,xs=[.tup (rows.map shV)]/\1<=rows.length/\rows.length<=5/\Q .non G
def uO:Sp3:=λxs G Q=>∃(rows:List R3) (m:Int),xs=[.lst (rows.map aG)]/\0<m/\Sm 5000 m/\(∀r∈rows,Dv m r)/\∀b,0<b->b ∣ m->(∀r∈rows,Dv b r)->Q (.int b) G
noncomputable def aH(b:Int)(r:R3):Z3:=(r.1.num*(b/(r.1.den:Int)),r.2.1.num*(b/(r.2.1.den:Int)),r.2.2.num*(b/(r.2.2.den:Int)))
def CY:Sp3:=λxs G Q=>∃(r:R3) (b:Int),xs=[aG r,.int b]/\0<b/\Sm 5000 b/\Dv b r/\I1 r/\Q (z3L (aH b r)) G
def FX:Sp3:=λxs G Q=>∃(a b:Z3) (t:Int),xs=[z3L a,z3L b,.int t]/\Sm 5000 t/\Z3B 5000 b/\Q (z3L (aB t a b)) G
def EW:Sp3:=λxs G Q=>∃(a b e:Z3),xs=[z3L a,z3L b,eyZ e]/\Z3B 5000 a/\Z3B 5000 b/\Z3B 5000 e/\Q (.int (aR e a b)) G
def Sq(n:Nat)(rs:List (List Int)):Prop:=rs=[]∨(1<=n/\∃a,rs=[[a]])∨(2<=n/\∃a b c d,rs=[[a,b],[c,d]])∨(3<=n/\∃a b c d e f g h i,rs=[[a,b,c],[d,e,f],[g,h,i]])
def nB(n:Nat):Sp3:=λxs G Q=>∃rs:List (List Int),xs=[.lst (rs.map iL)]/\Sq n rs/\(∀r∈rs,∀x∈r,Sm 5000 x)/\Q (.int (dtZ rs)) G
def QF:Option (List Int)->PV
 | none=>.non
 | some ts=>iL ts
def tD:Sp3:=λxs G Q=>∃(spots:List Z3) (goal e:Z3),xs=[zsL spots,z3L goal,eyZ e]/\spots≠[]/\spots.length<=4/\(∀s∈spots,Z3B 200 s)/\Z3B 200 goal/\EyZ e/\Q (QF (gB e goal spots)) G
noncomputable def bR(n:Nat)(ls:List (List Nat)):List (List Nat):=ls.flatMap λl=>((List.range n).filter λp=>decide (l=[])||decide (l.getLast?.getD 0<p)).map λp=>l++[p]
def aY(n:Nat):Nat->List (List Nat)×List (List Nat)
 | 0=>([],[[]])
 | k+1=>((aY n k).1++bR n (aY n k).2,bR n (aY n k).2)
noncomputable def nL(ps:List Nat):PV:=.lst (ps.map λ(p:Nat)=>PV.int (p:Int))
def CZ:Sp3:=λxs G Q=>∃n:Nat,xs=[.int n]/\1<=n/\n<=5/\Q (.lst ((aY n (min n 4)).1.map nL)) G
noncomputable def jI(n:Nat)(ps:List Nat)(ts:List Int):List Int:=(ps.zip ts).foldl (λrow p=>row.set p.1 p.2) (List.replicate n 0)
def uI:Sp3:=λxs G Q=>∃(ps:List Nat) (ts:List Int) (n:Nat),xs=[nL ps,iL ts,.int n]/\ps.length=ts.length/\(∀p∈ps,p<n)/\n<=5/\Q (iL (jI n ps ts)) G
noncomputable def mdZ(f:Z3->Int)(ts:List Int)(ss:List Z3):Int:=((ts.zip ss).map λp=>p.1*f p.2).sum
def aJ(ts:List Int)(ss:List Z3):Z3:=(mdZ (·.1) ts ss,mdZ (·.2.1) ts ss,mdZ (·.2.2) ts ss)
def sP:Sp3:=λxs G Q=>∃(ts:List Int) (ss:List Z3),xs=[iL ts,zsL ss]/\ts.length=ss.length/\ts.length<=5/\(∀t∈ts,Sm 5000 t)/\(∀s∈ss,Z3B 5000 s)/\Q (z3L (aJ ts ss)) G
def lG(e goal:Z3)(ts:List Int)(ss:List Z3):Bool:=ss.all λs=>decide (aR e (aB ts.sum (aJ ts ss) goal) (aB ts.sum (aJ ts ss) s)<=0)
def uZ:Sp3:=λxs G Q=>∃(ts:List Int) (ss:List Z3) (goal e:Z3),xs=[iL ts,zsL ss,z3L goal,eyZ e]/\ts.length=ss.length/\ts.length<=5/\(∀t∈ts,Sm 1800 t)/\(∀s∈ss,Z3B 200 s)/\Z3B 200 goal/\EyZ e/\Q (.bl (lG e goal ts ss)) G
structure HC(e goal:Z3)(ss:List Z3)(ts:List Int):Prop where
 len:ts.length=ss.length
 nn:∀t∈ts,0<=t
 pos:0<ts.sum
 near:lG e goal ts ss=true
 few:(ts.filter λt=>decide (t≠0)).length<=4
def DV:Sp3:=λxs G Q=>∃(ss:List Z3) (goal e:Z3) (n:Nat),xs=[zsL ss,z3L goal,eyZ e]/\1<=ss.length/\ss.length<=5/\n<=140/\(∀s∈ss,Z3B n s)/\Z3B n goal/\EyZ e/\∀ts,HC e goal ss ts->(∀t∈ts,Sm (6*n+40) t)->Q (iL ts) G
noncomputable def mdQ(f:R3->Rat)(ms:List Rat)(rows:List R3):Rat:=((ms.zip rows).map λp=>p.1*f p.2).sum
noncomputable def ipQ(e:Z3)(g n r:R3):Rat:=(e.1:Rat)*((g.1-n.1)*(r.1-n.1))+(e.2.1:Rat)*((g.2.1-n.2.1)*(r.2.1-n.2.1))+(e.2.2:Rat)*((g.2.2-n.2.2)*(r.2.2-n.2.2))
structure MkR(rows:List R3)(g:R3)(e:Z3)(n:Nat)(ms:List Rat)(nr:R3):Prop where
 len:ms.length=rows.length
 nn:∀m∈ms,0<=m
 one:ms.sum=1
 few:(ms.filter λm=>decide (m≠0)).length<=4
 made:nr=(mdQ (·.1) ms rows,mdQ (·.2.1) ms rows,mdQ (·.2.2) ms rows)
 up:∀r∈rows,ipQ e g nr r<=0
 i1:I1 nr
 bd:Bd (8*n+60) nr.1/\Bd (8*n+60) nr.2.1/\Bd (8*n+60) nr.2.2
 bm:∀m∈ms,Bd (6*n+60) m
 bot:∃m:Int,0<m/\Sm (7*n+45) m/\Dv m nr/\∀r∈rows,Dv m r
def LnR(g nr:R3)(ln:PV):Prop:=(nr=g/\ln= .non)∨(nr≠g/\∃a c,ln= .tup [a,c])
def aGp(x:PV)(e:Z3):Prop:=xP x e.1 e.2.1 e.2.2
def CM:Sp3:=λxs G Q=>∃(rows:List R3) (g:R3) (x:PV) (e:Z3) (n:Nat) (m:Int),xs=[.tup (rows.map shV),shV g,x]/\1<=rows.length/\rows.length<=5/\aGp x e/\EyZ e/\0<m/\Sm n m/\n<=140/\(∀r∈rows,Dv m r/\I1 r)/\Dv m g/\I1 g/\
 ∀ms nr ln,MkR rows g e n ms nr->LnR g nr ln->Q (.tup [.tup (ms.map FQ),shV nr,ln]) G
def FC:Sp3:=λxs G Q=>∃(w:Z3) (ss:List Z3) (b:Int),xs=[z3L w,zsL ss,.int b]/\w≠(0,0,0)/\ss≠[]/\ss.length<=5/\Z3B 3000 w/\(∀s∈ss,Z3B 3000 s)/\b≠0/\Sm 3000 b/\∀a c,Q (.tup [a,c]) G
structure PL(T:Tb):Prop where
 is_eye:T.S "is_eye"=rQ
 eye_of:T.S "eye_of"=xJ
 gap:T.S "gap_between"=aAh
 far:T.S "far"=ZJ
 gv_EVEN:T.gv "EVEN_EYE"= .tup [.int 1,.int 1,.int 1]
 gv_MOST:T.gv "MOST_OF_EYE"= .int 99
 gv_ML:T.gv "MOST_LIGHTS"= .int 5
 gv_MO:T.gv "MOST_AT_ONCE"= .int 4
 need_lights:T.S "need_lights"=uJ
 bottom:T.S "shared_bottom"=uO
 spot:T.S "spot_over"=CY
 gone:T.S "gone"=FX
 prod:T.S "product"=EW
 det:T.S "determinant"=nB 3
 toward:T.S "tops_toward"=tD
 sets:T.S "sets_of"=CZ
 spread:T.S "spread"=uI
 made_by:T.S "made_by"=sP
 is_near:T.S "is_nearest"=uZ
 tops:T.S "nearest_tops"=DV
 line:T.S "line_by"=FC
 make:T.S "make"=CM
def aFX{x y z:Int}: [x,y,z].sum=x+y+z:=by simp only[List.sum_cons,List.sum_nil];omega
theorem GE:shV r=SH r.1 r.2.1 r.2.2:=rfl
local macro_rules | `(tactic| walk_at "rd") => wk (wqB++" wR jS iP sQ wY List.map_cons List.map_nil eQ dG eX kH mK zN vB gG vH dE aX iZ mU eZ BI jO uE at0 at1 at2 GT NF NE jL fK cI oE jZ fN dM sZ sY jD kF fL iC nU bV rQ aCW")
section
variable{T:Tb}
noncomputable def pZ:CS:=.seq (.iff (.oo (.no (.tst (.blt .isi %[.var 0,.glo "tuple"|_]))) (.tsb (.cmp .NotEq (.blt .len %[.var 0|_]) (.int 3)))) (.ret (.bl false)) .nil) (.ret (.blt .all %[.cmpr false (.gn 1) (.isq (.var 0)) .nil (.an (.cal "is_whole" %[.var 1|_]) (.chn .LtE .LtE (.int 1) (.var 1) (.glo "MOST_OF_EYE"))) [none,none]|_]))
def OU(h:PT T)(k:PL T):∀xs G Q,rQ xs G Q->wpS T pZ (aN Q) (aC 1 xs) G:=by
 rintro xs G Q ⟨i,j,l,rfl,⟨⟨i1,i2⟩,⟨j1,j2⟩,⟨l1,l2⟩⟩,hq⟩;unfold pZ;have:=h.ty_tuple;have:=h.is_whole;have:=k.gv_MOST;walk_at "rd"
noncomputable def pY:CS:=.seq (.iff (.tsb (.cmp .Is (.var 0) .non)) (.ret (.glo "EVEN_EYE")) .nil) (.seq (.iff (.no (.tst (.cal "is_eye" %[.var 0|_]))) .nev .nil) (.ret (.var 0)))
def SU(h:PT T)(k:PL T):∀xs G Q,xJ xs G Q->wpS T pY (aN Q) (aC 1 xs) G:=by
 rintro xs G Q ⟨x,i,j,l,rfl,v,e,hq⟩;unfold pY;have:=k.is_eye;have:=k.gv_EVEN;have:=@OG;rcases v with ⟨rfl,rfl,rfl,rfl⟩|rfl
 . walk_at "rd"
 . walk_at "rd"
noncomputable def vG:CS:=.seq (.asg (.gn 3) (.tup %[.int 0,.int 1|_])) (.seq (.fr (.gn 4) (.irg %[.int 3|_]) (.seq (.asg (.gn 5) (.cal "_law_minus" %[.idx (.var 0) (.var 4),.idx (.var 1) (.var 4)|_])) (.asg (.gn 3) (.cal "_law_plus" %[.var 3,.cal "_law_times" %[.tup %[.idx (.var 2) (.var 4),.int 1|_],.cal "_law_times" %[.var 5,.var 5|_]|_]|_])))) (.ret (.var 3)))
def WC(l:LT T):∀xs G Q,EI xs G Q->wpS T vG (aN Q) (aC 6 xs) G:=by
 rintro xs G Q ⟨a,b,c,a',b',c',i,j,k,rfl,⟨⟨i1,i2⟩,⟨j1,j2⟩,⟨k1,k2⟩⟩,ba,bb,bc,ba',bb',bc',hq⟩;unfold vG;have:=l.minus;have:=l.plus;have:=l.times;have:=@wU;have:=@DU;have x:=ba.sub ba' (show 200+200+1<=401 by decide);have y:=bb.sub bb' (show 200+200+1<=401 by decide);have z:=bc.sub bc' (show 200+200+1<=401 by decide);have bi:Bd 7 (i:Rat):=Bd.int (sm7 i1 i2) ddq;have bj:Bd 7 (j:Rat):=Bd.int (sm7 j1 j2) ddq;have bk:Bd 7 (k:Rat):=Bd.int (sm7 k1 k2) ddq;have xx:=x.mul x (show 401+401<=802 by decide);have yy:=y.mul y (show 401+401<=802 by decide);have zz:=z.mul z (show 401+401<=802 by decide);have x2:=bi.mul xx (show 7+802<=809 by decide);have y2:=bj.mul yy (show 7+802<=809 by decide);have z2:=bk.mul zz (show 7+802<=809 by decide);have b0:Bd 2 ((0:Int):Rat):=⟨by unfold Sm;decide +kernel,by unfold Sm;decide +kernel⟩;have s1:=b0.add x2 (show 2+809+1<=812 by decide);have s2:=s1.add y2 (show 812+809+1<=1622 by decide);have e:((0:Int):Rat)+(i:Rat)*((a-a')*(a-a'))+(j:Rat)*((b-b')*(b-b'))+(k:Rat)*((c-c')*(c-c'))=mM a b c a' b' c' i j k:=by
   have:((0:Int):Rat)=0:=rfl;rw[this];unfold mM;grind
 have:=ba.mono (show 200<=4000 by decide);have:=bb.mono (show 200<=4000 by decide);have:=bc.mono (show 200<=4000 by decide);have:=ba'.mono (show 200<=4000 by decide);have:=bb'.mono (show 200<=4000 by decide);have:=bc'.mono (show 200<=4000 by decide);have:=x.mono (show 401<=4000 by decide);have:=y.mono (show 401<=4000 by decide);have:=z.mono (show 401<=4000 by decide);have:=xx.mono (show 802<=4000 by decide);have:=yy.mono (show 802<=4000 by decide);have:=zz.mono (show 802<=4000 by decide);have:=bi.mono (show 7<=4000 by decide);have:=bj.mono (show 7<=4000 by decide);have:=bk.mono (show 7<=4000 by decide);have:=x2.mono (show 809<=4000 by decide);have:=y2.mono (show 809<=4000 by decide);have:=z2.mono (show 809<=4000 by decide);have:=b0.mono (show 2<=4000 by decide);have:=s1.mono (show 812<=4000 by decide);have:=s2.mono (show 1622<=4000 by decide);walk_at "rd"
 decide
noncomputable def sJ:CS:=.seq (.asg (.gn 1) (.cal "_law_pick" %[.var 0,.int 3|_])) (.ret (.idx (.lst false %[.tup %[.int 1,.int 1,.int 1|_],.tup %[.int 3,.int 6,.int 1|_],.blt .tuple %[.cmpr false (.gn 1) (.irg %[.int 3|_]) .nil (.bin .Add (.int 1) (.cal "_law_pick" %[.var 2,.int 99|_])) [none,none,some 0]|_]|_]) (.var 1)))
def YW(l:LT T):∀xs G Q,DT xs G Q->wpS T sJ (aN Q) (aC 2 xs) G:=by
 rintro xs G Q ⟨p,rfl,hp,hq⟩;unfold sJ;have:=l.pick;have:=@wU;walk_at "rd"
 refine⟨by decide,smP ddq ddq,λr G1 r1 r2 n1=>⟨by decide,by decide,n1.pu,by decide,smP ddq ddq,λa G2 a1 a2 n2=>⟨n2.pu,by decide,smP ddq ddq,λb G3 b1 b2 n3=>⟨n3.pu,by decide,smP ddq ddq,λc G4 c1 c2 n4=>?_⟩⟩⟩⟩;have nn:=((n1.trans n2).trans n3).trans n4;have e:r=0∨r=1∨r=2:=by omega
 rcases e with rfl|rfl|rfl
 . exact⟨_,at0,Wk.here (hq 1 1 1 _ Ey.o nn)⟩
 . exact⟨_,at1,Wk.here (hq 3 6 1 _ ⟨⟨by decide,by decide⟩,⟨by decide,by decide⟩,⟨by decide,by decide⟩⟩ nn)⟩
 . exact⟨_,at2,Wk.here (hq (1+a) (1+b) (1+c) _ ⟨⟨by omega,by omega⟩,⟨by omega,by omega⟩,⟨by omega,by omega⟩⟩ nn)⟩
noncomputable def xG:CS:=.ret (.cmpr false (.gt 2 %[.gn 1,.gn 2|_]) (.izp %[.var 0,.var 1|_]) .nil (.bin .Sub (.bin .Mult (.var 3) (.var 2)) (.var 1)) [none,none,none,some 2])
def aBa:∀xs G Q,FX xs G Q->wpS T xG (aN Q) (aC 3 xs) G:=by
 rintro xs G Q ⟨⟨a1,a2,a3⟩,⟨b1,b2,b3⟩,t,rfl,ht,⟨hb1,hb2,hb3⟩,hq⟩;unfold xG;have m1:=bY ht hb1;have m2:=bY ht hb2;have m3:=bY ht hb3;unfold z3L;walk_at "rd"
 refine⟨.inl trivial,3,[[.int a1,.int a2,.int a3],[.int b1,.int b2,.int b3]],rfl,.inl (by simp),?_⟩;rw[aAl];walk_at "rd"
 exact Wk.here hq
noncomputable def nA:CS:=.ret (.blt .sum %[.cmpr false (.gt 3 %[.gn 1,.gn 2,.gn 3|_]) (.izp %[.var 2,.var 0,.var 1|_]) .nil (.bin .Mult (.bin .Mult (.var 1) (.var 2)) (.var 3)) [none,none,none,none]|_])
def LB:∀xs G Q,EW xs G Q->wpS T nA (aN Q) (aC 3 xs) G:=by
 rintro xs G Q ⟨⟨a1,a2,a3⟩,⟨b1,b2,b3⟩,⟨e1,e2,e3⟩,rfl,⟨ha1,ha2,ha3⟩,⟨hb1,hb2,hb3⟩,⟨he1,he2,he3⟩,hq⟩;unfold nA;have m1:=bY he1 ha1;have m2:=bY he2 ha2;have m3:=bY he3 ha3;have n1:=bY (he1.mul ha1) hb1;have n2:=bY (he2.mul ha2) hb2;have n3:=bY (he3.mul ha3) hb3;have ps:∀{x y z:Int} {G:Gh} {Q:PK1},Q (.int (x+y+z)) G->bU T.cs .sum [.lst [.int x,.int y,.int z]] G Q:=λ{x y z _ _} q=>.inl ⟨_,[x,y,z].sum,rfl,rfl,by rw[aFX];exact q⟩;unfold z3L eyZ;walk_at "rd"
 refine⟨.inr trivial,3,[[.int e1,.int e2,.int e3],[.int a1,.int a2,.int a3],[.int b1,.int b2,.int b3]],rfl,.inl (by simp),?_⟩;rw[aBh];walk_at "rd"
 exact ps (Wk.here hq)
end
noncomputable def CA(b d:Int):Int:=b/((Int.gcd b d:Nat):Int)*d
def yK(hb:0<b)(hd:0<d)(bm:b ∣ m)(dm:d ∣ m):0<CA b d/\b ∣ CA b d/\d ∣ CA b d/\CA b d ∣ m:=by
 obtain⟨B,rfl⟩:=Int.eq_ofNat_of_zero_le (Int.le_of_lt hb);obtain⟨D,rfl⟩:=Int.eq_ofNat_of_zero_le (Int.le_of_lt hd);have hB:0<B:=by omega
 have hD:0<D:=by omega
 have e:CA (B:Int) (D:Int)=((Nat.lcm B D:Nat):Int):=by
   unfold CA;have:Int.gcd (B:Int) (D:Int)=Nat.gcd B D:=rfl;rw[this,<-Int.natCast_ediv,<-Int.natCast_mul,Nat.div_mul_right_comm (Nat.gcd_dvd_left B D)];rfl
 rw[e];refine⟨Int.natCast_pos.mpr (Nat.lcm_pos hB hD),Int.natCast_dvd_natCast.mpr (Nat.dvd_lcm_left B D),Int.natCast_dvd_natCast.mpr (Nat.dvd_lcm_right B D),?_⟩;have h1:=Int.ofNat_dvd_left.mp bm;have h2:=Int.ofNat_dvd_left.mp dm;exact Int.ofNat_dvd_left.mpr (Nat.lcm_dvd h1 h2)
def xL(h:Sm n m)(hm:0<m)(hb:0<b)(e:b ∣ m):Sm n b:=h.le (Int.le_of_lt hb) (Int.le_of_dvd hm e)
local macro_rules | `(tactic| walk_at "rd") => wk (wqB++" iP sQ dG jH kH gG iZ mU jO uE NF NE oE jZ fN dM sY fO GE aG")
local macro_rules | `(tactic| walk_at "rz") => wk (wqB++" iP sQ dG jH kH gG iZ mU jO uE NF NE sY fO GE")
section
variable{T:Tb}
noncomputable def gZ:CS:=.seq (.iff (.oo (.no (.tst (.blt .isi %[.var 0,.glo "tuple"|_]))) (.no (.tsb (.chn .LtE .LtE (.int 1) (.blt .len %[.var 0|_]) (.glo "MOST_LIGHTS"))))) .nev .nil) (.fr (.gt 2 %[.gn 1,.gn 2|_]) (.ien (.var 0)) (.iff (.no (.tst (.cal "is_shade" %[.var 2|_]))) .nev .nil))
def wF(h:PT T)(k:PL T):∀xs G Q,uJ xs G Q->wpS T gZ (aN Q) (aC 3 xs) G:=by
 rintro xs G Q ⟨rows,rfl,h1,h5,hq⟩;unfold gZ;have:=h.ty_tuple;have:=h.is_shade;have:=k.gv_ML;have n1:decide ((1:Int)<=((rows.map shV).length:Int))=true:=decide_eq_true (by rw[List.length_map];omega);have n2:decide (((rows.map shV).length:Int)<=5)=true:=decide_eq_true (by rw[List.length_map];omega);generalize eF:(CS.fr (.gt 2 (.cons (.gn 1) (.cons (.gn 2) .nil))) (.ien (.var 0)) (.iff (.no (.tst (.cal "is_shade" (.cons (.var 2) .nil)))) .nev .nil))=Z;walk_at "rd"
 subst eF;have hw:Wk Q .non G:=Wk.here hq;generalize eB:(CS.iff (.no (.tst (.cal "is_shade" (.cons (.var 2) .nil)))) .nev .nil)=B;walk_at "rd"
 refine cB (λp:PV×Nat=>PV.tup [.int (p.2:Int),p.1]) (λl Y G'=>G'=G/\(∃x1 x2,Y=[some (.tup (rows.map shV)),x1,x2])/\∀p∈l,∃r,p.1=shV r) (λ_ _ _ _=>trivial) (λp r Y G' R hh hR=>?_) (λY G' hh=>?_) ((rows.map shV).zipIdx) _ _ ⟨rfl,⟨_,_,rfl⟩,λp hp=>?_⟩
 . obtain⟨rfl,⟨x1,x2,rfl⟩,hl⟩:=hh;obtain⟨r0,e0⟩:=hl p (by simp);obtain⟨p1,p2⟩:=p;have e0:p1=shV r0:=e0;have hR:=hR _ _ ⟨rfl,⟨some (.int (p2:Int)),some (shV r0),rfl⟩,λq hq=>hl q (wCq _ hq)⟩;subst e0;subst eB;rw[GE] at hR;walk_at "rd"
 . rw[hh.1];exact hw
 . have:=List.fst_mem_of_mem_zipIdx hp;obtain⟨r,_,e⟩:=List.mem_map.mp this;exact⟨r,e.symm⟩
noncomputable def fR:CS:=.seq (.asg (.gn 1) (.int 1)) (.seq (.fr (.gn 2) (.isq (.var 0)) (.fr (.gn 3) (.isq (.var 2)) (.asg (.gn 1) (.bin .Mult (.bin .FloorDiv (.var 1) (.cal "common" %[.var 1,.idx (.var 3) (.int 1)|_])) (.idx (.var 3) (.int 1)))))) (.ret (.var 1)))
noncomputable def sbB:CS:=.fr (.gn 3) (.isq (.var 2)) (.asg (.gn 1) (.bin .Mult (.bin .FloorDiv (.var 1) (.cal "common" %[.var 1,.idx (.var 3) (.int 1)|_])) (.idx (.var 3) (.int 1))))
def aEd(h:PT T)(hb:0<b)(hm:0<m)(sm:Sm 5000 m)(bm:b ∣ m)(hr:Dv m r)
   (A:∀b',0<b'->b ∣ b'->Dv b' r->b' ∣ m->∀x3,D.nx [x0,some (.int b'),some (aG r),x3] G):wpS T sbB D [x0,some (.int b),some (aG r),x3] G:=by
 obtain⟨d1,d2,d3⟩:=hr;obtain⟨p1,q1,r1,s1⟩:=yK hb bA bm d1;obtain⟨p2,q2,r2,s2⟩:=yK p1 bA s1 d2;obtain⟨p3,q3,r3,s3⟩:=yK p2 bA s2 d3;have A:=A _ p3 (Int.dvd_trans q1 (Int.dvd_trans q2 q3)) ⟨Int.dvd_trans r1 (Int.dvd_trans q2 q3),Int.dvd_trans r2 q3,r3⟩ s3;have sb:=λ{b:Int} (h0:0<b) (e:b ∣ m)=>xL sm hm h0 e;have gp:∀{b d:Int},0<b->0<((Int.gcd b d:Nat):Int):=λ{b d} h0=>by
   have:Int.gcd b d≠0:=λz=>by have:=(Int.gcd_eq_zero_iff.mp z).1;omega
   omega
 have go:∀{b d:Int} {G:Gh} {Q:PK1},0<b->0<d->b ∣ m->d ∣ m->Q (.int (CA b d)) G->rA b ((Int.gcd b d:Nat):Int)/\mZ (b/((Int.gcd b d:Nat):Int)) d/\Q (.int (CA b d)) G:=λ{b d G Q} h0 hd hb hd' q=>by
   refine⟨FF (gp h0) ((sb h0 hb).le (Int.le_of_lt (gp h0)) (Int.le_of_dvd h0 (Int.gcd_dvd_left ..))),bY ((sb h0 hb).div (gp h0)) (sb hd hd'),q⟩
 have c:=h.common;have cc:∀{b d:Int} {G:Gh} {Q:PK1},0<b->0<d->Q (.int ((Int.gcd b d:Nat):Int)) G->T.S "common" [.int b,.int d] G Q:=λ{b d G Q} h0 hd q=>by
   rw[c];exact⟨b,d,rfl,by omega,by omega,q⟩
 clear c;unfold sbB;walk_at "rd"
 refine cc hb bA ?_;obtain⟨z1,z2,z3⟩:=go (Q:=λ_ _=>True) (G:=G) hb bA bm d1 trivial;refine⟨z1,z2,cc p1 bA ?_⟩;obtain⟨z1,z2,z3⟩:=go (Q:=λ_ _=>True) (G:=G) p1 bA s1 d2 trivial;refine⟨z1,z2,cc p2 bA ?_⟩;obtain⟨z1,z2,z3⟩:=go (Q:=λ_ _=>True) (G:=G) p2 bA s2 d3 trivial;exact⟨z1,z2,A _⟩
def rO(h:PT T):∀xs G Q,uO xs G Q->wpS T fR (aN Q) (aC 4 xs) G:=by
 rintro xs G Q ⟨rows,m,rfl,hm,sm,hr,hq⟩;unfold fR;generalize eB:(CS.fr (.gn 3) (.isq (.var 2)) (.asg (.gn 1) (.bin .Mult (.bin .FloorDiv (.var 1) (.cal "common" (.cons (.var 1) (.cons (.idx (.var 3) (.int 1)) .nil)))) (.idx (.var 3) (.int 1)))))=B;have eB:sbB=B:=eB;generalize eL:(PV.lst (rows.map aG))=L;have el:∀{R:(Gh->Prop)->List PV->Gh->Prop} {G:Gh},pA L G R=R (λ_=>True) (rows.map aG) G:=by subst eL;intros;rfl
 walk_at "rz"
 refine cB aG (λj4 Y G'=>G'=G/\∃done b x2 x3,rows=done++j4/\Y=[some L,some (.int b),x2,x3]/\0<b/\b ∣ m/\∀r∈done,Dv b r) (λ_ _ _ _=>trivial) (λr j4 Y G' R hh hR=>?_) (λY G' hh=>?_) rows _ _ ⟨rfl,[],1,_,_,rfl,rfl,by decide,Int.one_dvd m,by simp⟩
 . obtain⟨rfl,done,b,x2,x3,ed,rfl,hb,bm,hd⟩:=hh;subst eB;show wpS T sbB _ [some L,some (.int b),some (aG r),x3] _;refine aEd h hb hm sm bm (hr r (by rw[ed];simp)) λb' p1 p2 p3 p4 x3=>hR _ _ ⟨rfl,done++[r],b',_,_,by rw[ed];simp,rfl,p1,p4,λr' hr'=>?_⟩;rcases List.mem_append.mp hr' with z|z
   . obtain⟨y1,y2,y3⟩:=hd r' z;exact⟨Int.dvd_trans y1 p2,Int.dvd_trans y2 p2,Int.dvd_trans y3 p2⟩
   . rw[List.mem_singleton.mp z];exact p3
 . obtain⟨rfl,done,b,x2,x3,ed,rfl,hb,bm,hd⟩:=hh;rw[List.append_nil] at ed;subst ed;have hw:Wk Q (.int b) G':=Wk.here (hq b hb bm hd);walk_at "rz"
def rR(h:(q.den:Int) ∣ b):((q.num*(b/(q.den:Int)):Int):Rat)=q*b:=by
 obtain⟨c,rfl⟩:=h;have n0:(q.den:Int)≠0:=Int.ne_of_gt bA;rw[Int.mul_ediv_cancel_left _ n0,Rat.intCast_mul,Rat.intCast_mul];have e:=Rat.num_divInt_den q;rw[Rat.divInt_eq_div] at e;have nz:((q.den:Int):Rat)≠0:=λz=>n0 (Rat.intCast_eq_zero_iff.mp z);have e:(q.num:Rat)=q*((q.den:Int):Rat):=by
   have:=Rat.div_mul_cancel (a:=(q.num:Rat)) nz;rw[e] at this;exact this.symm
 rw[e,Rat.mul_assoc]
noncomputable def jE:CS:=.ret (.cmpr false (.gn 1) (.isq (.var 0)) .nil (.bin .Mult (.idx (.var 1) (.int 0)) (.bin .FloorDiv (.var 2) (.idx (.var 1) (.int 1)))) [none,none,some 1])
def BQ:∀xs G Q,CY xs G Q->wpS T jE (aN Q) (aC 2 xs) G:=by
 rintro xs G Q ⟨r,b,rfl,hb,sb,⟨d1,d2,d3⟩,⟨i1,i2,i3⟩,hq⟩;unfold jE;have q:Wk Q (.lst [.int (r.1.num*(b/(r.1.den:Int))),.int (r.2.1.num*(b/(r.2.1.den:Int))),.int (r.2.2.num*(b/(r.2.2.den:Int)))]) G:=Wk.here hq;have go:∀{q:Rat},(q.den:Int) ∣ b->In1 q->rA b (q.den:Int)/\mZ q.num (b/(q.den:Int)):=λ{q} hd ⟨h0,h1⟩=>by
   have s:Sm 5000 (q.den:Int):=xL sb hb bA hd;refine⟨FF bA s,bY (s.le (Rat.num_nonneg.mpr h0) ?_) (sb.div bA)⟩;have:=Rat.le_iff (a:=q) (b:=1) |>.mp h1;simpa using this
 obtain⟨x1,y1⟩:=go d1 i1;obtain⟨x2,y2⟩:=go d2 i2;obtain⟨x3,y3⟩:=go d3 i3;walk_at "rd"
end
def PR{ds:List PV}(h:i<=ds.length):lP ds none (some (i:Int))=ds.take i:=by
 unfold lP;rw[HT.CJ,HT.GY,Nat.min_eq_left h];simp
def MS{ds:List PV}(h:i<=ds.length):lP ds (some (i:Int)) none=ds.drop i:=by
 unfold lP;rw[HT.CJ,HT.GY,Nat.min_eq_left h];exact List.take_of_length_le (by rw[List.length_drop];omega)
def gN{xs:List PV}{i:Int}{j:Nat}{G:Gh}{Q:PK1}(e:i=(j:Int))(h:j<=xs.length):eY (.lst xs) (some i) none G Q=Q (.lst (xs.drop j)) G:=by rw[BY,e,MS h]
def pL{xs:List PV}{i:Int}{j:Nat}{G:Gh}{Q:PK1}(e:i=(j:Int))(h:j<=xs.length):eY (.lst xs) none (some i) G Q=Q (.lst (xs.take j)) G:=by rw[BY,e,PR h]
def h11:eY (.lst [a]) (some 1) none G Q=Q (.lst []) G:=gN (j:=1) rfl (by simp)
def h21:eY (.lst [a,b]) (some 1) none G Q=Q (.lst [b]) G:=gN (j:=1) rfl (by simp)
def h31:eY (.lst [a,b,c]) (some 1) none G Q=Q (.lst [b,c]) G:=gN (j:=1) rfl (by simp)
def l20:eY (.lst [a,b]) none (some 0) G Q=Q (.lst []) G:=pL (j:=0) rfl (by simp)
def l21:eY (.lst [a,b]) none (some 1) G Q=Q (.lst [a]) G:=pL (j:=1) rfl (by simp)
def u21:eY (.lst [a,b]) (some (0+1)) none G Q=Q (.lst [b]) G:=gN (j:=1) rfl (by simp)
def u22:eY (.lst [a,b]) (some (1+1)) none G Q=Q (.lst []) G:=gN (j:=2) rfl (by simp)
def l30:eY (.lst [a,b,c]) none (some 0) G Q=Q (.lst []) G:=pL (j:=0) rfl (by simp)
def l31:eY (.lst [a,b,c]) none (some 1) G Q=Q (.lst [a]) G:=pL (j:=1) rfl (by simp)
def l32:eY (.lst [a,b,c]) none (some 2) G Q=Q (.lst [a,b]) G:=pL (j:=2) rfl (by simp)
def u31:eY (.lst [a,b,c]) (some (0+1)) none G Q=Q (.lst [b,c]) G:=gN (j:=1) rfl (by simp)
def u32:eY (.lst [a,b,c]) (some (1+1)) none G Q=Q (.lst [c]) G:=gN (j:=2) rfl (by simp)
def u33:eY (.lst [a,b,c]) (some (2+1)) none G Q=Q (.lst []) G:=gN (j:=3) rfl (by simp)
def aCR(h:Sm k a):Sm k (dtZ [[a]]):=h
def lS(ha:Sm k a)(hb:Sm k b)(hc:Sm k c)(hd:Sm k d):Sm (2*k+1) (dtZ [[a,b],[c,d]]):=(ha.mul hd).sub (hb.mul hc) ooq
def aBp(ha:Sm k a)(hb:Sm k b)(hc:Sm k c)(hd:Sm k d)(he:Sm k e)(hf:Sm k f)(hg:Sm k g)(hh:Sm k h)(hi:Sm k i):Sm (3*k+3) (dtZ [[a,b,c],[d,e,f],[g,h,i]]):=by
 have x:=(ha.mul (lS he hf hh hi)).mono (show k+(2*k+1)<=3*k+1 by omega);have y:=(hb.mul (lS hd hf hg hi)).mono (show k+(2*k+1)<=3*k+1 by omega);have z:=(hc.mul (lS hd he hg hh)).mono (show k+(2*k+1)<=3*k+1 by omega);exact(x.sub y (show 3*k+1+1<=3*k+2 by omega)).add (z.mono ooq) ooq
local macro_rules | `(tactic| walk_at "rd") => wk (wqB++" jS tO tX sX List.map_cons List.map_nil eQ dG eX eO dH jG aX hU gC at0 UA GC HX GT exists_eq' oE jZ fN dM HJ GM sz1 av0 av1 avi h11 h21 h31 l20 l21 u21 u22 l30 l31 l32 u31 u32 u33")
section
variable{T:Tb}
noncomputable def bB:CS:=.seq (.iff (.tsb (.cmp .Eq (.blt .len %[.var 0|_]) (.int 0))) (.ret (.int 1)) .nil) (.seq (.asg (.gn 1) (.int 0)) (.seq (.asg (.gn 2) (.int 1)) (.seq (.fr (.gt 2 %[.gn 3,.gn 4|_]) (.iel (.idx (.var 0) (.int 0))) (.seq (.aug 1 (.bin .Mult (.bin .Mult (.var 2) (.var 4)) (.cal "determinant" %[.cmpr false (.gn 1) (.isq (.sli (.var 0) (.tst (.int 1)) .nil)) .nil (.bin .Add (.sli (.var 1) .nil (.tst (.var 2))) (.sli (.var 1) (.tst (.bin .Add (.var 2) (.int 1))) .nil)) [none,none,some 3]|_]))) (.asg (.gn 2) (.neg (.var 2))))) (.ret (.var 1)))))
def aFn(n:Nat)(hd:T.S "determinant"=nB n)(h3:n<3):∀xs G Q,nB (n+1) xs G Q->wpS T bB (aN Q) (aC 5 xs) G:=by
 rintro xs G Q ⟨rs,rfl,hs,hb,hq⟩;have cd0:∀{rs:List (List Int)} {x:PV} {G:Gh} {Q:PK1},x= .lst (rs.map iL)->Sq n rs->(∀r∈rs,∀x∈r,Sm 5000 x)->Q (.int (dtZ rs)) G->T.S "determinant" [x] G Q:=λ{rs x G Q} e h1 h2 q=>by
   subst e;rw[hd];exact⟨rs,rfl,h1,h2,q⟩
 clear hd;have s1:Sm 1 1:=by unfold Sm;decide
 have s2:Sm 1 (-1):=by unfold Sm;decide
 unfold bB;have e1:∀{a:PV},nM [a]=[.tup [.int 0,a]]:=λ{_}=>rfl;have cd:Hd (∀{rs:List (List Int)} {x:PV} {G:Gh} {Q:PK1},x= .lst (rs.map iL)->Sq n rs->(∀r∈rs,∀x∈r,Sm 5000 x)->Q (.int (dtZ rs)) G->T.S "determinant" [x] G Q):=⟨cd0⟩;clear cd0;rcases hs with rfl|⟨h1,a,rfl⟩|⟨h1,a,b,c,d,rfl⟩|⟨h1,a,b,c,d,e,f,g,h,i,rfl⟩
 . have hq:Q (.int 1) G:=hq;clear hb cd;walk_at "rd"
 . have ha:Sm 5000 a:=hb [a] (by simp) _ (by simp);have e:(0+1*a*dtZ []:Int)=dtZ [[a]]:=by simp only[dtZ];omega
   have hw:Wk Q (.int (0+1*a*dtZ [])) G:=Wk.here (by rw[e];exact hq);clear e;have q:Sq n []:=.inl rfl;clear hb hq;simp only[iL,List.map_cons,List.map_nil];walk_at "rd"
   rw[j9 ddq];refine⟨_,rfl,?_⟩;walk_at "rd"
   exact⟨bY s1 ha,Nat.zero_le _,cd.1 (rs:=[]) rfl q (by simp) ⟨bY (s1.mul ha) (show Sm 1 (dtZ []) from s1),_,rfl,hw⟩⟩
 . have q:∀x,Sq n [[x]]:=λx=>.inr (.inl ⟨by omega,x,rfl⟩);have ha:Sm 5000 a:=hb [a,b] (by simp) _ (by simp);have hb':Sm 5000 b:=hb [a,b] (by simp) _ (by simp);have hc:Sm 5000 c:=hb [c,d] (by simp) _ (by simp);have hd:Sm 5000 d:=hb [c,d] (by simp) _ (by simp);clear hb;simp only[iL,List.map_cons,List.map_nil];walk_at "rd"
   rw[j9 ddq];refine⟨_,rfl,?_⟩;walk_at "rd"
   have e:(0+1*a*dtZ [[d]] + -1*b*dtZ [[c]]:Int)=dtZ [[a,b],[c,d]]:=by simp only[dtZ];grind
   have hw:Wk Q (.int (0+1*a*dtZ [[d]] + -1*b*dtZ [[c]])) G:=Wk.here (by rw[e];exact hq);exact⟨bY s1 ha,cd.1 (rs:=[[d]]) rfl (q d) (by simp[hd]) ⟨bY (s1.mul ha) hd,_,rfl,bY s2 hb',cd.1 (rs:=[[c]]) rfl (q c) (by simp[hc]) ⟨bY (s2.mul hb') hc,_,rfl,hw⟩⟩⟩
 . have q:∀x y z w,Sq n [[x,y],[z,w]]:=λx y z w=>.inr (.inr (.inl ⟨by omega,x,y,z,w,rfl⟩));simp only[iL,List.map_cons,List.map_nil];walk_at "rd"
   rw[j9 ddq];refine⟨_,rfl,?_⟩;walk_at "rd"
   have ⟨ha,hb',hc⟩:Sm 5000 a/\Sm 5000 b/\Sm 5000 c:=⟨hb [a,b,c] (by simp) _ (by simp),hb [a,b,c] (by simp) _ (by simp),hb [a,b,c] (by simp) _ (by simp)⟩;have ⟨hd,he,hf⟩:Sm 5000 d/\Sm 5000 e/\Sm 5000 f:=⟨hb [d,e,f] (by simp) _ (by simp),hb [d,e,f] (by simp) _ (by simp),hb [d,e,f] (by simp) _ (by simp)⟩;have ⟨hg,hh,hi⟩:Sm 5000 g/\Sm 5000 h/\Sm 5000 i:=⟨hb [g,h,i] (by simp) _ (by simp),hb [g,h,i] (by simp) _ (by simp),hb [g,h,i] (by simp) _ (by simp)⟩;have ez:(0+1*a*dtZ [[e,f],[h,i]] + -1*b*dtZ [[d,f],[g,i]] + - -1*c*dtZ [[d,e],[g,h]]:Int)=dtZ [[a,b,c],[d,e,f],[g,h,i]]:=by simp only[dtZ];grind
   have hw:Wk Q (.int (0+1*a*dtZ [[e,f],[h,i]] + -1*b*dtZ [[d,f],[g,i]] + - -1*c*dtZ [[d,e],[g,h]])) G:=Wk.here (by rw[ez];exact hq);have s3:Sm 1 (- -1):=s1;exact⟨bY s1 ha,cd.1 (rs:=[[_,_],[_,_]]) rfl (q _ _ _ _) (by simp[*]) ⟨bY (s1.mul ha) (lS he hf hh hi),_,rfl,bY s2 hb',cd.1 (rs:=[[_,_],[_,_]]) rfl (q _ _ _ _) (by simp[*]) ⟨bY (s2.mul hb') (lS hd hf hg hi),_,rfl,
     bY s3 hc,cd.1 (rs:=[[_,_],[_,_]]) rfl (q _ _ _ _) (by simp[*]) ⟨bY (s3.mul hc) (lS hd he hg hh),_,rfl,hw⟩⟩⟩⟩
def aA2:∀xs G Q,nB 0 xs G Q->wpS T bB (aN Q) (aC 5 xs) G:=by
 rintro xs G Q ⟨rs,rfl,rfl|⟨h1,_⟩|⟨h1,_⟩|⟨h1,_⟩,hb,hq⟩
 . unfold bB;have hq:Q (.int 1) G:=hq;clear hb;walk_at "rd"
 all_goals exact absurd h1 ddq
end
theorem SA:(zsL (s0::r))= .lst (z3L s0::r.map z3L):=rfl
def sE(ha:Z3B n a)(hb:Z3B n b):Z3B (n+1) (aB 1 a b):=by
 have z:∀{x y:Int},Sm n x->Sm n y->Sm (n+1) (1*y-x):=λ{x y} hx hy=>by rw[Int.one_mul];exact hy.sub hx (Nat.le_refl _)
 exact⟨z ha.1 hb.1,z ha.2.1 hb.2.1,z ha.2.2 hb.2.2⟩
def sC(he:Z3B 7 e)(ha:Z3B n a)(hb:Z3B m b):Sm (n+m+9) (aR e a b):=by
 have x:=(he.1.mul ha.1).mul hb.1;have y:=(he.2.1.mul ha.2.1).mul hb.2.1;have z:=(he.2.2.mul ha.2.2).mul hb.2.2;exact(x.add y (show 7+n+m+1<=n+m+8 by omega)).add (z.mono ooq) ooq
local macro_rules | `(tactic| walk_at "rz") => wk (wqB++" jS tO tX sX List.map_cons List.map_nil eQ dG eX eO dH jG aX hU gC at0 UA GC HX GT exists_eq' HJ GM sz1 av0 av1 avi")
section
variable{T:Tb}
noncomputable def ttA:CE:=.cmpr false (.gn 1) (.isq (.sli (.var 0) (.tst (.int 1)) .nil)) .nil (.cak "gone" %[.idx (.var 2) (.int 0),.var 1|_] .nil [.arg 0,.arg 1,.int 1]) [none,none,some 0]
noncomputable def ttB:CE:=.cmpr false (.gn 1) (.isq (.var 3)) .nil (.cmpr false (.gn 1) (.isq (.var 2)) .nil (.cal "product" %[.var 3,.var 1,.var 2|_]) [none,none,some 3,some 1]) [none,none,some 3,some 2]
noncomputable def ttC:CE:=.cmpr false (.gn 1) (.isq (.var 3)) .nil (.cal "product" %[.var 1,.var 3,.var 2|_]) [none,none,some 2,some 6]
noncomputable def ttD:CE:=.cmpr false (.gn 1) (.irg %[.blt .len %[.var 3|_]|_]) .nil (.cal "determinant" %[.bin .Add (.bin .Add (.sli (.var 2) .nil (.tst (.var 1))) (.lst false %[.var 3|_])) (.sli (.var 2) (.tst (.bin .Add (.var 1) (.int 1))) .nil)|_]) [none,none,some 4,some 7]
def gU:CS:=.seq (.asg (.gn 3) ttA) (.seq (.asg (.gn 4) ttB) (.seq (.asg (.gn 5) (.cal "determinant" %[.var 4|_])) (.seq (.iff (.tsb (.cmp .Eq (.var 5) (.int 0))) (.ret .non) .nil) (.seq (.asg (.gn 6) (.cak "gone" %[.idx (.var 0) (.int 0),.var 1|_] .nil [.arg 0,.arg 1,.int 1])) (.seq (.asg (.gn 7) ttC) (.seq (.asg (.gn 8) ttD) (.ret (.bin .Add (.lst false %[.bin .Sub (.var 5) (.blt .sum %[.var 8|_])|_]) (.var 8)))))))))
def aDV(k:PL T){s0:Z3}{r:List Z3}{Y:PSt}{G:Gh}{Q:PK1}(h0:Z3B 200 s0)(hr:∀s∈r,Z3B 200 s)(h3:r.length<=3)(q:Q (zsL (r.map (aB 1 s0))) G):wpE T ttA (some (zsL (s0::r))::Y) G Q:=by
 have kg:∀{a b:Z3} {G:Gh} {Q:PK1},Z3B 200 b->Q (z3L (aB 1 a b)) G->T.S "gone" [z3L a,z3L b,.int 1] G Q:=λ{a b G Q} hb q=>by
   rw[k.gone];exact⟨a,b,1,rfl,smK ddq ddq ddq,hb.mono ddq,q⟩
 unfold ttA;rw[SA];have e:∀{G:Gh} {Q:PK1},eY (.lst (z3L s0::r.map z3L)) (some 1) none G Q=Q (.lst (r.map z3L)) G:=λ{G Q}=>gN (j:=1) rfl (by simp);have lz:(r.map z3L).length<=sizeLine:=by rw[List.length_map];exact szN ooq
 generalize eL:(PV.lst (z3L s0::r.map z3L))=L at *;walk_at "rz"
 refine aQ z3L (λs=>z3L (aB 1 s0 s)) (λY=>∃x1,Y=[none,x1,some L]) trivial r [] _ _ ⟨none,rfl⟩ (λx hx Y R N hh hR=>?_) ?_
 . obtain⟨x1,rfl⟩:=hh;have hR:=hR _ ⟨some (z3L x),rfl⟩;subst eL;clear e lz;walk_at "rz"
 . rw[List.nil_append];unfold zsL at q;rw[List.map_map] at q;exact q
theorem yW:pA (zsL ss) G R=R (λ_=>True) (ss.map z3L) G:=rfl
theorem XL:pA (iL ss) G R=R (λ_=>True) (ss.map .int) G:=rfl
def dF{α:Type}{f:α->PV}{l:List α}(h:l.length<=1000):(l.map f).length<=sizeLine:=by rw[List.length_map];exact szN h
def aDq(k:PL T){E:List Z3}(hE:∀x∈E,Z3B 201 x)(he:EyZ e)(h3:E.length<=3)(hts:∀Y G R,ts Y G R=R true G)(ha:Z3B 201 a)(q:Q (E.map λb=>.int (aR e a b)) G) :
   cL (λ_=>True) (wpG T (.gn 1)) ts (wpE T (.cal "product" (.cons (.var 3) (.cons (.var 1) (.cons (.var 2) .nil))))) (E.map z3L) [] [none,none,some (eyZ e),some (z3L a)] G Q:=by
 have kp:∀{a b:Z3} {G:Gh} {Q:PK1},Z3B 201 a->Z3B 201 b->Q (.int (aR e a b)) G->T.S "product" [z3L a,z3L b,eyZ e] G Q:=λ{a b G Q} ha hb q=>by
   rw[k.prod];exact⟨a,b,e,rfl,ha.mono ddq,hb.mono ddq,he.sm.mono ddq,q⟩
 refine aQ z3L (λb=>.int (aR e a b)) (λY=>∃x1,Y=[none,x1,some (eyZ e),some (z3L a)]) trivial E [] _ _ ⟨none,rfl⟩ (λx hx Y R N hh hR=>?_) (by rw[List.nil_append];exact q);obtain⟨x1,rfl⟩:=hh;have hR:=hR _ ⟨some (z3L x),rfl⟩;have hx:=hE x hx;rw[show(wpG T (.gn 1))=λx Y G Q=>Q (Y.set 1 (some x)) G from rfl];dsimp only;rw[hts,ja rfl];clear hts hE;walk_at "rz"
def fA(e:Z3)(E:List Z3):List (List Int):=E.map λa=>E.map λb=>aR e a b
local macro_rules | `(tactic| walk_at "rz") => wk (wqB++" jS tO tX sX List.map_cons List.map_nil eQ dG eX eO dH jG aX hU gC at0 UA GC HX GT exists_eq' HJ GM sz1 av0 av1 avi yW")
def aDR(k:PL T){E:List Z3}{Y:PSt}{Q:PK1}(hE:∀x∈E,Z3B 201 x)(he:EyZ e)(h3:E.length<=3)(q:Q (.lst ((fA e E).map iL)) G):wpE T ttB (x0::x1::some (eyZ e)::some (zsL E)::Y) G Q:=by
 have lz:(E.map z3L).length<=sizeLine:=dF ooq;unfold ttB;generalize eI:(CE.cmpr false (.gn 1) (.isq (.var 2)) .nil (.cal "product" (.cons (.var 3) (.cons (.var 1) (.cons (.var 2) .nil)))) [none,none,some 3,some 1])=I;walk_at "rz"
 refine aQ z3L (λa=>iL (E.map λb=>aR e a b)) (λY=>∃x1,Y=[none,x1,some (zsL E),some (eyZ e)]) trivial E [] _ _ ⟨none,rfl⟩ (λx hx Y R N hh hR=>?_) ?_
 . obtain⟨x1,rfl⟩:=hh;have hR:=hR _ ⟨some (z3L x),rfl⟩;subst eI;have hw:=λ{Q:List PV->Gh->Prop} q=>aDq (T:=T) k hE he h3 (G:=G) (Q:=Q) (ts:=wpT T .nil) (λ_ _ _=>rfl) (hE x hx) q;have hw:Hd (∀{Q:List PV->Gh->Prop},Q (E.map λb=>.int (aR e x b)) G->cL (λ_=>True) (wpG T (.gn 1)) (wpT T .nil) (wpE T (.cal "product" (.cons (.var 3) (.cons (.var 1) (.cons (.var 2) .nil))))) (E.map z3L) [] [none,none,some (eyZ e),some (z3L x)] G Q):=⟨hw⟩;have hR:Hd (R (iL (E.map λb=>aR e x b)) [none,some (z3L x),some (zsL E),some (eyZ e)] G):=⟨hR⟩;clear hE;generalize eP:(CE.cal "product" (.cons (.var 3) (.cons (.var 1) (.cons (.var 2) .nil))))=P at *;walk_at "rz"
   refine hw.o (Q:=λys G2=>R (.lst ys) _ G2) ?_;have:=hR.o;unfold iL at this;rw[List.map_map] at this;exact this
 . rw[List.nil_append];unfold fA at q;rw[List.map_map] at q;exact q
def dJ(e w:Z3)(E:List Z3):List Int:=E.map λa=>aR e a w
def aEN(k:PL T){E:List Z3}{e w:Z3}{x0 x1 x4 x5:Option PV}{Y:PSt}{G:Gh}{Q:PK1}(hE:∀x∈E,Z3B 201 x)(he:EyZ e)(hw:Z3B 201 w)(h3:E.length<=3)(q:Q (iL (dJ e w E)) G):wpE T ttC (x0::x1::some (eyZ e)::some (zsL E)::x4::x5::some (z3L w)::Y) G Q:=by
 have lz:(E.map z3L).length<=sizeLine:=dF ooq;have kp:∀{a:Z3} {G:Gh} {Q:PK1},Z3B 201 a->Q (.int (aR e a w)) G->T.S "product" [z3L a,z3L w,eyZ e] G Q:=λ{a G Q} ha q=>by
   rw[k.prod];exact⟨a,w,e,rfl,ha.mono ddq,hw.mono ddq,he.sm.mono ddq,q⟩
 unfold ttC;walk_at "rz"
 refine aQ z3L (λa=>.int (aR e a w)) (λY=>∃x1,Y=[none,x1,some (eyZ e),some (z3L w)]) trivial E [] _ _ ⟨none,rfl⟩ (λx hx Y R N hh hR=>?_) ?_
 . obtain⟨x1,rfl⟩:=hh;have hR:=hR _ ⟨some (z3L x),rfl⟩;have hx:=hE x hx;clear hE;walk_at "rz"
 . rw[List.nil_append];unfold iL dJ at q;rw[List.map_map] at q;exact q
noncomputable def lB(tb:List (List Int))(w:List Int)(p:Nat):List (List Int):=tb.take p++[w]++tb.drop (p+1)
theorem EV:∀{E:List Z3},E.length<=3->Sq 3 (fA e E)/\∀w p,p<E.length->Sq 3 (lB (fA e E) (dJ e w E) p)
 | [],_=>⟨.inl rfl,λw p h=>absurd h (by simp)⟩
 | [a],_=>⟨.inr (.inl ⟨by decide,_,rfl⟩),λw p h=>by
     have:p=0:=by simp at h;omega
     subst this;exact .inr (.inl ⟨by decide,_,rfl⟩)⟩
 | [a,b],_=>⟨.inr (.inr (.inl ⟨by decide,_,_,_,_,rfl⟩)),λw p h=>by
     have:p=0∨p=1:=by simp at h;omega
     rcases this with rfl|rfl<;>exact .inr (.inr (.inl ⟨by decide,_,_,_,_,rfl⟩))⟩
 | [a,b,c],_=>⟨.inr (.inr (.inr ⟨by decide,_,_,_,_,_,_,_,_,_,rfl⟩)),λw p h=>by
     have:p=0∨p=1∨p=2:=by simp at h;omega
     rcases this with rfl|rfl|rfl<;>exact .inr (.inr (.inr ⟨by decide,_,_,_,_,_,_,_,_,_,rfl⟩))⟩
 | _::_::_::_::_,h=>absurd h (by simp only[List.length_cons];omega)
def MY(hE:∀x∈E,Z3B 201 x)(he:EyZ e)(hw:Z3B 201 w):(∀r∈fA e E,∀x∈r,Sm 5000 x)/\∀x∈dJ e w E,Sm 5000 x:=by
 constructor
 . intro r hr x hx;obtain⟨a,ha,rfl⟩:=List.mem_map.mp hr;obtain⟨b,hb,rfl⟩:=List.mem_map.mp hx;exact(sC he.sm (hE a ha) (hE b hb)).mono ddq
 . intro x hx;obtain⟨a,ha,rfl⟩:=List.mem_map.mp hx;exact(sC he.sm (hE a ha) hw).mono ddq
def aEu(k:PL T){E:List Z3}{e w:Z3}{x0 x1 x2 x5 x6:Option PV}{Y:PSt}{G:Gh}{Q:PK1}(hE:∀x∈E,Z3B 201 x)(he:EyZ e)(hw:Z3B 201 w)(h3:E.length<=3)(q:Q (iL ((List.range E.length).map λp=>dtZ (lB (fA e E) (dJ e w E) p))) G) :
   wpE T ttD (x0::x1::x2::some (zsL E)::some (.lst ((fA e E).map iL))::x5::x6::some (iL (dJ e w E))::Y) G Q:=by
 have cd:∀{rs:List (List Int)} {x:PV} {G:Gh} {Q:PK1},x= .lst (rs.map iL)->Sq 3 rs->(∀r∈rs,∀x∈r,Sm 5000 x)->Q (.int (dtZ rs)) G->T.S "determinant" [x] G Q:=λ{rs x G Q} e h1 h2 q=>by
   subst e;rw[k.det];exact⟨rs,rfl,h1,h2,q⟩
 obtain⟨_,sq⟩:=EV (e:=e) h3;obtain⟨b1,b2⟩:=MY hE he hw;have lt:(fA e E).length=E.length:=by unfold fA;rw[List.length_map]
 have sq:=sq w;clear hE hw he;generalize fA e E=tb at *;generalize dJ e w E=ws at *;have pl:∀{G:Gh} {Q:PK1},bU T.cs .len [zsL E] G Q=Q (.int (E.length:Int)) G:=λ{G Q}=>by unfold zsL;rw[hU,List.length_map]
 have z0: -(2^62)<=(E.length:Int)/\(E.length:Int)<2^62:=by omega
 obtain⟨z1,z2⟩:=z0;have z3:(iW 0 (E.length:Int).toNat).length<=sizeLine:=by unfold iW;rw[List.length_map,List.length_range];exact szN ooq
 unfold ttD;generalize eI:(CE.cal "determinant" (.cons (.bin .Add (.bin .Add (.sli (.var 2) .nil (.tst (.var 1))) (.lst false (.cons (.var 3) .nil))) (.sli (.var 2) (.tst (.bin .Add (.var 1) (.int 1))) .nil)) .nil))=I;have hq:Hd (Q (iL ((List.range E.length).map λp=>dtZ (lB tb ws p))) G):=⟨q⟩;have cd:Hd (∀{rs:List (List Int)} {x:PV} {G:Gh} {Q:PK1},x= .lst (rs.map iL)->Sq 3 rs->(∀r∈rs,∀x∈r,Sm 5000 x)->Q (.int (dtZ rs)) G->T.S "determinant" [x] G Q):=⟨cd⟩;have sq:Hd (∀p,p<E.length->Sq 3 (lB tb ws p)):=⟨sq⟩;have b1:Hd (∀r∈tb,∀x∈r,Sm 5000 x):=⟨b1⟩;have b2:Hd (∀x∈ws,Sm 5000 x):=⟨b2⟩;clear q;walk_at "rz"
 have er:iW 0 (E.length:Int).toNat=(List.range E.length).map λ(p:Nat)=>PV.int (p:Int):=by
   unfold iW;rw[Int.toNat_natCast];exact List.map_congr_left λp _=>by rw[Int.zero_add]
 rw[er];refine⟨z1,z2,?_⟩;refine aQ (chk:=λ_=>True) (G:=G) (λ(p:Nat)=>PV.int (p:Int)) (λp=>.int (dtZ (lB tb ws p))) (λY=>∃x1,Y=[none,x1,some (.lst (tb.map iL)),some (iL ws)]) trivial (List.range E.length) [] _ _ ⟨none,rfl⟩ (λp hp Y R N hh hR=>?_) ?_
 . obtain⟨x1,rfl⟩:=hh;have hR:=hR _ ⟨some (.int (p:Int)),rfl⟩;have hp:=List.mem_range.mp hp;subst eI;have s1:∀{G:Gh} {Q:PK1},eY (.lst (tb.map iL)) none (some (p:Int)) G Q=Q (.lst ((tb.map iL).take p)) G:=λ{G Q}=>pL rfl (by rw[List.length_map];omega);have s2:∀{G:Gh} {Q:PK1},eY (.lst (tb.map iL)) (some ((p:Int)+1)) none G Q=Q (.lst ((tb.map iL).drop (p+1))) G:=λ{G Q}=>gN rfl (by rw[List.length_map];omega);have hR:Hd (R (.int (dtZ (lB tb ws p))) [none,some (.int (p:Int)),some (.lst (tb.map iL)),some (iL ws)] G):=⟨hR⟩;clear er z3 hq;walk_at "rz"
   refine⟨szN (by rw[List.length_take,List.length_map];omega),szN (by rw[List.length_append,List.length_take,List.length_drop,List.length_map,List.length_singleton];omega),cd.o (rs:=lB tb ws p) ?_ (sq.o p hp) ?_ hR.o⟩
   . unfold lB;rw[List.map_append,List.map_append,List.map_take,List.map_drop];rfl
   . intro r hr x hx;rcases List.mem_append.mp hr with z|z
     . rcases List.mem_append.mp z with z|z
       . exact b1.o r (List.mem_of_mem_take z) x hx
       . rw[List.mem_singleton.mp z] at hx;exact b2.o x hx
     . exact b1.o r (List.mem_of_mem_drop z) x hx
 . rw[List.nil_append];have:=hq.o;unfold iL at this;rw[List.map_map] at this;exact this
theorem uS:∀{ns:List Int},EQ (ns.map PV.int)=some ns.sum
 | []=>rfl
 | a::r=>by
   rw[List.map_cons,List.sum_cons];unfold EQ;rw[uS (ns:=r)];rfl
def xV{cs:List J6}{ns:List Int}{G:Gh}{Q:PK1}(q:Q (.int ns.sum) G):bU cs .sum [iL ns] G Q:=.inl ⟨_,ns.sum,rfl,uS,q⟩
def sW:gB e goal (s0::r)=if dtZ (fA e (r.map (aB 1 s0)))=0 then none else some ((dtZ (fA e (r.map (aB 1 s0)))-((List.range (r.map (aB 1 s0)).length).map λp=>dtZ (lB (fA e (r.map (aB 1 s0))) (dJ e (aB 1 s0 goal) (r.map (aB 1 s0))) p)).sum)::(List.range (r.map (aB 1 s0)).length).map λp=>dtZ (lB (fA e (r.map (aB 1 s0))) (dJ e (aB 1 s0 goal) (r.map (aB 1 s0))) p)):=by
 unfold gB fA lB dJ;rw[List.length_map]
def vT(k:PL T):∀xs G Q,tD xs G Q->wpS T gU (aN Q) (aC 9 xs) G:=by
 rintro xs G Q ⟨spots,goal,e,rfl,hne,h4,hs,hg,he,hq⟩;cases spots with
 | nil=>exact absurd rfl hne
 | cons s0 r =>
 have h0:=hs s0 (by simp);have hr:∀s∈r,Z3B 200 s:=λs h=>hs s (wCq _ h);have h3:r.length<=3:=by rw[List.length_cons] at h4;omega
 rw[sW] at hq;have hE:∀x∈r.map (aB 1 s0),Z3B 201 x:=λx hx=>by
   obtain⟨s,h,rfl⟩:=List.mem_map.mp hx;exact sE h0 (hr s h)
 have l3:(r.map (aB 1 s0)).length<=3:=by rw[List.length_map];exact h3
 have hw:=sE h0 hg;obtain⟨sq,_⟩:=EV (e:=e) l3;obtain⟨b1,_⟩:=MY hE he hw;have A:Hd (∀{Y:PSt} {G:Gh} {Q:PK1},Q (zsL (r.map (aB 1 s0))) G->wpE T ttA (some (zsL (s0::r))::Y) G Q):=⟨λq=>aDV k h0 hr h3 q⟩;have B:Hd (∀{x0 x1:Option PV} {Y:PSt} {G:Gh} {Q:PK1},Q (.lst ((fA e (r.map (aB 1 s0))).map iL)) G->wpE T ttB (x0::x1::some (eyZ e)::some (zsL (r.map (aB 1 s0)))::Y) G Q):=⟨λq=>aDR k hE he l3 q⟩;have C:Hd (∀{x0 x1 x4 x5:Option PV} {Y:PSt} {G:Gh} {Q:PK1},Q (iL (dJ e (aB 1 s0 goal) (r.map (aB 1 s0)))) G->wpE T ttC (x0::x1::some (eyZ e)::some (zsL (r.map (aB 1 s0)))::x4::x5::some (z3L (aB 1 s0 goal))::Y) G Q):=⟨λq=>aEN k hE he hw l3 q⟩;have D:Hd (∀{x0 x1 x2 x5 x6:Option PV} {Y:PSt} {G:Gh} {Q:PK1},Q (iL ((List.range (r.map (aB 1 s0)).length).map λp=>dtZ (lB (fA e (r.map (aB 1 s0))) (dJ e (aB 1 s0 goal) (r.map (aB 1 s0))) p))) G->
     wpE T ttD (x0::x1::x2::some (zsL (r.map (aB 1 s0)))::some (.lst ((fA e (r.map (aB 1 s0))).map iL))::x5::x6::some (iL (dJ e (aB 1 s0 goal) (r.map (aB 1 s0))))::Y) G Q):=⟨λq=>aEu k hE he hw l3 q⟩
 have cd:Hd (∀{G:Gh} {Q:PK1},Q (.int (dtZ (fA e (r.map (aB 1 s0))))) G->T.S "determinant" [.lst ((fA e (r.map (aB 1 s0))).map iL)] G Q):=⟨λq=>by rw[k.det];exact⟨_,rfl,sq,b1,q⟩⟩;have kg:Hd (∀{G:Gh} {Q:PK1},Q (z3L (aB 1 s0 goal)) G->T.S "gone" [z3L s0,z3L goal,.int 1] G Q):=⟨λq=>by rw[k.gone];exact⟨s0,goal,1,rfl,smK ddq ddq ddq,hg.mono ddq,q⟩⟩;have i0:∀{G:Gh} {Q:PK1},gR (zsL (s0::r)) (.int 0) G Q=Q (z3L s0) G:=λ{G Q}=>by
   unfold zsL;rw[aX,List.map_cons,at0];exact propext ⟨by rintro⟨v,e,q⟩;cases e;exact q,λq=>⟨_,rfl,q⟩⟩
 clear sq b1 h0 hr hE hw hs hg;generalize fA e (r.map (aB 1 s0))=tb at *;generalize eT:((List.range (r.map (aB 1 s0)).length).map λp=>dtZ (lB tb (dJ e (aB 1 s0 goal) (r.map (aB 1 s0))) p))=ts at *;have lt:ts.length<=3:=by rw[<-eT,List.length_map,List.length_range];exact l3
 clear eT;generalize dJ e (aB 1 s0 goal) (r.map (aB 1 s0))=ws at *;generalize aB 1 s0 goal=w at *;clear l3;generalize r.map (aB 1 s0)=E at *;unfold gU;have ps:Hd (∀{ns:List Int} {G:Gh} {Q:PK1},Q (.int ns.sum) G->bU T.cs .sum [iL ns] G Q):=⟨xV⟩;have hq:=Hd.mk hq;have hq0:Hd (Q (QF (if dtZ tb=0 then none else some ((dtZ tb-ts.sum)::ts))) G):=hq;clear hq;have hq:=hq0;walk_at "rz"
 refine A.o ?_
 (try walk_at "rz")
 refine B.o ?_
 (try walk_at "rz")
 refine cd.o ?_
 (try walk_at "rz")
 by_cases z:dtZ tb=0
 . rw[ja z];have:=hq.o;rw[ja z] at this;exact Wk.here this
 . rw[j9 z];refine kg.o ?_
   (try walk_at "rz")
   refine C.o ?_
   (try walk_at "rz")
   refine D.o ?_
   (try walk_at "rz")
   refine ps.o ?_
   (try walk_at "rz")
   have:=hq.o;rw[j9 z] at this;unfold iL;rw[eO];exact⟨szN (by rw[List.length_singleton,List.length_map];omega),Wk.here this⟩
end
def BA{α β:Type}{f:α->PV}{g:β->PV}{ps:List α}{ts:List β}(h1:ps.length=n)(h2:ts.length=n):yS n [ps.map f,ts.map g]=(ps.zip ts).map λp=>.tup [f p.1,g p.2]:=by
 subst h1;unfold yS;refine List.ext_getElem (by simp[h2]) λi h _=>?_;have hi:i<ps.length:=by simpa using h
 simp[List.getD,wHq,hi,h2]
def EG(h:p<n):ixN n (p:Int)=some p:=by
 unfold ixN;rw[ja ooq,ja ooq];rfl
theorem AA:∀{bs:List Bool},vW (bs.map PV.bl)=some (bs.all id)
 | []=>rfl
 | b::r=>by
   rw[List.map_cons,List.all_cons];unfold vW;rw[AA (bs:=r)];rfl
def WG:(List.replicate n [PV.int 0]).flatten=(List.replicate n (0:Int)).map PV.int:=by
 induction n with
 | zero=>rfl
 | succ n ih=>rw[List.replicate_succ,List.replicate_succ,List.flatten_cons,List.map_cons,ih];rfl
def iJ{n:Nat}:iW 0 ((n:Int)).toNat=(List.range n).map λ(p:Nat)=>PV.int (p:Int):=by
 unfold iW;rw[Int.toNat_natCast];exact List.map_congr_left λp _=>by rw[Int.zero_add]
def jR{α:Type}{f:α->PV}{l:List α}:bU cs .len [.lst (l.map f)] G Q=Q (.int (l.length:Int)) G:=by rw[hU,List.length_map]
local macro_rules | `(tactic| walk_at "rz") => wk (wqB++" aBT List.map_cons List.map_nil kH BI exists_eq' sZ sz1 yW")
section
variable{T:Tb}
noncomputable def rD:CS:=.seq (.asg (.gn 3) (.lrp (.lst false %[.int 0|_]) (.var 2))) (.seq (.fr (.gt 2 %[.gn 4,.gn 5|_]) (.izp %[.var 0,.var 1|_]) (.sub (.var 3) (.var 4) (.var 5))) (.ret (.var 3)))
def JS'(ps:List Nat)(ts:List Int)(n:Nat)(G:Gh)(j4:List (Nat×Int))(Y:PSt)(G':Gh):Prop:= ∃done row q x4 x5,ps.zip ts=done++j4/\row=done.foldl (λrow p=>row.set p.1 p.2) (List.replicate n 0)/\G' q=some (.lst (row.map .int))/\G q=none/\(∀a o,G a=some o->G' a=some o)/\Y=[some (nL ps),some (iL ts),some (.int n),some (.ref q),x4,x5]
theorem BV:∀{l:List (Nat×Int)} {row:List Int},row.length=n->(l.foldl (λrow p=>row.set p.1 p.2) row).length=n
 | [],_,h=>h
 | _::r,_,h=>BV (l:=r) (by rw[List.length_set];exact h)
def NN:∀xs G Q,uI xs G Q->wpS T rD (aN Q) (aC 6 xs) G:=by
 rintro xs G Q ⟨ps,ts,n,rfl,hl,hp,hn,hq⟩;unfold rD;generalize eB:(CS.sub (.var 3) (.var 4) (.var 5))=B;have hq:Hd (Q (iL (jI n ps ts)) G):=⟨hq⟩;have hp:Hd (∀p∈ps,p<n):=⟨hp⟩;walk_at "rz"
 refine⟨_,n,rfl,rfl,by omega,by omega,by rw[List.length_singleton,Int.toNat_natCast];omega,λq nq=>?_⟩;rw[Int.toNat_natCast,WG];walk_at "rz"
 refine⟨.inl trivial,ps.length,[ps.map λ(p:Nat)=>PV.int (p:Int),ts.map .int],rfl,.inl (by simp[hl]),?_⟩;rw[BA rfl hl.symm];refine cB (λp:Nat×Int=>PV.tup [.int (p.1:Int),.int p.2]) (JS' ps ts n G) (λ_ _ _ _=>trivial) (λx r Y G' R hh hR=>?_) (λY G' hh=>?_) (ps.zip ts) _ _ ⟨[],_,q,none,none,rfl,rfl,aO,nq,λa o z=>by rw[cX (λw=>by subst w;rw[nq] at z;cases z)];exact z,rfl⟩
 . obtain⟨done,row,q,x4,x5,ed,er,hG,n0,keep,rfl⟩:=hh;obtain⟨p,t⟩:=x;have hpm:p∈ps:=(List.of_mem_zip (show(p,t)∈ps.zip ts by rw[ed];simp)).1;have lr:row.length=n:=by rw[er];exact BV (List.length_replicate ..)
   have hx:ixN (row.map PV.int).length (p:Int)=some p:=by rw[List.length_map,lr];exact EG (hp.o p hpm)
   have hR:=hR [some (nL ps),some (iL ts),some (.int n),some (.ref q),some (.int (p:Int)),some (.int t)] (gup G' q (.lst ((row.map PV.int).set p (.int t)))) ⟨done++[(p,t)],row.set p t,q,_,_,by rw[ed];simp,by rw[List.foldl_append,<-er];rfl,by rw[aO,List.map_set],n0,λa o z=>by rw[cX (λw=>by subst w;rw[n0] at z;cases z)];exact keep a o z,rfl⟩;subst eB;have ps:DE (.ref q) (.int (p:Int)) (.int t) G' λG4=>R [some (nL ps),some (iL ts),some (.int n),some (.ref q),some (.int (p:Int)),some (.int t)] G4:=⟨q,_,_,p,rfl,rfl,hG,hx,hR⟩;refine⟨[.int (p:Int),.int t],rfl,rfl,_,_,rfl,_,_,rfl,rfl,?_⟩;exact ps
 . obtain⟨done,row,q,x4,x5,ed,er,hG,n0,keep,rfl⟩:=hh;rw[List.append_nil] at ed;have hw:Wk Q (.ref q) G':=Wk.frz hG (by rw[er,<-ed];exact hq.o) keep n0;walk_at "rz"
noncomputable def mbI:CE:=.blt .sum %[.cmpr false (.gt 2 %[.gn 1,.gn 2|_]) (.izp %[.var 3,.var 2|_]) .nil (.bin .Mult (.var 1) (.idx (.var 2) (.var 3))) [none,none,none,some 1]|_]
def nX:CS:=.ret (.cmpr false (.gn 1) (.irg %[.int 3|_]) .nil mbI [none,none,some 1,some 0])
def aD2(hf:∀s:Z3,atI [PV.int s.1,.int s.2.1,.int s.2.2] i=some (.int (f s)))(hl:ts.length=ss.length)(h5:ts.length<=5)(ht:∀t∈ts,Sm 5000 t)(hs:∀s∈ss,Sm 5000 (f s))(q:Q (.int (mdZ f ts ss)) G) :
   wpE T mbI [x0,some (.int i),some (zsL ss),some (iL ts)] G Q:=by
 unfold mbI;have hq:Hd (Q (.int (mdZ f ts ss)) G):=⟨q⟩;have ht:Hd (∀t∈ts,Sm 5000 t):=⟨ht⟩;have hs:Hd (∀s∈ss,Sm 5000 (f s)):=⟨hs⟩;have hf':Hd (∀s:Z3,atI [PV.int s.1,.int s.2.1,.int s.2.2] i=some (.int (f s))):=⟨hf⟩;clear q hf;generalize eI:(CE.bin .Mult (.var 1) (.idx (.var 2) (.var 3)))=I;walk_at "rz"
 refine⟨.inl trivial,ts.length,[ts.map .int,ss.map z3L],rfl,.inl (by simp[hl]),?_⟩;rw[BA rfl hl.symm];refine⟨dF (by rw[List.length_zip];omega),?_⟩;refine aQ (chk:=λ_=>True) (G:=G) (λp:Int×Z3=>PV.tup [.int p.1,z3L p.2]) (λp=>.int (p.1*f p.2)) (λY=>∃x1 x2,Y=[none,x1,x2,some (.int i)]) trivial (ts.zip ss) [] _ _ ⟨none,none,rfl⟩ (λp hp Y R N hh hR=>?_) ?_
 . obtain⟨x1,x2,rfl⟩:=hh;obtain⟨t,s⟩:=p;have hm:=List.of_mem_zip hp;have hR:=hR _ ⟨some (.int t),some (z3L s),rfl⟩;subst eI;refine⟨[.int t,z3L s],rfl,rfl,_,_,rfl,_,_,rfl,rfl,?_⟩;show gR (z3L s) (.int i) G λy G2=>vI .Mult (.int t) y G2 λy G4=>R y _ G4;unfold z3L;rw[aX];exact⟨_,hf'.o s,bY (ht.o t hm.1) (hs.o s hm.2),hR⟩
 . rw[List.nil_append];have:=@xV T.cs ((ts.zip ss).map λp=>p.1*f p.2) G _ hq.o;unfold iL at this;rw[List.map_map] at this;exact this
def LS:∀xs G Q,sP xs G Q->wpS T nX (aN Q) (aC 2 xs) G:=by
 rintro xs G Q ⟨ts,ss,rfl,hl,h5,ht,hs,hq⟩;unfold nX;have A:Hd (∀{x0:Option PV} {i:Int} {f:Z3->Int} {G:Gh} {Q:PK1},(∀s:Z3,atI [PV.int s.1,.int s.2.1,.int s.2.2] i=some (.int (f s)))->(∀s∈ss,Sm 5000 (f s))->Q (.int (mdZ f ts ss)) G->wpE T mbI [x0,some (.int i),some (zsL ss),some (iL ts)] G Q):=⟨λhf hs q=>aD2 hf hl h5 ht hs q⟩;have r3:iW 0 (3:Int).toNat=[.int 0,.int 1,.int 2]:=rfl;have hw:Wk Q (z3L (aJ ts ss)) G:=Wk.here hq;have hs:Hd (∀s∈ss,Z3B 5000 s):=⟨hs⟩;clear hq ht;walk_at "rz"
 refine⟨by decide,by decide,?_⟩;refine aQ (chk:=λ_=>True) (G:=G) (λp:Int×(Z3->Int)=>PV.int p.1) (λp=>.int (mdZ p.2 ts ss)) (λY=>∃x1,Y=[none,x1,some (zsL ss),some (iL ts)]) trivial [(0,λs=>s.1),(1,λs=>s.2.1),(2,λs=>s.2.2)] [] _ _ ⟨none,rfl⟩ (λp hp Y R N hh hR=>?_) hw;obtain⟨x1,rfl⟩:=hh;have hR:=hR _ ⟨some (.int p.1),rfl⟩;show wpE T mbI [none,some (.int p.1),some (zsL ss),some (iL ts)] G λy G4=>R y _ G4;simp only[List.mem_cons,List.not_mem_nil,or_false] at hp;rcases hp with rfl|rfl|rfl
 . exact A.o (f:=λs=>s.1) (λs=>at0) (λs h=>(hs.o s h).1) hR
 . exact A.o (f:=λs=>s.2.1) (λs=>at1) (λs h=>(hs.o s h).2.1) hR
 . exact A.o (f:=λs=>s.2.2) (λs=>at2) (λs h=>(hs.o s h).2.2) hR
theorem HW:∀{ts:List Int} {ss:List Z3},(∀t∈ts,Sm n t)->(∀s∈ss,Sm m (f s))->Sm (n+m+ts.length) (mdZ f ts ss)
 | [],_,_,_=>by unfold mdZ;rw[List.zip_nil_left];exact Nat.pow_pos ddq
 | _::_,[],_,_=>by unfold mdZ;rw[List.zip_nil_right];exact Nat.pow_pos ddq
 | t::ts,s::ss,ht,hs=>by
   have ih:=HW (ts:=ts) (ss:=ss) (λt h=>ht t (wCq _ h)) (λs h=>hs s (wCq _ h));have e:mdZ f (t::ts) (s::ss)=t*f s+mdZ f ts ss:=by unfold mdZ;rw[List.zip_cons_cons,List.map_cons,List.sum_cons]
   rw[e];have:=(ht t (by simp)).mul (hs s (by simp));exact(this.mono ooq).add ih (by rw[List.length_cons];omega)
theorem tQ:∀{ts:List Int},(∀t∈ts,Sm n t)->Sm (n+ts.length) ts.sum
 | [],_=>by exact Nat.pow_pos ddq
 | t::r,h=>by
   rw[List.sum_cons];exact((h t (by simp)).mono ooq).add (tQ (ts:=r) λx hx=>h x (wCq _ hx)) (by rw[List.length_cons];omega)
def zJ(ht:∀t∈ts,Sm n t)(hs:∀s∈ss,Z3B m s):Z3B (n+m+ts.length) (aJ ts ss) :=
 ⟨HW ht λs h=>(hs s h).1,HW ht λs h=>(hs s h).2.1,HW ht λs h=>(hs s h).2.2⟩
def vN(ht:Sm k t)(ha:Z3B n a)(hb:Z3B m b)(e:k+m+1<=l)(e':n+1<=l):Z3B l (aB t a b):=by
 have z:∀{x y:Int},Sm n x->Sm m y->Sm l (t*y-x):=λ{x y} hx hy=>by
   have:=(ht.mul hy).mono (show k+m<=l-1 by omega);exact this.sub (hx.mono (show n<=l-1 by omega)) ooq
 exact⟨z ha.1 hb.1,z ha.2.1 hb.2.1,z ha.2.2 hb.2.2⟩
noncomputable def inA:CE:=.blt .all %[.cmpr false (.gn 1) (.isq (.var 1)) .nil (.cmp .LtE (.cal "product" %[.var 3,.cal "gone" %[.var 4,.var 1,.var 5|_],.var 2|_]) (.int 0)) [none,none,some 3,some 6,some 4,some 5]|_]
def iU:CS:=.seq (.asg (.gn 4) (.cal "made_by" %[.var 0,.var 1|_])) (.seq (.asg (.gn 5) (.blt .sum %[.var 0|_])) (.seq (.asg (.gn 6) (.cal "gone" %[.var 4,.var 2,.var 5|_])) (.ret inA)))
def xQ(k:PL T):∀xs G Q,uZ xs G Q->wpS T iU (aN Q) (aC 7 xs) G:=by
 rintro xs G Q ⟨ts,ss,goal,e,rfl,hl,h5,ht,hs,hg,he,hq⟩;have hnear:=zJ ht hs;have hpart:=tQ ht;have km:Hd (∀{G:Gh} {Q:PK1},Q (z3L (aJ ts ss)) G->T.S "made_by" [iL ts,zsL ss] G Q):=⟨λq=>by rw[k.made_by];exact⟨ts,ss,rfl,hl,h5,λt h=>(ht t h).mono ddq,λs h=>(hs s h).mono ddq,q⟩⟩;have kg:∀{b:Z3} {G:Gh} {Q:PK1},Z3B 200 b->Q (z3L (aB ts.sum (aJ ts ss) b)) G->T.S "gone" [z3L (aJ ts ss),z3L b,.int ts.sum] G Q:=λ{b G Q} hb q=>by
   rw[k.gone];exact⟨_,b,ts.sum,rfl,hpart.mono ooq,hb.mono ddq,q⟩
 have gs:∀{b:Z3},Z3B 200 b->Z3B 2100 (aB ts.sum (aJ ts ss) b):=λ{b} hb=>vN hpart hnear hb ooq ooq;have hmore:=gs hg;have kp:∀{s:Z3} {G:Gh} {Q:PK1},Z3B 200 s->Q (.int (aR e (aB ts.sum (aJ ts ss) goal) (aB ts.sum (aJ ts ss) s))) G->T.S "product" [z3L (aB ts.sum (aJ ts ss) goal),z3L (aB ts.sum (aJ ts ss) s),eyZ e] G Q:=λ{s G Q} hb q=>by
   rw[k.prod];exact⟨_,_,e,rfl,hmore.mono ddq,(gs hb).mono ddq,he.sm.mono ddq,q⟩
 clear hnear hpart gs hmore;have hw:Wk Q (.bl (lG e goal ts ss)) G:=Wk.here hq;unfold lG at hw;have lz:(ss.map z3L).length<=sizeLine:=dF ooq;have al:Hd (vW (ss.map λs=>.bl (decide (aR e (aB ts.sum (aJ ts ss) goal) (aB ts.sum (aJ ts ss) s)<=0)))=some (ss.all λs=>decide (aR e (aB ts.sum (aJ ts ss) goal) (aB ts.sum (aJ ts ss) s)<=0))):=⟨by
   have:=@AA (ss.map λs=>decide (aR e (aB ts.sum (aJ ts ss) goal) (aB ts.sum (aJ ts ss) s)<=0));rw[List.map_map,List.all_map] at this;exact this⟩
 have kg0:Hd (∀{G:Gh} {Q:PK1},Q (z3L (aB ts.sum (aJ ts ss) goal)) G->T.S "gone" [z3L (aJ ts ss),z3L goal,.int ts.sum] G Q):=⟨kg hg⟩;have ps:Hd (∀{G:Gh} {Q:PK1},Q (.int ts.sum) G->bU T.cs .sum [iL ts] G Q):=⟨xV⟩;have kg:Hd (∀{b:Z3} {G:Gh} {Q:PK1},Z3B 200 b->Q (z3L (aB ts.sum (aJ ts ss) b)) G->T.S "gone" [z3L (aJ ts ss),z3L b,.int ts.sum] G Q):=⟨kg⟩;have kp:Hd (∀{s:Z3} {G:Gh} {Q:PK1},Z3B 200 s->Q (.int (aR e (aB ts.sum (aJ ts ss) goal) (aB ts.sum (aJ ts ss) s))) G->T.S "product" [z3L (aB ts.sum (aJ ts ss) goal),z3L (aB ts.sum (aJ ts ss) s),eyZ e] G Q):=⟨kp⟩;have hw:=Hd.mk hw;have hs:=Hd.mk hs;generalize ts.sum=part at *;generalize aJ ts ss=near at *;generalize aB part near goal=more at *;unfold iU;generalize eA:inA=A;walk_at "rz"
 refine km.o ?_
 (try walk_at "rz")
 refine ps.o ?_
 (try walk_at "rz")
 refine kg0.o ?_
 (try walk_at "rz")
 subst eA;unfold inA;generalize eI:(CE.cmp .LtE (.cal "product" (.cons (.var 3) (.cons (.cal "gone" (.cons (.var 4) (.cons (.var 1) (.cons (.var 5) .nil)))) (.cons (.var 2) .nil)))) (.int 0))=I;walk_at "rz"
 refine aQ (chk:=λ_=>True) (G:=G) z3L (λs=>.bl (decide (aR e more (aB part near s)<=0))) (λY=>∃x1,Y=[none,x1,some (eyZ e),some (z3L more),some (z3L near),some (.int part)]) trivial ss [] _ _ ⟨none,rfl⟩ (λs hp Y R N hh hR=>?_) ?_
 . obtain⟨x1,rfl⟩:=hh;have hR:=Hd.mk (hR _ ⟨some (z3L s),rfl⟩);subst eI;have hs:=hs.o s hp;walk_at "rz"
   refine kg.o hs (kp.o hs ?_);walk_at "rz"
 . rw[List.nil_append];exact⟨_,al.o,hw.o⟩
end
noncomputable def ptZ(ss:List Z3)(t:Nat):Z3:=ss.getD t (0,0,0)
def mL(e goal:Z3)(ss:List Z3)(l:List Nat):Option (List Int):=match gB e goal (l.map (ptZ ss)) with
 | none=>none
 | some few=>if (∀x∈few,0<=x)/\lG e goal (jI ss.length l few) ss=true then some (jI ss.length l few) else none
def GL(h1:1<=n)(h5:n<=5):(∀l∈(aY n (min n 4)).1,l≠[]/\l.length<=4/\l.Nodup/\∀p∈l,p<n)/\∀l∈vO (List.range n),l≠[]->l.length<=4->l∈(aY n (min n 4)).1:=by
 have:n=1∨n=2∨n=3∨n=4∨n=5:=by omega
 rcases this with rfl|rfl|rfl|rfl|rfl<;>exact⟨by decide +kernel,by decide +kernel⟩
theorem fQ:∀{l:List Nat} {few:List Int},l.Nodup->few.length=l.length->∃f:Nat->Int,few=l.map f
 | [],few,_,h=>⟨λ_=>0,List.eq_nil_of_length_eq_zero h⟩
 | a::l,[],_,h=>by cases h
 | a::l,x::few,nd,h=>by
   have nd':=List.nodup_cons.mp nd;obtain⟨f,e⟩:=fQ (l:=l) (few:=few) nd'.2 (by simpa using h);refine⟨λt=>if t=a then x else f t,?_⟩;rw[List.map_cons,ja rfl,e]
   congr 1
   exact List.map_congr_left λt ht=>by rw[j9 λz=>nd'.1 (by rw[<-z];exact ht)]
theorem HZ:∀(l:List Nat) (g:Nat->Int),(∀p∈l,p<n)->(l.zip (l.map f)).foldl (λrow p=>row.set p.1 p.2) ((List.range n).map g)=(List.range n).map λt=>if t∈l then f t else g t
 | [],g,_=>by
   rw[List.map_nil,List.zip_nil_right];exact List.map_congr_left λt _=>by rw[j9 (by simp)]
 | a::l,g,h=>by
   have ha:=h a (by simp);rw[List.map_cons,List.zip_cons_cons,List.foldl_cons];have e:((List.range n).map g).set a (f a)=(List.range n).map λt=>if t=a then f a else g t:=by
     refine List.ext_getElem (by simp) λi h1 h2=>?_;rw[List.getElem_set];simp only[List.getElem_map,List.getElem_range];by_cases z:a=i
     . subst z;simp
     . rw[j9 z,j9 (Ne.symm z)]
   rw[e,HZ l _ λp hp=>h p (wCq _ hp)];refine List.map_congr_left λt _=>?_;by_cases z:t∈l
   . rw[ja z,ja (wCq _ z)]
   . rw[j9 z];by_cases y:t=a
     . subst y;rw[ja rfl,ja (by simp)]
     . rw[j9 y,j9 (by simp[y,z])]
noncomputable def spF(l:List Nat)(f:Nat->Int)(t:Nat):Int:=if t∈l then f t else 0
def vD(h:∀p∈l,p<n):jI n l (l.map f)=(List.range n).map (spF l f):=by
 unfold jI;have:List.replicate n (0:Int)=(List.range n).map λ_=>0:=by
   refine List.ext_getElem (by simp) λi h1 h2=>by simp
 rw[this];exact HZ l (λ_=>0) h
theorem GP:∀L:List Nat,(L.map (spF l f)).sum=((L.filter λt=>decide (t∈l)).map f).sum
 | []=>rfl
 | a::L=>by
   rw[List.map_cons,List.sum_cons,GP L];unfold spF;by_cases z:a∈l
   . rw[ja z,List.filter_cons_of_pos (by simpa using z),List.map_cons,List.sum_cons]
   . rw[j9 z,List.filter_cons_of_neg (by simpa using z),Int.zero_add]
theorem GQ:∀L:List Nat,((L.map (spF l f)).filter λt=>decide (t≠0)).length<=(L.filter λt=>decide (t∈l)).length
 | []=>Nat.le_refl _
 | a::L=>by
   have ih:=GQ (l:=l) (f:=f) L;rw[List.map_cons];by_cases z:a∈l
   . rw[List.filter_cons_of_pos (p:=λt=>decide (t∈l)) (by simpa using z),List.length_cons];by_cases w:spF l f a=0
     . rw[List.filter_cons_of_neg (by simp[w])];omega
     . rw[List.filter_cons_of_pos (by simp[w]),List.length_cons];omega
   . rw[List.filter_cons_of_neg (p:=λt=>decide (t∈l)) (by simpa using z),List.filter_cons_of_neg (by unfold spF;simp[z])];exact ih
def OT{a b:List Int}(h:a.Perm b):a.sum=b.sum:=by
 induction h with
 | nil=>rfl
 | cons x _ ih=>rw[List.sum_cons,List.sum_cons,ih]
 | swap x y l=>simp only[List.sum_cons];omega
 | trans _ _ h1 h2=>exact h1.trans h2
def zX(nd:l.Nodup)(h:∀p∈l,p<n):((List.range n).filter λt=>decide (t∈l)).Perm l :=
 (List.perm_ext_iff_of_nodup (List.nodup_range.filter _) nd).mpr λt=>by
   rw[List.mem_filter,List.mem_range,decide_eq_true_iff];exact⟨λz=>z.2,λz=>⟨h t z,z⟩⟩
def UT(nd:l.Nodup)(h:∀p∈l,p<n):(jI n l (l.map f)).sum=(l.map f).sum:=by
 rw[vD h,GP];exact OT ((zX nd h).map f)
def mI(h:gB e goal ss=some few):few.length=ss.length/\few.sum≠0:=by
 cases ss with
 | nil=>cases h
 | cons s0 r =>
   rw[sW] at h;split at h
   . cases h
   . rename_i z;cases h;refine⟨by simp,?_⟩;rw[List.sum_cons];omega
def UM(nd:l.Nodup)(l4:l.length<=4)(hl:∀p∈l,p<ss.length)(h:mL e goal ss l=some ts):HC e goal ss ts:=by
 unfold mL at h;split at h
 . cases h
 . rename_i few ef;obtain⟨h1,h2⟩:=mI ef;split at h
   . rename_i c;obtain⟨nn,nr⟩:=c;cases h;obtain⟨f,rfl⟩:=fQ (few:=few) nd (by rw[h1,List.length_map]);have e1:=vD (f:=f) hl;refine⟨by rw[e1];simp,?_,?_,nr,?_⟩
     . intro t ht;rw[e1] at ht;obtain⟨p,_,rfl⟩:=List.mem_map.mp ht;unfold spF;split
       . rename_i z;exact nn _ (List.mem_map.mpr ⟨p,z,rfl⟩)
       . exact Int.le_refl 0
     . rw[UT nd hl];have : 0<=(l.map f).sum:=by
         have :∀l:List Int,(∀x∈l,0<=x)->0<=l.sum:=λl=>by
           induction l with
           | nil=>intro _;exact Int.le_refl 0
           | cons a r ih =>
             intro h;rw[List.sum_cons];have:=h a (by simp);have:=ih λx hx=>h x (wCq _ hx);omega
         exact this _ nn
       omega
     . rw[e1];refine Nat.le_trans (GQ _) ?_;rw[(zX nd hl).length_eq];exact l4
   . cases h
noncomputable def lnS(L:List Nat)(g:Nat->Rat)(k:Nat)(w:Rat)(c:Cf):Rat:=(L.map λt=>c t*g t).sum+c k*w
def SW:Ln (lnS L g k w):=λa b c d=>by
 unfold lnS;have :∀L:List Nat,(L.map λt=>cb a c b d t*g t).sum=a*(L.map λt=>c t*g t).sum+b*(L.map λt=>d t*g t).sum:=λL=>by
   induction L with
   | nil=>simp only[List.map_nil,List.sum_nil];grind
   | cons x r ih =>
     simp only[List.map_cons,List.sum_cons];rw[ih];unfold cb;grind
 rw[this];unfold cb;grind
theorem SE{g:Nat->Rat}:∀L:List Nat,L.Nodup->(L.map λt=>dl v t*g t).sum=if v∈L then g v else 0
 | [],_=>by simp
 | a::L,nd=>by
   have nd':=List.nodup_cons.mp nd;rw[List.map_cons,List.sum_cons,SE L nd'.2];unfold dl;by_cases z:a=v
   . subst z;rw[ja rfl,j9 nd'.1,ja (by simp)];grind
   . rw[j9 z];by_cases y:v∈L
     . rw[ja y,ja (wCq _ y)];grind
     . rw[j9 y,j9 (by simp[y,Ne.symm z])];grind
def FT:lnS (List.range n) g n w (dl v)=if v<n then g v else if v=n then w else 0:=by
 unfold lnS;rw[SE _ List.nodup_range];unfold dl;by_cases h:v<n
 . rw[ja (List.mem_range.mpr h),ja h,j9 ooq];grind
 . rw[j9 (λz=>h (List.mem_range.mp z)),j9 h];by_cases z:v=n
   . subst z;rw[ja rfl,ja rfl];grind
   . rw[j9 (Ne.symm z),j9 z];grind
theorem sV:∀L:List Nat,(((L.map F).sum:Int):Rat)=(L.map λt=>(F t:Rat)).sum
 | []=>rfl
 | a::L=>by rw[List.map_cons,List.sum_cons,Rat.intCast_add,sV L,List.map_cons,List.sum_cons]
def KR{L:List Nat}{c g:Nat->Rat}{b:Rat}:(L.map λt=>c t*b*g t).sum=b*(L.map λt=>c t*g t).sum:=by
 induction L with
 | nil=>simp only[List.map_nil,List.sum_nil];grind
 | cons a r ih=>simp only[List.map_cons,List.sum_cons];rw[ih];grind
def WV:ss=(List.range ss.length).map (ptZ ss):=by
 refine List.ext_getElem (by simp) λi h1 h2=>?_;unfold ptZ;simp[h1]
def aEw:mdZ f ((List.range ss.length).map F) ss=((List.range ss.length).map λt=>F t*f (ptZ ss t)).sum:=by
 unfold mdZ;have:((List.range ss.length).map F).zip ss=(List.range ss.length).map λt=>(F t,ptZ ss t):=by
   conv=>lhs;arg 2;rw[WV (ss:=ss)]
   rw[List.zip_map']
 rw[this,List.map_map];rfl
def aE0(h1:1<=ss.length)(h5:ss.length<=5)(he:EyZ e):∃l∈(aY ss.length (min ss.length 4)).1,∃ts,mL e goal ss l=some ts:=by
 generalize en:ss.length=n at *;have S0:=SW (L:=List.range n) (g:=λ_=>1) (k:=n) (w:=0);have F:=λ(f:Z3->Int)=>SW (L:=List.range n) (g:=λt=>(f (ptZ ss t):Rat)) (k:=n) (w:=(f goal:Rat));have ip:∀{x:Int},1<=x->0<(x:Rat):=λ{x} h=>Rat.intCast_pos.mpr ooq;have SC:Sc (lnS (List.range n) (λ_=>1) n 0) (lnS (List.range n) (λt=>((ptZ ss t).1:Rat)) n (goal.1:Rat)) (lnS (List.range n) (λt=>((ptZ ss t).2.1:Rat)) n (goal.2.1:Rat)) (lnS (List.range n) (λt=>((ptZ ss t).2.2:Rat)) n (goal.2.2:Rat)) (e.1:Rat) (e.2.1:Rat) (e.2.2:Rat) :=
   ⟨S0,F (λs=>s.1),F (λs=>s.2.1),F (λs=>s.2.2),ip he.1.1,ip he.2.1.1,ip he.2.2.1⟩
 have hs:∀t,t<n->lnS (List.range n) (λ_=>1) n 0 (dl t)=1:=λt ht=>by rw[FT,ja ht]
 have hv:∀(f:Z3->Int) t,t<n->lnS (List.range n) (λt=>(f (ptZ ss t):Rat)) n (f goal:Rat) (dl t)=(f (ptZ ss t):Rat):=λf t ht=>by rw[FT,ja ht]
 have hg:∀(f:Z3->Int),lnS (List.range n) (λt=>(f (ptZ ss t):Rat)) n (f goal:Rat) (dl n)=(f goal:Rat):=λf=>by rw[FT,j9 (Nat.lt_irrefl n),ja rfl]
 obtain⟨l,hl,l4,m,G,up⟩:=SC.near (dl n) hs h1;obtain⟨so,sa⟩:=GL h1 h5;have lm:=sa l hl G.ne l4;obtain⟨_,_,nd,lt⟩:=so l lm;obtain⟨few,b,ef,b0,ec⟩:=aGc (e:=e) (goal:=goal) (sp:=ptZ ss) SC G ⟨λt ht=>hv (λs=>s.1) t (lt t ht),λt ht=>hv (λs=>s.2.1) t (lt t ht),λt ht=>hv (λs=>s.2.2) t (lt t ht),hg λs=>s.1,hg λs=>s.2.1,hg λs=>s.2.2,rfl,rfl,rfl⟩ (λt ht=>hs t (lt t ht)) l4;refine⟨l,lm,?_⟩;obtain⟨f,rfl⟩:=fQ (few:=few) nd (by rw[(mI ef).1,List.length_map]);have bq:0<(b:Rat):=Rat.intCast_pos.mpr b0;have ev:∀t∈l,(f t:Rat)=m t*(b:Rat):=λt ht=>by
   rw[List.map_map] at ec;exact List.map_inj_left.mp ec t ht
 have eF:∀t,((spF l f t:Int):Rat)=m t*(b:Rat):=λt=>by
   unfold spF;by_cases z:t∈l
   . rw[ja z];exact ev t z
   . rw[j9 z,G.pj.on t z];exact(Rat.zero_mul _).symm
 have lt':∀p∈l,p<ss.length:=λp hp=>by rw[en];exact lt p hp
 have mn:m n=0:=G.pj.on n λz=>Nat.lt_irrefl n (lt n z);have et:=vD (f:=f) lt';have eS:∀g:Nat->Rat,((List.range n).map λt=>((spF l f t:Int):Rat)*g t).sum=(b:Rat)*((List.range n).map λt=>m t*g t).sum:=λg=>by
   rw[<-KR]
   congr 1
   exact List.map_congr_left λt _=>by rw[eF]
 have es:(((jI ss.length l (l.map f)).sum:Int):Rat)=b:=by
   rw[et,sV,en];have:=eS λ_=>1;have h2:lnS (List.range n) (λ_=>1) n 0 m=1:=G.pj.one;unfold lnS at h2;rw[show((List.range n).map λt=>((spF l f t:Int):Rat))=(List.range n).map λt=>((spF l f t:Int):Rat)*1 from List.map_congr_left λt _=>(Rat.mul_one _).symm,this]
   grind
 have em:∀g:Z3->Int,((mdZ g (jI ss.length l (l.map f)) ss:Int):Rat)=(b:Rat)*lnS (List.range n) (λt=>(g (ptZ ss t):Rat)) n (g goal:Rat) m:=λg=>by
   rw[et,aEw,sV,en];have:=eS λt=>(g (ptZ ss t):Rat);unfold lnS;rw[mn,show((List.range n).map λt=>((spF l f t*g (ptZ ss t):Int):Rat))=(List.range n).map λt=>((spF l f t:Int):Rat)*(g (ptZ ss t):Rat) from List.map_congr_left λt _=>Rat.intCast_mul _ _,this]
   grind
 have nn:∀x∈l.map f,0<=x:=λx hx=>by
   obtain⟨t,ht,rfl⟩:=List.mem_map.mp hx;have:=Rat.mul_nonneg (G.nn t) (Rat.le_of_lt bq);rw[<-ev t ht] at this;exact Rat.intCast_nonneg.mp this
 have nb:lG e goal (jI ss.length l (l.map f)) ss=true:=by
   unfold lG;rw[List.all_eq_true];intro s hsm;rw[decide_eq_true_iff];obtain⟨v,hvn,rfl⟩:∃v,v<n/\ptZ ss v=s:=by
     obtain⟨i,hi,rfl⟩:=List.getElem_of_mem hsm;exact⟨i,by omega,by unfold ptZ;simp[hi]⟩
   have u:=up v hvn;have ex:=em λs=>s.1;have ey:=em λs=>s.2.1;have ez:=em λs=>s.2.2;have c1:∀(g:Z3->Int) (c:Int) (w:Cf),lnS (List.range n) (λt=>(g (ptZ ss t):Rat)) n (g goal:Rat) w=(c:Rat)->
       (((jI ss.length l (l.map f)).sum*c-mdZ g (jI ss.length l (l.map f)) ss:Int):Rat)=(b:Rat)*lnS (List.range n) (λt=>(g (ptZ ss t):Rat)) n (g goal:Rat) (cb 1 w (-1) m):=λg c w hw=>by
     rw[Rat.intCast_sub,Rat.intCast_mul,es,em g,F g,hw];grind
   have gx:=c1 (λs=>s.1) _ (dl n) (hg λs=>s.1);have gy:=c1 (λs=>s.2.1) _ (dl n) (hg λs=>s.2.1);have gz:=c1 (λs=>s.2.2) _ (dl n) (hg λs=>s.2.2);have vx:=c1 (λs=>s.1) _ (dl v) (hv (λs=>s.1) v hvn);have vy:=c1 (λs=>s.2.1) _ (dl v) (hv (λs=>s.2.1) v hvn);have vz:=c1 (λs=>s.2.2) _ (dl v) (hv (λs=>s.2.2) v hvn);apply Rat.intCast_nonpos.mp
   unfold aR aB aJ;simp only[Rat.intCast_add,Rat.intCast_mul];rw[gx,gy,gz,vx,vy,vz];unfold Bi at u;have ng:∀{x:Rat},x<=0->0<=-x:=λ{x} h=>by grind
   have:=Rat.mul_nonneg (Rat.mul_nonneg (Rat.le_of_lt bq) (Rat.le_of_lt bq)) (ng u)
   grind
 exact⟨_,by unfold mL;rw[ef];exact ja ⟨nn,nb⟩⟩
def QR(h:l.length<=4):shp (nL l)=true:=by
 match l,h with
 | [],_=>rfl
 | [_],_=>rfl
 | [_,_],_=>rfl
 | [_,_,_],_=>rfl
 | [_,_,_,_],_=>rfl
 | _::_::_::_::_::_,h=>exact absurd h (by simp only[List.length_cons];omega)
def XB(h:l.length<=4)(q:Q (.bl (decide (l=[]))) G):pEq false (nL l) (.lst []) G Q:=by
 refine⟨QR h,QR (l:=[]) ddq,?_⟩;have:(if false=true then !peq (pur G (nL l)) (pur G (.lst [])) else peq (pur G (nL l)) (pur G (.lst [])))=decide (l=[]):=by
   rw[j9 Bool.false_ne_true];show peq (nL l) (.lst [])=_;cases l with
   | nil=>simp only[nL,List.map_nil,peq,oJ];rfl
   | cons a r=>simp only[nL,List.map_cons,peq,oJ];rfl
 rw[this];exact q
def WU(h:l≠[]):atI (l.map λ(p:Nat)=>PV.int (p:Int)) (-1)=some (.int ((l.getLast?.getD 0:Nat):Int)):=by
 have hl:0<l.length:=List.length_pos_iff.mpr h;have e:l.getLast?.getD 0=l[l.length-1]:=by
   rw[List.getLast?_eq_getElem?,wHq ooq];rfl
 rw[e];unfold atI ixN;rw[j9 ddq,List.length_map,ja ooq];have:((-1:Int)+(l.length:Int)).toNat=l.length-1:=by omega
 show(List.map (λ(p:Nat)=>PV.int (p:Int)) l)[((-1:Int)+(l.length:Int)).toNat]? =_;rw[this,List.getElem?_map,wHq ooq];rfl
noncomputable def eV(l:List Nat)(p:Nat):Bool:=decide (l=[])||decide (l.getLast?.getD 0<p)
def LN:bR n (ls++[l])=bR n ls++((List.range n).filter (eV l)).map λp=>l++[p]:=by
 unfold bR eV;rw[List.flatMap_append,List.flatMap_singleton]
theorem CD:∀ls:List (List Nat),(bR n ls).length<=n*ls.length
 | []=>Nat.zero_le _
 | l::ls=>by
   have ih:=CD (n:=n) ls;have e:bR n (l::ls)=(((List.range n).filter (eV l)).map λp=>l++[p])++bR n ls:=by unfold bR eV;rw[List.flatMap_cons]
   have:=List.length_filter_le (eV l) (List.range n);rw[List.length_range] at this;rw[e,List.length_append,List.length_map,List.length_cons,Nat.mul_succ];omega
local macro_rules | `(tactic| walk_at "rz") => wk (wqB++" jS iP tO NV List.map_cons List.map_nil eO rS zA AE jG sM AR gC Option.getD_none sz1")
section
variable{T:Tb}
noncomputable def grT:CE:=.oo (.tsb (.cmp .Eq (.var 1) (.lst false .nil))) (.tsb (.cmp .Lt (.idx (.var 1) (.neg (.int 1))) (.var 2)))
noncomputable def grE:CE:=.bin .Add (.var 1) (.lst false %[.var 2|_])
def grC:CE:=.cmn false false (.gn 1) (.isq (.var 2)) .nil (.gen (.gn 2) (.irg %[.var 3|_]) grT (.eml grE)) [none,none,none,some 0]
def mN:CS:=.seq (.asg (.gn 1) (.lst false .nil)) (.seq (.asg (.gn 2) (.lst false %[.lst false .nil|_])) (.seq (.fr (.gn 3) (.irg %[.blt .min %[.var 0,.glo "MOST_AT_ONCE"|_]|_]) (.seq (.asg (.gn 2) grC) (.asg (.gn 1) (.bin .Add (.var 1) (.var 2))))) (.ret (.var 1))))
def aEX{l:List Nat}{x3:Option PV}{R:Bool->Gh->Prop}(h4:l.length<=4)(q:R (eV l p) G):wpT T grT [none,some (nL l),some (.int (p:Int)),x3] G R:=by
 unfold grT;have h2:∀{Q:PK1},Q (.bl (decide (l=[]))) G->pEq false (nL l) (.lst []) G Q:=λq=>XB h4 q;have h3:∀{Q:PK1},l≠[]->Q (.int ((l.getLast?.getD 0:Nat):Int)) G->gR (nL l) (.int (-1)) G Q:=λ{Q} h q=>by
   unfold nL;rw[aX];exact⟨_,WU h,q⟩
 have h2:=Hd.mk (@h2);have h3:=Hd.mk (@h3);have q:=Hd.mk q;walk_at "rz"
 refine⟨Nat.zero_le _,h2.o ?_⟩;by_cases z:l=[]
 . have:eV l p=true:=by unfold eV;simp[z]
   rw[this] at q;have q:=q.o;refine⟨_,rfl,?_⟩;rw[ja (decide_eq_true z)];exact q
 . have:eV l p=decide (((l.getLast?.getD 0:Nat):Int)<(p:Int)):=by
     unfold eV;rw[decide_eq_false z,Bool.false_or];exact decide_eq_decide.mpr ooq
   rw[this] at q;refine⟨_,rfl,?_⟩;rw[j9 (by simp[z])];refine h3.o z ?_;have q:=q.o
   (try walk_at "rz")
def J1(n:Nat)(ls:List (List Nat))(p:Addr)(G:Gh)(j4:List (List Nat))(Y:PSt)(G':Gh):Prop:= ∃done x1 x2,ls=done++j4/\Y=[none,x1,x2,some (.int (n:Int))]/\G'=gup G p (.lst ((bR n done).map nL))
def aDW{n:Nat}{ls:List (List Nat)}{x1 x3:Option PV}{G:Gh}{Q:PK1}(h5:n<=5)(h4:∀l∈ls,l.length<=4)(hl:ls.length<=10)(q:Q (.lst ((bR n ls).map nL)) G):wpE T grC [some (.int (n:Int)),x1,some (.lst (ls.map nL)),x3] G Q:=by
 unfold grC;have sz:∀{m:Nat},m<100->m<sizeLine:=λ{m} h=>wFq h (szN ddq);generalize eB:(CE.gen (.gn 2) (.irg (.cons (.var 3) .nil)) grT (.eml grE))=B;have q:=Hd.mk q;have sz:=Hd.mk (@sz);have h4:=Hd.mk h4;walk_at "rz"
 intro p np;refine cB nL (J1 n ls p G) (λ_ _ _ _=>trivial) (λl r Y G' R hh hR=>?_) (λY G' hh=>?_) ls _ _ ⟨[],none,none,rfl,rfl,rfl⟩
 . obtain⟨done,x1,x2,ed,rfl,rfl⟩:=hh;have hl4:=h4.o l (by rw[ed];simp);have hd:done.length<10:=by rw[ed,List.length_append,List.length_cons] at hl;omega
   have gl:=CD (n:=n) done;have gl:(bR n done).length<=50:=Nat.le_trans gl (Nat.le_trans (Nat.mul_le_mul h5 (Nat.le_of_lt hd)) ddq);have hR:=Hd.mk (hR:∀Y' G',J1 n ls p G r Y' G'->R Y' G');subst eB;show wpI T (.irg (.cons (.var 3) .nil)) [none,some (nL l),x2,some (.int (n:Int))] (gup G p (.lst ((bR n done).map nL))) λchk xs G1=>gE chk (wpG T (.gn 2)) (λD Y G=>wpT T grT Y G λk G2=>if k=true then wpC T (.eml grE) p D Y G2 else D.nx Y G2) _ xs _ G1;generalize eT:grT=TT;generalize eE:grE=EE;walk_at "rz"
   refine⟨by omega,by omega,?_⟩;rw[iJ];refine cB (λ(t:Nat)=>PV.int (t:Int)) (λj4 Y G'=>∃d2 x2,List.range n=d2++j4/\Y=[none,some (nL l),x2,some (.int (n:Int))]/\G'=gup G p (.lst ((bR n done++(d2.filter (eV l)).map λt=>l++[t]).map nL))) (λ_ _ _ _=>trivial) (λt r2 Y G' R2 hh hR2=>?_) (λY G' hh=>?_) (List.range n) _ _ ⟨[],_,rfl,rfl,by rw[List.filter_nil,List.map_nil,List.append_nil]⟩
   . obtain⟨d2,x2,e2,rfl,rfl⟩:=hh;subst eT;show wpT T grT [none,some (nL l),some (.int (t:Int)),some (.int (n:Int))] _ _;refine aEX hl4 ?_;have e3:List.range n=(d2++[t])++r2:=by rw[e2];simp
     have dl:d2.length<=5:=by have:=congrArg List.length e2;rw[List.length_range,List.length_append] at this;omega
     cases c:eV l t with
     | false =>
       rw[j9 Bool.false_ne_true];refine hR2 _ _ ⟨d2++[t],_,e3,rfl,?_⟩;rw[List.filter_append,List.filter_cons_of_neg (by simp[c]),List.filter_nil,List.append_nil]
     | true =>
       rw[ja rfl];subst eE;have hR2:=hR2 [none,some (nL l),some (.int (t:Int)),some (.int (n:Int))] _ ⟨d2++[t],_,e3,rfl,rfl⟩;have e4:gup (gup G p (.lst ((bR n done++(d2.filter (eV l)).map λt=>l++[t]).map nL))) p (.lst ((bR n done++(d2.filter (eV l)).map λt=>l++[t]).map nL++[nL (l++[t])]))=gup G p (.lst ((bR n done++((d2++[t]).filter (eV l)).map λt=>l++[t]).map nL)):=by
         rw[kX,List.filter_append,List.filter_cons_of_pos c,List.filter_nil];simp
       rw[<-e4] at hR2;have ll:((bR n done++(d2.filter (eV l)).map λt=>l++[t]).map nL).length<100:=by
         have:=List.length_filter_le (eV l) d2;simp only[List.length_map,List.length_append];omega
       show wpE T grE [none,some (nL l),some (.int (t:Int)),some (.int (n:Int))] _ λy G1=>∃ys,G1 p=some (.lst ys)/\ys.length<sizeLine/\R2 [none,some (nL l),some (.int (t:Int)),some (.int (n:Int))] (gup G1 p (.lst (ys++[y])));have hR2:=Hd.mk hR2;have en:nL l= .lst (l.map λ(p:Nat)=>PV.int (p:Int)):=rfl;have ez:nL (l++[t])= .lst ((l.map λ(p:Nat)=>PV.int (p:Int))++[.int (t:Int)]):=by unfold nL;rw[List.map_append];rfl
       unfold grE;have pa:∀{G:Gh} {Q:PK1},Q (nL (l++[t])) G->vR (nL l) (.lst [.int (t:Int)]) G Q:=λ{G Q} q=>by
         rw[en,eO,<-ez];exact⟨szN (by rw[List.length_map,List.length_singleton];omega),q⟩
       have pa:=Hd.mk (@pa);clear en ez;walk_at "rz"
       refine pa.o ⟨_,aO,sz.o ll,hR2.o⟩
   . obtain⟨d2,x2,e2,rfl,rfl⟩:=hh;rw[List.append_nil] at e2;subst e2;refine hR.o _ _ ⟨done++[l],_,_,by rw[ed];simp,rfl,by rw[LN]⟩
 . obtain⟨done,x1,x2,ed,rfl,rfl⟩:=hh;rw[List.append_nil] at ed;subst ed;show(if false=true then Q (.ref p) (gup G p (.lst ((bR n ls).map nL))) else ∃ys,gup G p (.lst ((bR n ls).map nL)) p=some (.lst ys)/\Q (.lst ys) (xI (gup G p (.lst ((bR n ls).map nL))) p));rw[j9 Bool.false_ne_true];exact⟨_,aO,by rw[AC np];exact q.o⟩
def FK(h1:1<=n)(h5:n<=5):∀k,k<4->(∀l∈(aY n k).2,l.length<=4)/\(aY n k).2.length<=10/\(aY n k).1.length+(bR n (aY n k).2).length<=100:=by
 have:n=1∨n=2∨n=3∨n=4∨n=5:=by omega
 rcases this with rfl|rfl|rfl|rfl|rfl<;>decide +kernel
def LW(k:PL T):∀xs G Q,CZ xs G Q->wpS T mN (aN Q) (aC 4 xs) G:=by
 rintro xs G Q ⟨n,rfl,h1,h5,hq⟩;have sm:=FK h1 h5;unfold mN;have gm:=k.gv_MO;have em:(min (n:Int) 4)=((min n 4:Nat):Int):=by omega
 have hq:=Hd.mk hq;have sm:=Hd.mk sm;have B:Hd (∀{ls:List (List Nat)} {x1 x3:Option PV} {G:Gh} {Q:PK1},(∀l∈ls,l.length<=4)->ls.length<=10->Q (.lst ((bR n ls).map nL)) G->wpE T grC [some (.int (n:Int)),x1,some (.lst (ls.map nL)),x3] G Q):=⟨λh4 hl q=>aDW h5 h4 hl q⟩;generalize eC:grC=C at *;generalize eS:(CS.asg (.gn 1) (.bin .Add (.var 1) (.var 2)))=S;walk_at "rz"
 refine⟨Nat.zero_le _,Nat.zero_le _,?_⟩;refine⟨by omega,by omega,?_⟩;rw[iJ];refine cB (λ(t:Nat)=>PV.int (t:Int)) (λj4 Y G'=>G'=G/\∃done x3,List.range (min n 4)=done++j4/\Y=[some (.int (n:Int)),some (.lst ((aY n done.length).1.map nL)),some (.lst ((aY n done.length).2.map nL)),x3]) (λ_ _ _ _=>trivial) (λt r Y G' R hh hR=>?_) (λY G' hh=>?_) (List.range (min n 4)) _ _ ⟨rfl,[],none,rfl,rfl⟩
 . obtain⟨rfl,done,x3,ed,rfl⟩:=hh;have dl:done.length<4:=by have:=congrArg List.length ed;rw[List.length_range,List.length_append,List.length_cons] at this;omega
   obtain⟨s1,s2,s3⟩:=sm.o done.length dl;have hR:=Hd.mk (hR [some (.int (n:Int)),some (.lst ((aY n (done.length+1)).1.map nL)),some (.lst ((aY n (done.length+1)).2.map nL)),some (.int (t:Int))] G' ⟨rfl,done++[t],_,by rw[ed];simp,by rw[List.length_append,List.length_singleton]⟩);show wpS T (.seq (.asg (.gn 2) C) S) _ [some (.int (n:Int)),some (.lst ((aY n done.length).1.map nL)),some (.lst ((aY n done.length).2.map nL)),some (.int (t:Int))] _;show wpE T C [some (.int (n:Int)),some (.lst ((aY n done.length).1.map nL)),some (.lst ((aY n done.length).2.map nL)),some (.int (t:Int))] G' λx G1=>wpS T S _ [some (.int (n:Int)),some (.lst ((aY n done.length).1.map nL)),some x,some (.int (t:Int))] G1;refine B.o s1 s2 ?_;subst eS;have e:(aY n done.length).1.map nL++(bR n (aY n done.length).2).map nL=(aY n (done.length+1)).1.map nL:=by rw[<-List.map_append];rfl
   have hR:=hR.o;rw[<-e,show(aY n (done.length+1)).2=bR n (aY n done.length).2 from rfl] at hR;have sz:((aY n done.length).1.map nL).length+((bR n (aY n done.length).2).map nL).length<=sizeLine:=szN (by rw[List.length_map,List.length_map];omega);clear e B sm hq;generalize (aY n done.length).1.map nL=A1 at *;generalize (bR n (aY n done.length).2).map nL=A2 at *;walk_at "rz"
 . obtain⟨rfl,done,x3,ed,rfl⟩:=hh;rw[List.append_nil] at ed;have e:done.length=min n 4:=by rw[<-ed,List.length_range]
   rw[e];have hw:Wk Q (.lst ((aY n (min n 4)).1.map nL)) G':=Wk.here hq.o;clear B;walk_at "rz"
noncomputable def ntA:CE:=.cmpr false (.gn 1) (.isq (.var 3)) .nil (.idx (.var 2) (.var 1)) [none,none,some 0]
noncomputable def ntB:CS:=.iff (.an (.tsb (.cmp .IsNot (.var 4) .non)) (.tsb (.cmp .GtE (.blt .min %[.var 4|_]) (.int 0)))) (.seq (.asg (.gn 5) (.cal "spread" %[.var 3,.var 4,.blt .len %[.var 0|_]|_])) (.iff (.tst (.cal "is_nearest" %[.var 5,.var 0,.var 1,.var 2|_])) (.ret (.var 5)) .nil)) .nil
def gJ:CS:=.seq (.fr (.gn 3) (.isq (.cal "sets_of" %[.blt .len %[.var 0|_]|_])) (.seq (.asg (.gn 4) (.cal "tops_toward" %[ntA,.var 1,.var 2|_])) ntB)) (.ret .non)
def aFk{ss:List Z3}{l:List Nat}{x1 x2:Option PV}{Y:PSt}{G:Gh}{Q:PK1}(hl:∀p∈l,p<ss.length)(h4:l.length<=4)(q:Q (zsL (l.map (ptZ ss))) G):wpE T ntA (some (zsL ss)::x1::x2::some (nL l)::Y) G Q:=by
 unfold ntA;have hl:=Hd.mk hl;have q:=Hd.mk q;have sn:∀{R:(Gh->Prop)->List PV->Gh->Prop} {G:Gh},pA (nL l) G R=R (λ_=>True) (l.map λ(p:Nat)=>PV.int (p:Int)) G:=λ{_ _}=>rfl;have lz:(l.map λ(p:Nat)=>PV.int (p:Int)).length<=sizeLine:=dF ooq;walk_at "rz"
 refine aQ (chk:=λ_=>True) (G:=G) (λ(p:Nat)=>PV.int (p:Int)) (λp=>z3L (ptZ ss p)) (λY=>∃x1,Y=[none,x1,some (zsL ss)]) trivial l [] _ _ ⟨none,rfl⟩ (λp hp Y R N hh hR=>?_) ?_
 . obtain⟨x1,rfl⟩:=hh;have hR:=Hd.mk (hR _ ⟨some (.int (p:Int)),rfl⟩);have hp:=hl.o p hp;have ix:∀{G:Gh} {Q:PK1},Q (z3L (ptZ ss p)) G->gR (zsL ss) (.int (p:Int)) G Q:=λ{G Q} q=>by
     unfold zsL;rw[aX];exact⟨_,cU (by rw[List.getElem?_map,wHq hp];rfl),by unfold ptZ at q;simpa [hp] using q⟩
   exact ix hR.o
 . rw[List.nil_append];have:=q.o;unfold zsL at this;rw[List.map_map] at this;exact this
def OD(h:Sq 3 rs)(hb:∀r∈rs,∀x∈r,Sm k x):Sm (3*k+3) (dtZ rs):=by
 rcases h with rfl|⟨_,a,rfl⟩|⟨_,a,b,c,d,rfl⟩|⟨_,a,b,c,d,e,f,g,h,i,rfl⟩
 . show Sm _ 1;exact Sm.mono (k:=1) (by unfold Sm;decide) ooq
 . exact(aCR (hb [a] (by simp) a (by simp))).mono ooq
 . exact(lS (hb [a,b] (by simp) _ (by simp)) (hb [a,b] (by simp) _ (by simp)) (hb [c,d] (by simp) _ (by simp)) (hb [c,d] (by simp) _ (by simp))).mono ooq
 . exact aBp (hb [a,b,c] (by simp) _ (by simp)) (hb [a,b,c] (by simp) _ (by simp)) (hb [a,b,c] (by simp) _ (by simp)) (hb [d,e,f] (by simp) _ (by simp)) (hb [d,e,f] (by simp) _ (by simp)) (hb [d,e,f] (by simp) _ (by simp)) (hb [g,h,i] (by simp) _ (by simp)) (hb [g,h,i] (by simp) _ (by simp)) (hb [g,h,i] (by simp) _ (by simp))
def YZ(he:EyZ e)(hs:∀s∈ss,Z3B n s)(hg:Z3B n goal)(h4:ss.length<=4)(h:gB e goal ss=some few):∀t∈few,Sm (6*n+40) t:=by
 cases ss with
 | nil=>cases h
 | cons s0 r =>
   have h0:=hs s0 (by simp);have h3:r.length<=3:=by rw[List.length_cons] at h4;omega
   have hE:∀x∈r.map (aB 1 s0),Z3B (n+1) x:=λx hx=>by
     obtain⟨s,h,rfl⟩:=List.mem_map.mp hx;exact sE h0 (hs s (wCq _ h))
   have hw:=sE h0 hg;rw[sW] at h;have l3:(r.map (aB 1 s0)).length<=3:=by rw[List.length_map];exact h3
   generalize r.map (aB 1 s0)=E at *;generalize aB 1 s0 goal=w at *;obtain⟨sq,sr⟩:=EV (e:=e) l3;have b1:∀r∈fA e E,∀x∈r,Sm (2*n+11) x:=λr hr x hx=>by
     obtain⟨a,ha,rfl⟩:=List.mem_map.mp hr;obtain⟨b,hb,rfl⟩:=List.mem_map.mp hx;exact(sC he.sm (hE a ha) (hE b hb)).mono ooq
   have b2:∀x∈dJ e w E,Sm (2*n+11) x:=λx hx=>by
     obtain⟨a,ha,rfl⟩:=List.mem_map.mp hx;exact(sC he.sm (hE a ha) hw).mono ooq
   have d1:Sm (6*n+36) (dtZ (fA e E)):=(OD sq b1).mono ooq;have d2:∀t∈(List.range E.length).map λp=>dtZ (lB (fA e E) (dJ e w E) p),Sm (6*n+36) t:=λt ht=>by
     obtain⟨p,hp,rfl⟩:=List.mem_map.mp ht;refine(OD (k:=2*n+11) (sr w p (List.mem_range.mp hp)) λr hr x hx=>?_).mono ooq;unfold lB at hr;rcases List.mem_append.mp hr with z|z
     . rcases List.mem_append.mp z with z|z
       . exact b1 r (List.mem_of_mem_take z) x hx
       . rw[List.mem_singleton.mp z] at hx;exact b2 x hx
     . exact b1 r (List.mem_of_mem_drop z) x hx
   have d3:=(tQ d2).mono (show 6*n+36+((List.range E.length).map λp=>dtZ (lB (fA e E) (dJ e w E) p)).length<=6*n+39 by rw[List.length_map,List.length_range];omega);split at h
   . cases h
   . cases h;intro t ht;rcases List.mem_cons.mp ht with rfl|z
     . exact(d1.mono ooq).sub d3 ooq
     . exact(d2 t z).mono ooq
def aEJ(k:PL T)(h5:ss.length<=5)(nd:l.Nodup)(ne:l≠[])(hl:∀p∈l,p<ss.length)(he:EyZ e)(hs:∀s∈ss,Z3B 200 s)(hg:Z3B 200 goal)(hm:∀few,gB e goal (l.map (ptZ ss))=some few->∀t∈few,Sm 1800 t)
   (A:∀ts,mL e goal ss l=some ts->D.rt (iL ts) G) (B:mL e goal ss l=none->∀x4 x5,D.nx [some (zsL ss),some (z3L goal),some (eyZ e),some (nL l),x4,x5] G) :
   wpS T ntB D [some (zsL ss),some (z3L goal),some (eyZ e),some (nL l),some (QF (gB e goal (l.map (ptZ ss)))),x5] G:=by
 unfold ntB;unfold mL at A B;cases et:gB e goal (l.map (ptZ ss)) with
 | none =>
   rw[et] at B;have B:=B rfl;clear A hm;have tn:QF none= .non:=rfl;walk_at "rz"
 | some few =>
   rw[et] at A B;have hm:=hm few et;obtain⟨lf,_⟩:=mI et;rw[List.length_map] at lf;have fne:few≠[]:=λz=>by rw[z] at lf;exact ne (List.eq_nil_of_length_eq_zero lf.symm)
   obtain⟨f,ef⟩:=fQ nd lf;have es:jI ss.length l few=(List.range ss.length).map (spF l f):=by rw[ef];exact vD hl
   have sp:Hd (∀{G:Gh} {Q:PK1},Q (iL (jI ss.length l few)) G->T.S "spread" [nL l,iL few,.int (ss.length:Int)] G Q):=⟨λq=>by rw[k.spread];exact⟨l,few,ss.length,rfl,lf.symm,hl,h5,q⟩⟩;have nr:Hd (∀{G:Gh} {Q:PK1},Q (.bl (lG e goal (jI ss.length l few) ss)) G->T.S "is_nearest" [iL (jI ss.length l few),zsL ss,z3L goal,eyZ e] G Q):=⟨λq=>by
     rw[k.is_near];refine⟨_,ss,goal,e,rfl,by rw[es];simp,by rw[es];simp;exact h5,λt ht=>?_,hs,hg,he,q⟩;rw[es] at ht;obtain⟨p,_,rfl⟩:=List.mem_map.mp ht;unfold spF;split
     . rename_i z;exact hm _ (by rw[ef];exact List.mem_map.mpr ⟨p,z,rfl⟩)
     . exact(smK ddq ddq ddq)⟩
   clear es ef hm nd hl hs hg;have pl:∀{G:Gh} {Q:PK1},bU T.cs .len [zsL ss] G Q=Q (.int (ss.length:Int)) G:=λ{_ _}=>jR;have pi:∀{G:Gh} {Q:PK1},pIs true (iL few) .non G Q=Q (.bl true) G:=λ{_ _}=>GD (λz=>by cases z);have A:=Hd.mk A;have B:=Hd.mk B;show wpS T _ D [some (zsL ss),some (z3L goal),some (eyZ e),some (nL l),some (iL few),x5] G;walk_at "rz"
   refine⟨few,rfl,fne,λm hm hl=>?_⟩;have dm:decide (0<=m)=decide (∀x∈few,0<=x):=decide_eq_decide.mpr ⟨λh x hx=>Int.le_trans h (hl x hx),λh=>h m hm⟩;walk_at "rz"
   by_cases c:∀x∈few,0<=x
   . rw[ja c];refine sp.o (nr.o ?_);cases nb:lG e goal (jI ss.length l few) ss with
     | true=>exact A.o _ (ja ⟨c,nb⟩)
     | false=>exact B.o (j9 (λz=>by rw[nb] at z;cases z.2)) _ _
   . rw[j9 c];exact B.o (j9 (λz=>c z.1)) _ _
def uH(k:PL T):∀xs G Q,DV xs G Q->wpS T gJ (aN Q) (aC 6 xs) G:=by
 rintro xs G Q ⟨ss,goal,e,n,rfl,h1,h5,hn,hs,hg,he,hq⟩;obtain⟨so,_⟩:=GL h1 h5;obtain⟨l0,hl0,ts0,ec0⟩:=aE0 (goal:=goal) h1 h5 he;have pl:∀{G:Gh} {Q:PK1},bU T.cs .len [zsL ss] G Q=Q (.int (ss.length:Int)) G:=λ{_ _}=>jR;have st:Hd (∀{G:Gh} {Q:PK1},Q (.lst ((aY ss.length (min ss.length 4)).1.map nL)) G->T.S "sets_of" [.int (ss.length:Int)] G Q):=⟨λq=>by rw[k.sets];exact⟨ss.length,rfl,h1,h5,q⟩⟩;have s200:∀s∈ss,Z3B 200 s:=λs h=>(hs s h).mono ooq;have g200:Z3B 200 goal:=hg.mono ooq;have psm:∀{l:List Nat},(∀p∈l,p<ss.length)->∀s∈l.map (ptZ ss),Z3B n s:=λ{l} hl s hm=>by
   obtain⟨p,hp,rfl⟩:=List.mem_map.mp hm;exact hs _ (by unfold ptZ;simp[hl p hp])
 have tw:Hd (∀{l:List Nat} {G:Gh} {Q:PK1},l≠[]->l.length<=4->(∀p∈l,p<ss.length)->Q (QF (gB e goal (l.map (ptZ ss)))) G->T.S "tops_toward" [zsL (l.map (ptZ ss)),z3L goal,eyZ e] G Q):=⟨λne l4 hl q=>by
   rw[k.toward];exact⟨_,goal,e,rfl,by simpa using ne,by rw[List.length_map];exact l4,λs hm=>(psm hl s hm).mono ooq,g200,he,q⟩⟩
 have hq:=Hd.mk hq;unfold gJ;generalize eA:(CS.asg (.gn 4) (.cal "tops_toward" (.cons ntA (.cons (.var 1) (.cons (.var 2) .nil)))))=A;generalize eB:ntB=B;walk_at "rz"
 refine st.o ?_
 (try walk_at "rz")
 refine cB nL (λj4 Y G'=>G'=G/\∃done x3 x4 x5,(aY ss.length (min ss.length 4)).1=done++j4/\(∀l∈done,mL e goal ss l=none)/\Y=[some (zsL ss),some (z3L goal),some (eyZ e),x3,x4,x5]) (λ_ _ _ _=>trivial) (λl r Y G' R hh hR=>?_) (λY G' hh=>?_) (aY ss.length (min ss.length 4)).1 _ _ ⟨rfl,[],none,none,none,rfl,by simp,rfl⟩
 . obtain⟨rfl,done,x3,x4,x5,ed,hd,rfl⟩:=hh;have lm:l∈(aY ss.length (min ss.length 4)).1:=by rw[ed];simp
   obtain⟨ne,l4,nd,hl⟩:=so l lm;subst eA eB;show wpE T ntA [some (zsL ss),some (z3L goal),some (eyZ e),some (nL l),x4,x5] G' λx G1=>T.S "tops_toward" [x,z3L goal,eyZ e] G1 λy G2=>wpS T ntB _ [some (zsL ss),some (z3L goal),some (eyZ e),some (nL l),some y,x5] G2;refine aFk hl l4 (tw.o ne l4 hl ?_);have ts:=λfew (ef:gB e goal (l.map (ptZ ss))=some few)=>YZ he (psm hl) hg (by rw[List.length_map];exact l4) ef;refine aEJ k h5 nd ne hl he s200 g200 (λfew ef t ht=>(ts few ef t ht).mono ooq) (λts' ec=>Wk.here (hq.o ts' (UM nd l4 hl ec) λt ht=>?_)) (λec x4 x5=>hR _ _ ⟨rfl,done++[l],_,_,_,by rw[ed];simp,λl' h'=>?_,rfl⟩)
   . unfold mL at ec;split at ec
     . cases ec
     . rename_i few ef;split at ec
       . cases ec;obtain⟨f,rfl⟩:=fQ nd (by rw[(mI ef).1,List.length_map]);rw[vD hl] at ht;obtain⟨p,_,rfl⟩:=List.mem_map.mp ht;unfold spF;split
         . rename_i z;exact ts _ ef _ (List.mem_map.mpr ⟨p,z,rfl⟩)
         . exact Sm.mono (k:=1) (by unfold Sm;decide) ooq
       . cases ec
   . rcases List.mem_append.mp h' with z|z
     . exact hd l' z
     . rw[List.mem_singleton.mp z];exact ec
 . obtain⟨rfl,done,x3,x4,x5,ed,hd,rfl⟩:=hh;rw[List.append_nil] at ed;rw[ed] at hl0;rw[hd l0 hl0] at ec0;cases ec0
end
local macro_rules | `(tactic| walk_at "rz") => wk (wqB++" sN eZ yW")
section
variable{T:Tb}
noncomputable def liM:CE:=.blt .max %[.cmpr false (.gn 1) (.isq (.var 1)) .nil (.cal "product" %[.var 2,.var 1,.glo "EVEN_EYE"|_]) [none,none,some 0]|_]
noncomputable def liD:CE:=.cmpr false (.gn 1) (.isq (.var 0)) .nil (.bin .FloorDiv (.var 1) (.var 2)) [none,none,some 3]
noncomputable def liT:CE:=.cmpr false (.gn 1) (.isq (.var 0)) .nil (.tup %[.var 1,.int 1|_]) [none,none]
def nG:CS:=.seq (.asg (.gn 3) (.cal "common" %[.cal "common" %[.blt .abs %[.idx (.var 0) (.int 0)|_],.blt .abs %[.idx (.var 0) (.int 1)|_]|_],.blt .abs %[.idx (.var 0) (.int 2)|_]|_])) (.seq (.asg (.gn 0) liD) (.seq (.asg (.gn 4) liM) (.ret (.tup %[.blt .tuple %[liT|_],.cal "lowest" %[.var 4,.var 2|_]|_]))))
def IY(h:PT T)(k:PL T):∀xs G Q,FC xs G Q->wpS T nG (aN Q) (aC 5 xs) G:=by
 rintro xs G Q ⟨⟨w1,w2,w3⟩,ss,b,rfl,wn,sn,s5,⟨h1,h2,h3⟩,hs,b0,sb,hq⟩;have gp:0<Int.gcd ((Int.gcd (w1.natAbs:Int) (w2.natAbs:Int):Nat):Int) (w3.natAbs:Int):=by
   refine Nat.pos_of_ne_zero λz=>wn ?_;obtain⟨z1,z2⟩:=Int.gcd_eq_zero_iff.mp z;have z1:Int.gcd (w1.natAbs:Int) (w2.natAbs:Int)=0:=by omega
   obtain⟨z3,z4⟩:=Int.gcd_eq_zero_iff.mp z1;have e1:w1=0:=by omega
   have e2:w2=0:=by omega
   have e3:w3=0:=by omega
   rw[e1,e2,e3]
 have gs:Sm 3000 ((Int.gcd ((Int.gcd (w1.natAbs:Int) (w2.natAbs:Int):Nat):Int) (w3.natAbs:Int):Nat):Int):=by
   have d3:Int.gcd ((Int.gcd (w1.natAbs:Int) (w2.natAbs:Int):Nat):Int) (w3.natAbs:Int) ∣ w3.natAbs:=Int.natCast_dvd_natCast.mp (Int.gcd_dvd_right ..);have d0:Int.gcd ((Int.gcd (w1.natAbs:Int) (w2.natAbs:Int):Nat):Int) (w3.natAbs:Int) ∣ Int.gcd (w1.natAbs:Int) (w2.natAbs:Int):=Int.natCast_dvd_natCast.mp (Int.gcd_dvd_left ..);have d1:=Nat.dvd_trans d0 (Int.natCast_dvd_natCast.mp (Int.gcd_dvd_left (w1.natAbs:Int) (w2.natAbs:Int)));have d2:=Nat.dvd_trans d0 (Int.natCast_dvd_natCast.mp (Int.gcd_dvd_right (w1.natAbs:Int) (w2.natAbs:Int)));generalize Int.gcd ((Int.gcd (w1.natAbs:Int) (w2.natAbs:Int):Nat):Int) (w3.natAbs:Int)=g at *;unfold Sm at *;rw[Int.natAbs_natCast];by_cases z1:w1=0
   . by_cases z2:w2=0
     . have z3:w3≠0:=λz=>wn (by rw[z1,z2,z]);exact Nat.lt_of_le_of_lt (Nat.le_of_dvd ooq d3) h3
     . exact Nat.lt_of_le_of_lt (Nat.le_of_dvd ooq d2) h2
   . exact Nat.lt_of_le_of_lt (Nat.le_of_dvd ooq d1) h1
 have cc:Hd (∀{i j:Nat} {G:Gh} {Q:PK1},Q (.int ((Int.gcd (i:Int) (j:Int):Nat):Int)) G->T.S "common" [.int (i:Int),.int (j:Int)] G Q):=⟨λ{i j G Q} q=>by rw[h.common];exact⟨i,j,rfl,by omega,by omega,q⟩⟩;have lo:Hd (∀{t:Int} {G:Gh} {Q:PK1},Q (FQ (Rat.divInt t b)) G->T.S "lowest" [.int t,.int b] G Q):=⟨λ{t G Q} q=>by rw[h.lowest];exact⟨t,b,rfl,b0,sb.mono ddq,q⟩⟩;have ev:=k.gv_EVEN;have D:Hd (∀{g:Int} {x1 x2 x4:Option PV} {G:Gh} {Q:PK1},0<g->Sm 3000 g->Q (z3L (w1/g,w2/g,w3/g)) G->wpE T liD [some (z3L (w1,w2,w3)),x1,x2,some (.int g),x4] G Q):=⟨λ{g x1 x2 x4 G Q} g0 gs q=>by
   unfold liD;have sz:pA (z3L (w1,w2,w3)) G=λR=>R (λ_=>True) ([w1,w2,w3].map PV.int) G:=rfl;have q:=Hd.mk q;have dv:=λ(w:Int)=>(FF (i:=w) g0 gs);have l3:([w1,w2,w3].map PV.int).length<=sizeLine:=sz3;generalize eL: [w1,w2,w3].map PV.int=L at *;walk_at "rz"
   subst eL;refine aQ (chk:=λ_=>True) (G:=G) PV.int (λw=>.int (w/g)) (λY=>∃x1,Y=[none,x1,some (.int g)]) trivial [w1,w2,w3] [] _ _ ⟨none,rfl⟩ (λp hp Y R N hh hR=>?_) q.o;obtain⟨x1,rfl⟩:=hh;exact⟨dv p,hR _ ⟨some (.int p),rfl⟩⟩⟩
 have M:Hd (∀{u:Z3} {x2 x3 x4:Option PV} {G:Gh} {Q:PK1},Z3B 3000 u->(∀n,Q (.int n) G)->wpE T liM [some (z3L u),some (zsL ss),x2,x3,x4] G Q):=⟨λ{u x2 x3 x4 G Q} hu q=>by
   unfold liM;have q:=Hd.mk q;have kp:Hd (∀{s:Z3} {G:Gh} {Q:PK1},s∈ss->Q (.int (aR (1,1,1) u s)) G->T.S "product" [z3L u,z3L s,.tup [.int 1,.int 1,.int 1]] G Q):=⟨λ{s G Q} h q=>by
     rw[k.prod];exact⟨u,s,(1,1,1),rfl,hu.mono ddq,(hs s h).mono ddq,⟨smK ddq ddq ddq,smK ddq ddq ddq,smK ddq ddq ddq⟩,q⟩⟩
   have lz:(ss.map z3L).length<=sizeLine:=dF ooq;generalize eI:(CE.cal "product" (.cons (.var 2) (.cons (.var 1) (.cons (.glo "EVEN_EYE") .nil))))=I;walk_at "rz"
   refine aQ (chk:=λ_=>True) (G:=G) z3L (λs=>.int (aR (1,1,1) u s)) (λY=>∃x1,Y=[none,x1,some (z3L u)]) trivial ss [] _ _ ⟨none,rfl⟩ (λp hp Y R N hh hR=>?_) ?_
   . obtain⟨x1,rfl⟩:=hh;have hR:=Hd.mk (hR _ ⟨some (z3L p),rfl⟩);subst eI;show T.S "product" [z3L u,z3L p,T.gv "EVEN_EYE"] G _;rw[ev];exact kp.o hp hR.o
   . rw[List.nil_append];exact⟨ss.map (aR (1,1,1) u),by rw[List.map_map];rfl,by simpa using sn,λm _ _=>q.o m⟩⟩
 have L:Hd (∀{u:Z3} {x1 x2 x3 x4:Option PV} {G:Gh} {Q:PK1},Q (.lst [.tup [.int u.1,.int 1],.tup [.int u.2.1,.int 1],.tup [.int u.2.2,.int 1]]) G->wpE T liT [some (z3L u),x1,x2,x3,x4] G Q):=⟨λ{u x1 x2 x3 x4 G Q} q=>by
   unfold liT;have q:=Hd.mk q;have sz:pA (z3L u) G=λR=>R (λ_=>True) ([u.1,u.2.1,u.2.2].map PV.int) G:=rfl;have l3:([u.1,u.2.1,u.2.2].map PV.int).length<=sizeLine:=sz3;generalize eL: [u.1,u.2.1,u.2.2].map PV.int=L at *;walk_at "rz"
   subst eL;refine aQ (chk:=λ_=>True) (G:=G) PV.int (λw=>.tup [.int w,.int 1]) (λY=>∃x1,Y=[none,x1]) trivial [u.1,u.2.1,u.2.2] [] _ _ ⟨none,rfl⟩ (λp hp Y R N hh hR=>?_) q.o;obtain⟨x1,rfl⟩:=hh;exact⟨sz2,hR _ ⟨some (.int p),rfl⟩⟩⟩
 have hq:=Hd.mk hq;have ix:∀{G:Gh} {Q:PK1},gR (z3L (w1,w2,w3)) (.int 0) G Q=Q (.int w1) G/\gR (z3L (w1,w2,w3)) (.int 1) G Q=Q (.int w2) G/\gR (z3L (w1,w2,w3)) (.int 2) G Q=Q (.int w3) G:=λ{G Q}=>by
   unfold z3L;rw[aX,aX,aX,at0,at1,at2];exact⟨propext ⟨by rintro⟨v,e,q⟩;cases e;exact q,λq=>⟨_,rfl,q⟩⟩,propext ⟨by rintro⟨v,e,q⟩;cases e;exact q,λq=>⟨_,rfl,q⟩⟩,propext ⟨by rintro⟨v,e,q⟩;cases e;exact q,λq=>⟨_,rfl,q⟩⟩⟩
 have i0:=λ{G:Gh} {Q:PK1}=>(@ix G Q).1;have i1:=λ{G:Gh} {Q:PK1}=>(@ix G Q).2.1;have i2:=λ{G:Gh} {Q:PK1}=>(@ix G Q).2.2;have gp':0<((Int.gcd ((Int.gcd (w1.natAbs:Int) (w2.natAbs:Int):Nat):Int) (w3.natAbs:Int):Nat):Int):=by omega
 have hu:Z3B 3000 (w1/((Int.gcd ((Int.gcd (w1.natAbs:Int) (w2.natAbs:Int):Nat):Int) (w3.natAbs:Int):Nat):Int),w2/((Int.gcd ((Int.gcd (w1.natAbs:Int) (w2.natAbs:Int):Nat):Int) (w3.natAbs:Int):Nat):Int),w3/((Int.gcd ((Int.gcd (w1.natAbs:Int) (w2.natAbs:Int):Nat):Int) (w3.natAbs:Int):Nat):Int)):=⟨h1.div gp',h2.div gp',h3.div gp'⟩;clear ix hs ev;unfold nG;generalize eM:liM=LM at *;generalize eD:liD=LD at *;generalize eT:liT=LT at *;walk_at "rz"
 refine cc.o ?_
 (try walk_at "rz")
 refine cc.o ?_
 (try walk_at "rz")
 refine D.o gp' gs ?_
 (try walk_at "rz")
 refine M.o hu λnum=>?_
 (try walk_at "rz")
 refine L.o ?_
 (try walk_at "rz")
 refine lo.o ?_
 (try walk_at "rz")
end
def jV(h:Dv b r):((aH b r).1:Rat)=r.1*b/\((aH b r).2.1:Rat)=r.2.1*b/\((aH b r).2.2:Rat)=r.2.2*b:=⟨rR h.1,rR h.2.1,rR h.2.2⟩
def uK(hb:0<b)(sb:Sm n b)(h:Dv b r)(i:I1 r):Z3B n (aH b r):=by
 have go:∀{q:Rat},(q.den:Int) ∣ b->In1 q->Sm n (q.num*(b/(q.den:Int))):=λ{q} hd ⟨h0,h1⟩=>by
   have e:=rR hd;have bq:0<(b:Rat):=Rat.intCast_pos.mpr hb;have e0:=Rat.mul_nonneg h0 (Rat.le_of_lt bq);have e1:=Rat.mul_nonneg (show 0<=1-q by grind) (Rat.le_of_lt bq);refine sb.le (Rat.intCast_nonneg.mp (by rw[e];exact e0)) (Rat.intCast_le_intCast.mp (by rw[e];grind))
 exact⟨go h.1 i.1,go h.2.1 i.2.1,go h.2.2 i.2.2⟩
def bD:Rat.divInt t b=(t:Rat)/(b:Rat):=Rat.divInt_eq_div t b
theorem zB(hP:P≠0)(hb:b≠0):∀{ts:List Int} {rows:List R3} {sp:R3->Z3},(∀r∈rows,((g (sp r):Int):Rat)=f r*b)->mdQ f (ts.map λt:Int=>(t:Rat)/P) rows=((mdZ g ts (rows.map sp):Int):Rat)/(P*b)
 | [],rows,sp,_=>by
   unfold mdQ mdZ;rw[List.map_nil,List.zip_nil_left,List.zip_nil_left];show(0:Rat)=((0:Int):Rat)/(P*b);rw[show((0:Int):Rat)=0 from rfl];grind
 | t::ts,[],sp,_=>by
   unfold mdQ mdZ;rw[List.map_nil,List.zip_nil_right,List.zip_nil_right];show(0:Rat)=((0:Int):Rat)/(P*b);rw[show((0:Int):Rat)=0 from rfl];grind
 | t::ts,r::rows,sp,h=>by
   have ih:=zB (f:=f) (g:=g) hP hb (ts:=ts) (rows:=rows) (sp:=sp) λr hr=>h r (wCq _ hr);have h0:=h r (by simp);have e1:mdQ f ((t::ts).map λt:Int=>(t:Rat)/P) (r::rows)=(t:Rat)/P*f r+mdQ f (ts.map λt:Int=>(t:Rat)/P) rows:=by unfold mdQ;rw[List.map_cons,List.zip_cons_cons,List.map_cons,List.sum_cons]
   have e2:mdZ g (t::ts) ((r::rows).map sp)=t*g (sp r)+mdZ g ts (rows.map sp):=by unfold mdZ;rw[List.map_cons,List.zip_cons_cons,List.map_cons,List.sum_cons]
   rw[e1,e2,ih,Rat.intCast_add,Rat.intCast_mul,h0]
   grind
theorem zC(hP:P≠0):∀ts:List Int,(ts.map λt:Int=>(t:Rat)/P).sum=((ts.sum:Int):Rat)/P
 | []=>by
   show(0:Rat)=((0:Int):Rat)/P;rw[show((0:Int):Rat)=0 from rfl];grind
 | t::ts=>by
   rw[List.map_cons,List.sum_cons,List.sum_cons,zC hP ts,Rat.intCast_add];grind
theorem CV:∀{ms:List Rat} {rows:List R3},ms.length=rows.length->(∀m∈ms,0<=m)->(∀r∈rows,In1 (f r))->0<=mdQ f ms rows/\mdQ f ms rows<=ms.sum
 | [],[],_,_,_=>⟨Rat.le_refl,Rat.le_refl⟩
 | m::ms,r::rows,h,hm,hr=>by
   obtain⟨a,b⟩:=CV (f:=f) (ms:=ms) (rows:=rows) (by simpa using h) (λm z=>hm m (wCq _ z)) (λr z=>hr r (wCq _ z));have e1:mdQ f (m::ms) (r::rows)=m*f r+mdQ f ms rows:=by unfold mdQ;rw[List.zip_cons_cons,List.map_cons,List.sum_cons]
   obtain⟨c,d⟩:=hr r (by simp);have h0:=hm m (by simp);have x:=Rat.mul_nonneg h0 c;have y:=Rat.mul_nonneg h0 (show 0<=1-f r by grind);rw[e1,List.sum_cons];exact⟨by grind,by grind⟩
def DP(t:Int)(hb:b≠0):((Rat.divInt t b).den:Int) ∣ b:=by
 generalize e:Rat.divInt t b=x;have e2:(t:Rat)=x*b:=by
   rw[<-e,bD];have:(b:Rat)≠0:=λz=>hb (Rat.intCast_eq_zero_iff.mp z)
   grind
 have nq:((x.den:Int):Rat)≠0:=λz=>Int.ne_of_gt bA (Rat.intCast_eq_zero_iff.mp z);have e:=Rat.num_divInt_den x;rw[bD] at e;have e4:(x.num:Rat)=x*((x.den:Int):Rat):=by
   have:=Rat.div_mul_cancel (a:=(x.num:Rat)) nq;rw[e] at this;exact this.symm
 have e3:((x.num*b:Int):Rat)=((t*(x.den:Int):Int):Rat):=by
   rw[Rat.intCast_mul,Rat.intCast_mul,e4,e2];grind
 have hd:(x.den:Int) ∣ x.num*b:=⟨t,by rw[Rat.intCast_inj.mp e3,Int.mul_comm]⟩;have hn:x.den ∣ x.num.natAbs*b.natAbs:=by
   have:=Int.natAbs_dvd_natAbs.mpr hd;rw[Int.natAbs_mul,Int.natAbs_natCast] at this;exact this
 exact Int.ofNat_dvd_left.mpr (Nat.Coprime.dvd_of_dvd_mul_left (Nat.Coprime.symm x.reduced) hn)
def aD6(hb:0<b)(sb:Sm n b)(hr:∀r∈rows,Dv b r/\I1 r)(dg:Dv b g)(h5:rows.length<=5)(T:HC e (aH b g) (rows.map (aH b)) ts)(st:∀t∈ts,Sm (6*n+40) t) :
   MkR rows g e n (ts.map λt=>Rat.divInt t ts.sum) (Rat.divInt (aJ ts (rows.map (aH b))).1 (ts.sum*b),Rat.divInt (aJ ts (rows.map (aH b))).2.1 (ts.sum*b),Rat.divInt (aJ ts (rows.map (aH b))).2.2 (ts.sum*b))/\
   ((Rat.divInt (aJ ts (rows.map (aH b))).1 (ts.sum*b),Rat.divInt (aJ ts (rows.map (aH b))).2.1 (ts.sum*b),Rat.divInt (aJ ts (rows.map (aH b))).2.2 (ts.sum*b))=g↔aB ts.sum (aJ ts (rows.map (aH b))) (aH b g)=(0,0,0)):=by
 have P0:0<(ts.sum:Rat):=Rat.intCast_pos.mpr T.pos;have b0:0<(b:Rat):=Rat.intCast_pos.mpr hb;have Pn:(ts.sum:Rat)≠0:=by grind
 have bn:(b:Rat)≠0:=by grind
 have Pb:0<(ts.sum:Rat)*(b:Rat):=Rat.mul_pos P0 b0;have tl:ts.length<=5:=by rw[T.len,List.length_map];exact h5
 have em:(ts.map λt=>Rat.divInt t ts.sum)=ts.map λt:Int=>(t:Rat)/(ts.sum:Rat):=List.map_congr_left λt _=>bD;have x1:Rat.divInt (aJ ts (rows.map (aH b))).1 (ts.sum*b)=mdQ (·.1) (ts.map λt=>Rat.divInt t ts.sum) rows:=by
   rw[em,zB (g:=λs=>s.1) Pn bn λr h=>(jV (hr r h).1).1,bD,Rat.intCast_mul];rfl
 have x2:Rat.divInt (aJ ts (rows.map (aH b))).2.1 (ts.sum*b)=mdQ (·.2.1) (ts.map λt=>Rat.divInt t ts.sum) rows:=by
   rw[em,zB (g:=λs=>s.2.1) Pn bn λr h=>(jV (hr r h).1).2.1,bD,Rat.intCast_mul];rfl
 have x3:Rat.divInt (aJ ts (rows.map (aH b))).2.2 (ts.sum*b)=mdQ (·.2.2) (ts.map λt=>Rat.divInt t ts.sum) rows:=by
   rw[em,zB (g:=λs=>s.2.2) Pn bn λr h=>(jV (hr r h).1).2.2,bD,Rat.intCast_mul];rfl
 have nn:∀m∈ts.map λt=>Rat.divInt t ts.sum,0<=m:=λm hm=>by
   obtain⟨t,ht,rfl⟩:=List.mem_map.mp hm;exact Rat.divInt_nonneg (T.nn t ht) (Int.le_of_lt T.pos)
 have one:(ts.map λt=>Rat.divInt t ts.sum).sum=1:=by rw[em,zC Pn];grind
 have ml:(ts.map λt=>Rat.divInt t ts.sum).length=rows.length:=by rw[List.length_map,T.len,List.length_map]
 have in1:∀(f:R3->Rat),(∀r∈rows,In1 (f r))->In1 (mdQ f (ts.map λt=>Rat.divInt t ts.sum) rows):=λf hf=>by
   obtain⟨a,c⟩:=CV ml nn hf;rw[one] at c;exact⟨a,c⟩
 have sp:=tQ st;have Pb0:ts.sum*b≠0:=Int.ne_of_gt (Int.mul_pos T.pos hb);have sPb:Sm (8*n+60) (ts.sum*b):=(sp.mul sb).mono ooq;have smd:=zJ st λs hs=>by
   obtain⟨r,h,rfl⟩:=List.mem_map.mp hs;exact uK hb sb (hr r h).1 (hr r h).2
 have cz:∀{c gz:Int} {gq nq:Rat},(gz:Rat)=gq*b->nq=(c:Rat)/((ts.sum:Rat)*b)->((ts.sum*gz-c:Int):Rat)=(ts.sum:Rat)*b*(gq-nq):=λ{c gz gq nq} h1 h2=>by
   rw[Rat.intCast_sub,Rat.intCast_mul,h1,h2];grind
 have dq:∀{c:Int},Rat.divInt c (ts.sum*b)=(c:Rat)/((ts.sum:Rat)*b):=λ{c}=>by rw[bD,Rat.intCast_mul]
 obtain⟨g1,g2,g3⟩:=jV dg;have d1:=dq (c:=(aJ ts (rows.map (aH b))).1);have d2:=dq (c:=(aJ ts (rows.map (aH b))).2.1);have d3:=dq (c:=(aJ ts (rows.map (aH b))).2.2);have near:=T.near;unfold lG at near;rw[List.all_eq_true] at near;refine⟨⟨ml,nn,one,?_,by rw[x1,x2,x3],?_,⟨by rw[x1];exact in1 _ λr h=>(hr r h).2.1,by rw[x2];exact in1 _ λr h=>(hr r h).2.2.1,by rw[x3];exact in1 _ λr h=>(hr r h).2.2.2⟩,⟨Bd.divInt (smd.1.mono ooq) sPb Pb0,Bd.divInt (smd.2.1.mono ooq) sPb Pb0,Bd.divInt (smd.2.2.mono ooq) sPb Pb0⟩,?_,⟨ts.sum*b,Int.mul_pos T.pos hb,(sp.mul sb).mono ooq,⟨DP _ Pb0,DP _ Pb0,DP _ Pb0⟩,λr h=>⟨Int.dvd_trans (hr r h).1.1 (Int.dvd_mul_left _ _),Int.dvd_trans (hr r h).1.2.1 (Int.dvd_mul_left _ _),Int.dvd_trans (hr r h).1.2.2 (Int.dvd_mul_left _ _)⟩⟩⟩,?_⟩
 . refine Nat.le_trans ?_ T.few;have : ∀L:List Int,(((L.map λt=>Rat.divInt t ts.sum).filter λm=>decide (m≠0)).length<=(L.filter λt=>decide (t≠0)).length):=λL=>by
     induction L with
     | nil=>exact Nat.le_refl _
     | cons a L ih =>
       rw[List.map_cons];by_cases z:a=0
       . have:Rat.divInt a ts.sum=0:=by rw[z,Rat.zero_divInt]
         rw[List.filter_cons_of_neg (by simp[this]),List.filter_cons_of_neg (by simp[z])];exact ih
       . rw[List.filter_cons_of_pos (p:=λt:Int=>decide (t≠0)) (by simp[z]),List.length_cons,List.filter_cons];split
         . rw[List.length_cons];omega
         . omega
   exact this ts
 . intro r h;obtain⟨s1,s2,s3⟩:=jV (hr r h).1;have:=near (aH b r) (List.mem_map.mpr ⟨r,h,rfl⟩);rw[decide_eq_true_iff] at this;have:=Rat.intCast_nonpos.mpr this;unfold aR aB at this;simp only[Rat.intCast_add,Rat.intCast_mul] at this;rw[cz g1 d1,cz g2 d2,cz g3 d3,cz s1 d1,cz s2 d2,cz s3 d3] at this;unfold ipQ;exact Classical.byContradiction λz=>by
     have:=Rat.mul_pos (Rat.mul_pos Pb Pb) (Rat.not_le.mp z)
     grind
 . intro m hm;obtain⟨t,ht,rfl⟩:=List.mem_map.mp hm;exact Bd.divInt ((st t ht).mono ooq) (sp.mono ooq) (Int.ne_of_gt T.pos)
 . have k1:=cz g1 d1;have k2:=cz g2 d2;have k3:=cz g3 d3;have ze:∀{x:Int} {a c:Rat},(x:Rat)=(ts.sum:Rat)*b*(a-c)->(c=a↔x=0):=λ{x a c} h=>by
     constructor
     . intro z;rw[z] at h;have:(x:Rat)=0:=by rw[h];grind
       exact Rat.intCast_eq_zero_iff.mp this
     . intro z;rw[z] at h;have h:(ts.sum:Rat)*b*(a-c)=0:=h.symm;rcases Rat.mul_eq_zero.mp h with w|w<;>grind
   unfold aB;rw[Prod.ext_iff,Prod.ext_iff,Prod.ext_iff,Prod.ext_iff];exact and_congr (ze k1) (and_congr (ze k2) (ze k3))
def aEY:pEq false (z3L (a,b,c)) (.lst [.int 0,.int 0,.int 0]) G Q=Q (.bl (decide ((a,b,c)=((0,0,0):Z3)))) G:=by
 have s:∀x y z:Int,shp (z3L (x,y,z))=true:=λ_ _ _=>rfl;show(shp (z3L (a,b,c))=true/\shp (z3L (0,0,0))=true/\Q (.bl (peq (z3L (a,b,c)) (z3L (0,0,0)))) G)=_;have:peq (z3L (a,b,c)) (z3L (0,0,0))=decide ((a,b,c)=((0,0,0):Z3)):=by
   unfold z3L;simp only[peq,oJ,Bool.and_true];rw[Bool.eq_iff_iff];simp
 rw[this,s,s];simp
local macro_rules | `(tactic| walk_at "rz") => wk (wqB++" jS aBJ eO jO gC sz1 XL")
section
variable{T:Tb}
noncomputable def mkR:CE:=.cmpr false (.gn 1) (.isq (.var 0)) .nil (.cal "shares_of" (.cons (.var 1) .nil)) [none,none]
noncomputable def mkS:CE:=.cmpr false (.gn 1) (.isq (.var 3)) .nil (.cal "spot_over" (.cons (.var 1) (.cons (.var 2) .nil))) [none,none,some 4]
noncomputable def mkW:CE:=.cmpr false (.gt 2 (.cons (.gn 1) (.cons (.gn 2) .nil))) (.izp (.cons (.var 2) (.cons (.cal "gone" (.cons (.var 8) (.cons (.var 6) (.cons (.var 9) .nil)))) .nil))) .nil (.bin .Mult (.var 1) (.var 2)) [none,none,none]
noncomputable def mkT:CE:=.cmpr false (.gn 1) (.isq (.var 7)) .nil (.cal "lowest" (.cons (.var 1) (.cons (.var 2) .nil))) [none,none,some 9]
noncomputable def mkN:CE:=.cmpr false (.gn 1) (.isq (.var 8)) .nil (.cal "lowest" (.cons (.var 1) (.cons (.bin .Mult (.var 3) (.var 2)) .nil))) [none,none,some 4,some 9]
def wI:CS:=.seq (.ex (.cal "need_lights" %[.var 0|_])) (.seq (.ex (.cal "need_shade" %[.var 1|_])) (.seq (.asg (.gn 2) (.cal "eye_of" %[.var 2|_])) (.seq (.asg (.gn 3) mkR) (.seq (.asg (.gn 4) (.cal "shared_bottom" %[.bin .Add (.var 3) (.lst false %[.cal "shares_of" %[.var 1|_]|_])|_])) (.seq (.asg (.gn 5) mkS) (.seq (.asg (.gn 6) (.cal "spot_over" %[.cal "shares_of" %[.var 1|_],.var 4|_])) (.seq (.asg (.gn 7) (.cal "nearest_tops" %[.var 5,.var 6,.var 2|_])) (.seq (.asg (.gn 8) (.cal "made_by" %[.var 7,.var 5|_])) (.seq (.asg (.gn 9) (.blt .sum %[.var 7|_])) (.seq (.asg (.gn 10) mkW) (.seq (.asg (.gn 11) (.ite (.tsb (.cmp .Eq (.var 10) (.lst false %[.int 0,.int 0,.int 0|_]))) .non (.cal "line_by" %[.var 10,.var 5,.var 4|_]))) (.seq (.asg (.gn 12) (.blt .tuple %[mkT|_])) (.ret (.tup %[.var 12,.cal "shade_of" %[mkN|_],.var 11|_]))))))))))))))
def aDy(h:PT T){rows:List R3}{Y:PSt}{G:Gh}{Q:PK1}(h5:rows.length<=5)(q:Q (.lst (rows.map aG)) G):wpE T mkR (some (.tup (rows.map shV))::Y) G Q:=by
 unfold mkR;have q:=Hd.mk q;have so:Hd (∀{r:R3} {G:Gh} {Q:PK1},Q (aG r) G->T.S "shares_of" [shV r] G Q):=⟨λ{r G Q} q=>by rw[h.shares_of];exact⟨_,_,_,rfl,q⟩⟩;have lz:(rows.map shV).length<=sizeLine:=dF ooq;walk_at "rz"
 refine aQ (chk:=λ_=>True) (G:=G) shV aG (λY=>∃x1,Y=[none,x1]) trivial rows [] _ _ ⟨none,rfl⟩ (λr hr Y R N hh hR=>?_) q.o;obtain⟨x1,rfl⟩:=hh;exact so.o (hR _ ⟨some (shV r),rfl⟩)
def aEE(k:PL T){rows:List R3}{b:Int}{x0 x1 x2:Option PV}{Y:PSt}{G:Gh}{Q:PK1}(h5:rows.length<=5)(hb:0<b)(sb:Sm 140 b)(hr:∀r∈rows,Dv b r/\I1 r)(q:Q (zsL (rows.map (aH b))) G):wpE T mkS (x0::x1::x2::some (.lst (rows.map aG))::some (.int b)::Y) G Q:=by
 unfold mkS;have q:=Hd.mk q;have so:Hd (∀{r:R3} {G:Gh} {Q:PK1},r∈rows->Q (z3L (aH b r)) G->T.S "spot_over" [aG r,.int b] G Q):=⟨λ{r G Q} h q=>by rw[k.spot];exact⟨r,b,rfl,hb,sb.mono ddq,(hr r h).1,(hr r h).2,q⟩⟩;have lz:(rows.map aG).length<=sizeLine:=dF ooq;clear hr;walk_at "rz"
 refine aQ (chk:=λ_=>True) (G:=G) aG (λr=>z3L (aH b r)) (λY=>∃x1,Y=[none,x1,some (.int b)]) trivial rows [] _ _ ⟨none,rfl⟩ (λr hr Y R N hh hR=>?_) ?_
 . obtain⟨x1,rfl⟩:=hh;exact so.o hr (hR _ ⟨some (aG r),rfl⟩)
 . have:=q.o;unfold zsL at this;rw[List.map_map] at this;exact this
def aDL(k:PL T){x0 x1 x3 x4 x5 x7:Option PV}{Y:PSt}{G:Gh}(he:EyZ e)(hn:Z3B 2000 near)(hg:Z3B 200 goal)(ht:Sm 1800 t)
   (q:Q (z3L (e.1*(aB t near goal).1,e.2.1*(aB t near goal).2.1,e.2.2*(aB t near goal).2.2)) G):wpE T mkW (x0::x1::some (eyZ e)::x3::x4::x5::some (z3L goal)::x7::some (z3L near)::some (.int t)::Y) G Q:=by
 unfold mkW;have go:Hd (∀{G:Gh} {Q:PK1},Q (z3L (aB t near goal)) G->T.S "gone" [z3L near,z3L goal,.int t] G Q):=⟨λ{G Q} q=>by rw[k.gone];exact⟨near,goal,t,rfl,ht.mono ddq,hg.mono ddq,q⟩⟩;have hm:=vN (l:=2100) ht hn hg ddq ddq;generalize aB t near goal=m at *;have q:=Hd.mk q;have s7:=he.sm;clear hn hg ht he;walk_at "rz"
 refine go.o ⟨.inl trivial,3,[[.int e.1,.int e.2.1,.int e.2.2],[.int m.1,.int m.2.1,.int m.2.2]],rfl,.inl (by simp),?_⟩;rw[aAl];refine⟨sz3,?_⟩;refine aQ (chk:=λ_=>True) (G:=G) (λp:Int×Int=>PV.tup [.int p.1,.int p.2]) (λp=>.int (p.1*p.2)) (λY=>∃x1 x2,Y=[none,x1,x2]) trivial [(e.1,m.1),(e.2.1,m.2.1),(e.2.2,m.2.2)] [] _ _ ⟨none,none,rfl⟩ (λp hp Y R N hh hR=>?_) q.o;obtain⟨x1,x2,rfl⟩:=hh;have hR:=hR _ ⟨some (.int p.1),some (.int p.2),rfl⟩;have sm:mZ p.1 p.2:=by
   simp only[List.mem_cons,List.not_mem_nil,or_false] at hp;rcases hp with rfl|rfl|rfl
   . exact bY s7.1 hm.1
   . exact bY s7.2.1 hm.2.1
   . exact bY s7.2.2 hm.2.2
 exact⟨[.int p.1,.int p.2],rfl,rfl,_,_,rfl,_,_,rfl,rfl,sm,hR⟩
def aDm(h:PT T){ts:List Int}{Y:PSt}{Q:PK1}(h5:ts.length<=5)(ht:t≠0)(st:Sm 9000 t)(q:Q (.lst ((ts.map λx=>Rat.divInt x t).map FQ)) G):wpE T mkT (x0::x1::x2::x3::x4::x5::x6::some (iL ts)::x8::some (.int t)::Y) G Q:=by
 unfold mkT;have q:=Hd.mk q;have lo:Hd (∀{x:Int} {G:Gh} {Q:PK1},Q (FQ (Rat.divInt x t)) G->T.S "lowest" [.int x,.int t] G Q):=⟨λ{x G Q} q=>by rw[h.lowest];exact⟨x,t,rfl,ht,st,q⟩⟩;have lz:(ts.map PV.int).length<=sizeLine:=dF ooq;walk_at "rz"
 refine aQ (chk:=λ_=>True) (G:=G) PV.int (λx=>FQ (Rat.divInt x t)) (λY=>∃x1,Y=[none,x1,some (.int t)]) trivial ts [] _ _ ⟨none,rfl⟩ (λx hx Y R N hh hR=>?_) ?_
 . obtain⟨x1,rfl⟩:=hh;exact lo.o (hR _ ⟨some (.int x),rfl⟩)
 . have:=q.o;rw[List.map_map] at this;exact this
def aE9(h:PT T){Y:PSt}{G:Gh}{Q:PK1}(hz:t*b≠0)(st:Sm 3000 t)(sb:Sm 3000 b)(q:Q (.lst [FQ (Rat.divInt near.1 (t*b)),FQ (Rat.divInt near.2.1 (t*b)),FQ (Rat.divInt near.2.2 (t*b))]) G) :
   wpE T mkN (x0::x1::x2::x3::some (.int b)::x5::x6::x7::some (z3L near)::some (.int t)::Y) G Q:=by
 unfold mkN;have q:=Hd.mk q;have lo:Hd (∀{x:Int} {G:Gh} {Q:PK1},Q (FQ (Rat.divInt x (t*b))) G->T.S "lowest" [.int x,.int (t*b)] G Q):=⟨λ{x G Q} q=>by rw[h.lowest];exact⟨x,t*b,rfl,hz,(st.mul sb).mono ddq,q⟩⟩;have mb:=bY st sb;have sz:pA (z3L near) G=λR=>R (λ_=>True) ([near.1,near.2.1,near.2.2].map PV.int) G:=rfl;have l3:([near.1,near.2.1,near.2.2].map PV.int).length<=sizeLine:=sz3;generalize eL: [near.1,near.2.1,near.2.2].map PV.int=L at *;walk_at "rz"
 subst eL;refine aQ (chk:=λ_=>True) (G:=G) PV.int (λx=>FQ (Rat.divInt x (t*b))) (λY=>∃x1,Y=[none,x1,some (.int b),some (.int t)]) trivial [near.1,near.2.1,near.2.2] [] _ _ ⟨none,rfl⟩ (λx hx Y R N hh hR=>?_) q.o;obtain⟨x1,rfl⟩:=hh;exact⟨mb,lo.o (hR _ ⟨some (.int x),rfl⟩)⟩
def aCq(h:PT T)(k:PL T):∀xs G Q,CM xs G Q->wpS T wI (aN Q) (aC 13 xs) G:=by
 rintro xs G Q ⟨rows,g,x,e,n,m,rfl,h1,h5,hx,he,hm,sm,hn,hr,dg,ig,hq⟩;have A1:Hd (∀{G:Gh} {Q:PK1},Q .non G->T.S "need_lights" [.tup (rows.map shV)] G Q):=⟨λq=>by rw[k.need_lights];exact⟨rows,rfl,h1,h5,q⟩⟩;have A2:Hd (∀{G:Gh} {Q:PK1},Q .non G->T.S "need_shade" [shV g] G Q):=⟨λq=>by rw[h.need_shade];exact⟨_,_,_,rfl,q⟩⟩;have A3:Hd (∀{G:Gh} {Q:PK1},Q (eyZ e) G->T.S "eye_of" [x] G Q):=⟨λq=>by rw[k.eye_of];exact⟨x,_,_,_,rfl,hx,he,q⟩⟩;have A4:Hd (∀{G:Gh} {Q:PK1},Q (aG g) G->T.S "shares_of" [shV g] G Q):=⟨λq=>by rw[h.shares_of];exact⟨_,_,_,rfl,q⟩⟩;have A5:Hd (∀{G:Gh} {Q:PK1},(∀b,0<b->Sm n b->(∀r∈rows,Dv b r)->Dv b g->Q (.int b) G)->T.S "shared_bottom" [.lst (rows.map aG++[aG g])] G Q):=⟨λq=>by
   rw[k.bottom];refine⟨rows++[g],m,by rw[List.map_append];rfl,hm,sm.mono ooq,λr hr'=>?_,λb b0 bm hb=>q b b0 (xL sm hm b0 bm) (λr hr'=>hb r (by simp[hr'])) (hb g (by simp))⟩;rcases List.mem_append.mp hr' with z|z
   . exact(hr r z).1
   . rw[List.mem_singleton.mp z];exact dg⟩
 have R:=Hd.mk (λ{Y:PSt} {G:Gh} {Q:PK1} (q:Q (.lst (rows.map aG)) G)=>aDy (T:=T) (Y:=Y) h h5 q);have ad:∀{G:Gh} {Q:PK1},vR (.lst (rows.map aG)) (.lst [aG g]) G Q=Q (.lst (rows.map aG++[aG g])) G:=λ{G Q}=>by
   rw[eO];exact propext ⟨λz=>z.2,λz=>⟨szN (by rw[List.length_map,List.length_singleton];omega),z⟩⟩
 have hq:=Hd.mk hq;have hr':=Hd.mk hr;have ig:=Hd.mk ig;unfold wI;generalize eR:mkR=CR at *;generalize eS:mkS=CS';generalize eW:mkW=CW;generalize eT:mkT=CT;generalize eN:mkN=CN;walk_at "rz"
 refine A1.o ?_
 (try walk_at "rz")
 refine A2.o ?_
 (try walk_at "rz")
 refine A3.o ?_
 (try walk_at "rz")
 refine R.o ?_
 (try walk_at "rz")
 refine A4.o ?_
 (try walk_at "rz")
 refine⟨szN (by rw[List.length_map];omega),A5.o λb b0 sb hb bg=>?_⟩
 (try walk_at "rz")
 subst eS;refine aEE k h5 b0 (sb.mono hn) (λr z=>⟨hb r z,(hr'.o r z).2⟩) ?_
 (try walk_at "rz")
 refine A4.o ?_
 (try walk_at "rz")
 have A6:Hd (∀{G:Gh} {Q:PK1},Q (z3L (aH b g)) G->T.S "spot_over" [aG g,.int b] G Q):=⟨λq=>by rw[k.spot];exact⟨g,b,rfl,b0,sb.mono ooq,bg,ig.o,q⟩⟩;refine A6.o ?_
 (try walk_at "rz")
 have ss:=λ(s:Z3) (hs:s∈rows.map (aH b))=>(by
   obtain⟨r,z,rfl⟩:=List.mem_map.mp hs;exact uK b0 sb (hb r z) (hr'.o r z).2:Z3B n s)
 have sg:=uK b0 sb bg ig.o;have A7:Hd (∀{G:Gh} {Q:PK1},(∀ts,HC e (aH b g) (rows.map (aH b)) ts->(∀t∈ts,Sm (6*n+40) t)->Q (iL ts) G)->T.S "nearest_tops" [zsL (rows.map (aH b)),z3L (aH b g),eyZ e] G Q):=⟨λq=>by
   rw[k.tops];exact⟨_,_,e,n,rfl,by rw[List.length_map];exact h1,by rw[List.length_map];exact h5,hn,ss,sg,he,q⟩⟩
 refine A7.o λts TO st=>?_
 (try walk_at "rz")
 obtain⟨MK,iff0⟩:=aD6 b0 sb (λr z=>⟨hb r z,(hr'.o r z).2⟩) bg h5 TO st;have tl:ts.length<=5:=by rw[TO.len,List.length_map];exact h5
 have snear:=zJ st ss;have spart:=tQ st;have A8:Hd (∀{G:Gh} {Q:PK1},Q (z3L (aJ ts (rows.map (aH b)))) G->T.S "made_by" [iL ts,zsL (rows.map (aH b))] G Q):=⟨λq=>by
   rw[k.made_by];exact⟨ts,_,rfl,TO.len,tl,λt ht=>(st t ht).mono ooq,λs hs=>(ss s hs).mono ooq,q⟩⟩
 refine A8.o ?_
 (try walk_at "rz")
 refine xV ?_
 (try walk_at "rz")
 subst eW;refine aDL k he (snear.mono ooq) (sg.mono ooq) (spart.mono ooq) ?_;have wz:((e.1*(aB ts.sum (aJ ts (rows.map (aH b))) (aH b g)).1,e.2.1*(aB ts.sum (aJ ts (rows.map (aH b))) (aH b g)).2.1,e.2.2*(aB ts.sum (aJ ts (rows.map (aH b))) (aH b g)).2.2)=((0,0,0):Z3))↔aB ts.sum (aJ ts (rows.map (aH b))) (aH b g)=(0,0,0):=by
   generalize aB ts.sum (aJ ts (rows.map (aH b))) (aH b g)=v;obtain⟨v1,v2,v3⟩:=v;have ez:∀{x y:Int},1<=x->(x*y=0↔y=0):=λ{x y} hx=>by
     rw[Int.mul_eq_zero];constructor
     . intro z;rcases z with z|z<;>omega
     . intro z;exact .inr z
   simp only[Prod.mk.injEq];rw[ez he.1.1,ez he.2.1.1,ez he.2.2.1]
 have sw:Z3B 3000 (e.1*(aB ts.sum (aJ ts (rows.map (aH b))) (aH b g)).1,e.2.1*(aB ts.sum (aJ ts (rows.map (aH b))) (aH b g)).2.1,e.2.2*(aB ts.sum (aJ ts (rows.map (aH b))) (aH b g)).2.2):=by
   have hm:=vN (l:=2000) spart snear sg ooq ooq;exact⟨(he.sm.1.mul hm.1).mono ooq,(he.sm.2.1.mul hm.2.1).mono ooq,(he.sm.2.2.mul hm.2.2).mono ooq⟩
 have rne:rows.map (aH b)≠[]:=λz=>by have:=congrArg List.length z;rw[List.length_map,List.length_nil] at this;omega
 have rl:(rows.map (aH b)).length<=5:=by rw[List.length_map];exact h5
 have Pb0:ts.sum*b≠0:=Int.ne_of_gt (Int.mul_pos TO.pos b0);have A9:Hd (∀{w:Z3} {G:Gh} {Q:PK1},w≠(0,0,0)->Z3B 3000 w->(∀a c,Q (.tup [a,c]) G)->T.S "line_by" [z3L w,zsL (rows.map (aH b)),.int b] G Q):=⟨λwn sw q=>by
   rw[k.line];exact⟨_,_,b,rfl,wn,rne,rl,sw,λs hs=>(ss s hs).mono ooq,Int.ne_of_gt b0,sb.mono ooq,q⟩⟩
 have A10:Hd (∀{G:Gh} {Q:PK1},Q (shV (Rat.divInt (aJ ts (rows.map (aH b))).1 (ts.sum*b),Rat.divInt (aJ ts (rows.map (aH b))).2.1 (ts.sum*b),Rat.divInt (aJ ts (rows.map (aH b))).2.2 (ts.sum*b))) G->
     T.S "shade_of" [.lst [FQ (Rat.divInt (aJ ts (rows.map (aH b))).1 (ts.sum*b)),FQ (Rat.divInt (aJ ts (rows.map (aH b))).2.1 (ts.sum*b)),FQ (Rat.divInt (aJ ts (rows.map (aH b))).2.2 (ts.sum*b))]] G Q):=⟨λq=>by
   rw[h.shade_of];exact⟨_,_,_,_,rfl,rfl,MK.i1.1,MK.i1.2.1,MK.i1.2.2,q⟩⟩
 have MT:∀{x0 x1 x2 x3 x4 x5 x6 x8:Option PV} {Y:PSt} {G:Gh} {Q:PK1},Q (.lst ((ts.map λx=>Rat.divInt x ts.sum).map FQ)) G->wpE T mkT (x0::x1::x2::x3::x4::x5::x6::some (iL ts)::x8::some (.int ts.sum)::Y) G Q:=λq=>aDm h tl (Int.ne_of_gt TO.pos) (spart.mono ooq) q;have MN:∀{x0 x1 x2 x3 x5 x6 x7:Option PV} {Y:PSt} {G:Gh} {Q:PK1},Q (.lst [FQ (Rat.divInt (aJ ts (rows.map (aH b))).1 (ts.sum*b)),FQ (Rat.divInt (aJ ts (rows.map (aH b))).2.1 (ts.sum*b)),FQ (Rat.divInt (aJ ts (rows.map (aH b))).2.2 (ts.sum*b))]) G->
     wpE T mkN (x0::x1::x2::x3::some (.int b)::x5::x6::x7::some (z3L (aJ ts (rows.map (aH b))))::some (.int ts.sum)::Y) G Q:=λq=>aE9 h Pb0 (spart.mono ooq) (sb.mono ooq) q
 have MT:=Hd.mk (@MT);have MN:=Hd.mk (@MN);subst eT eN;generalize mkT=CT at *;generalize mkN=CN at *;show pEq false _ _ _ _;rw[aEY];by_cases z:aB ts.sum (aJ ts (rows.map (aH b))) (aH b g)=(0,0,0)
 . have fin:=Wk.here (hq.o _ _ .non MK (.inl ⟨iff0.mpr z,rfl⟩));refine⟨_,rfl,?_⟩;rw[ja (decide_eq_true (wz.mpr z))];refine MT.o ?_;show bU T.cs .tuple [.lst _] _ _;rw[eZ];refine MN.o (A10.o ?_);exact fin
 . refine⟨_,rfl,?_⟩;rw[j9 (by rw[decide_eq_true_iff];exact λy=>z (wz.mp y))];refine A9.o (λy=>z (wz.mp y)) sw λa c=>?_;have fin:=Wk.here (hq.o _ _ (.tup [a,c]) MK (.inr ⟨λy=>z (iff0.mp y),a,c,rfl⟩));refine MT.o ?_;show bU T.cs .tuple [.lst _] _ _;rw[eZ];refine MN.o (A10.o ?_);exact fin
end
def Dn(m:Int)(x:Rat):Prop:= ∃k:Int,x*(m:Rat)=(k:Rat)
def Dn.add(a:Dn m x)(b:Dn m y):Dn m (x+y):=by
 obtain⟨k,hk⟩:=a;obtain⟨l,hl⟩:=b;exact⟨k+l,by rw[Rat.intCast_add,<-hk,<-hl];grind⟩
def Dn.mul(a:Dn m x)(b:Dn n y):Dn (m*n) (x*y):=by
 obtain⟨k,hk⟩:=a;obtain⟨l,hl⟩:=b;exact⟨k*l,by rw[Rat.intCast_mul,Rat.intCast_mul,<-hk,<-hl];grind⟩
def Dn.up(n:Int)(a:Dn m x):Dn (m*n) x:=by
 obtain⟨k,hk⟩:=a;exact⟨k*n,by rw[Rat.intCast_mul,Rat.intCast_mul,<-hk];grind⟩
def Dn.zero:Dn m 0:=⟨0,by rw[Rat.zero_mul];rfl⟩
def Dn.dv(a:Dn m x):(x.den:Int) ∣ m:=by
 obtain⟨k,hk⟩:=a;have nz:(x.den:Int)≠0:=Int.ne_of_gt bA;have nq:((x.den:Int):Rat)≠0:=λz=>nz (Rat.intCast_eq_zero_iff.mp z);have e:=Rat.num_divInt_den x;rw[bD] at e;have e2:(x.num:Rat)=x*((x.den:Int):Rat):=by
   have:=Rat.div_mul_cancel (a:=(x.num:Rat)) nq;rw[e] at this;exact this.symm
 have e3:((x.num*m:Int):Rat)=((k*(x.den:Int):Int):Rat):=by
   rw[Rat.intCast_mul,Rat.intCast_mul,e2,<-hk];grind
 have e4:x.num*m=k*(x.den:Int):=Rat.intCast_inj.mp e3;have hd:(x.den:Int) ∣ x.num*m:=⟨k,by rw[e4,Int.mul_comm]⟩;have hn:x.den ∣ x.num.natAbs*m.natAbs:=by
   have:=Int.natAbs_dvd_natAbs.mpr hd;rw[Int.natAbs_mul,Int.natAbs_natCast] at this;exact this
 have:x.den ∣ m.natAbs:=Nat.Coprime.dvd_of_dvd_mul_left (Nat.Coprime.symm x.reduced) hn;exact Int.ofNat_dvd_left.mpr this
def Dn.of{t b m:Int}(hb:b≠0)(h:b ∣ m):Dn m (Rat.divInt t b):=by
 obtain⟨c,rfl⟩:=h;have nq:((b:Int):Rat)≠0:=λz=>hb (Rat.intCast_eq_zero_iff.mp z);refine⟨t*c,?_⟩;rw[bD,Rat.intCast_mul,Rat.intCast_mul];grind
def Dn3(m:Int)(r:R3):Prop:=Dn m r.1/\Dn m r.2.1/\Dn m r.2.2
def Dn3.dv(h:Dn3 m r):Dv m r:=⟨h.1.dv,h.2.1.dv,h.2.2.dv⟩
def Dn.bd(h:Dn m x)(hm:0<m)(sm:Sm n m)(i:In1 x):Bd n x:=by
 have sd:Sm n (x.den:Int):=xL sm hm bA h.dv;refine⟨sd.le (Rat.num_nonneg.mpr i.1) ?_,sd⟩;have:=Rat.le_iff (a:=x) (b:=1) |>.mp i.2;simpa using this
def Pn.refl(h:Pu p G):Pn p G G:=by
 obtain⟨x,y,z,e⟩:=h;refine⟨x,y,z,?_⟩
 funext a
 by_cases c:a=p
 . subst c;rw[aO];exact e
 . rw[cX c]
def Pk.fr{p q:Addr}{G K:Gh}(h:Pk p G K)(n:K q=none):G q=none/\q≠p:=by
 obtain⟨G',a,b⟩:=h;have g0:G' q=none:=by
   cases c:G' q with
   | none=>rfl
   | some u=>rw[b q u c] at n;cases n
 have ne:q≠p:=λz=>by
   subst z;obtain⟨x,y,z,e⟩:=a.pu;rw[e] at g0;cases g0
 exact⟨by rw[<-a.ne ne];exact g0,ne⟩
def Pk.pu{p:Addr}{G K:Gh}(h:Pk p G K):Pu p K:=by
 obtain⟨G',a,b⟩:=h;obtain⟨x,y,z,e⟩:=a.pu;exact⟨x,y,z,b _ _ e⟩
def zG:Sp3:=λxs G Q=>∃p,xs=[.ref p]/\Pu p G/\∀q G',In1 q->Dn 60 q->Pn p G G'->Q (FQ q) G'
def tV:Sp3:=λxs G Q=>∃(p:Addr) (n:Nat),xs=[.ref p,.int n]/\Pu p G/\1<=n/\n<=5/\∀(rows:List R3) G',rows.length=n->(∀r∈rows,I1 r/\Dn3 120 r)->Pn p G G'->Q (.lst (rows.map aG)) G'
structure TN(n:Nat)(ms:List Rat)(s:Int):Prop where
 len:ms.length=n
 nn:∀m∈ms,0<=m
 one:ms.sum=1
 le:∀m∈ms,m<=1
 s1:0<s
 s2:s<=61
 dn:∀m∈ms,Dn s m
def xZ:Sp3:=λxs G Q=>∃(p:Addr) (n:Nat),xs=[.ref p,.int n]/\Pu p G/\1<=n/\n<=5/\∀ms s G',TN n ms s->Pn p G G'->Q (.lst (ms.map FQ)) G'
def mdR(ms:List Rat)(rows:List R3):R3:=(mdQ (·.1) ms rows,mdQ (·.2.1) ms rows,mdQ (·.2.2) ms rows)
def zK:Sp3:=λxs G Q=>∃(rows:List R3) (ms:List Rat),xs=[.lst (rows.map aG),.lst (ms.map FQ)]/\rows.length=ms.length/\rows.length<=5/\(∀r∈rows,Bd 8 r.1/\Bd 8 r.2.1/\Bd 8 r.2.2)/\(∀m∈ms,Bd 8 m)/\Q (aG (mdR ms rows)) G
def DM:Sp3:=λxs G Q=>∃(p:Addr) (rows:List R3),xs=[.ref p,.lst (rows.map aG)]/\Pu p G/\1<=rows.length/\rows.length<=5/\(∀r∈rows,I1 r/\Dn3 120 r)/\∀r s G',I1 r->0<s->s<=61->Dn3 (120*s) r->Pn p G G'->Q (aG r) G'
def PP(r:R3):Prop:=Bd 200 r.1/\Bd 200 r.2.1/\Bd 200 r.2.2
def sO:Sp3:=λxs G Q=>∃r:R3,xs=[aG r]/\I1 r/\Q (shV r) G
def xX:Sp3:=λxs G Q=>∃(p:Addr) (rows:List R3) (w:R3) (e:Z3) (s:Int),xs=[.ref p,.lst (rows.map aG),aG w,eyZ e]/\Pu p G/\2<=rows.length/\rows.length<=5/\(∀r∈rows,I1 r/\Dn3 120 r)/\I1 w/\0<s/\s<=61/\Dn3 (120*s) w/\EyZ e/\∀G',Pn p G G'->Q (.bl true) G'
def TX:Sp3:=λxs G Q=>∃(rows:List R3) (g:R3) (n:Nat) (m:Int),xs=[.tup (rows.map shV),shV g]/\1<=rows.length/\rows.length<=5/\0<m/\Sm n m/\n<=140/\(∀r∈rows,Dv m r/\I1 r)/\Dv m g/\I1 g/\
 ∀ms nr,MkR rows g (1,1,1) n ms nr->Q (.bl (decide (nr=g))) G
structure L48(T:Tb):Prop where
 ty_list:T.gv "list"= .ty "list"
 plain:T.S "_law_plain_share"=zG
 eyeL:T.S "_law_eye"=DT
 lights:T.S "_law_lights"=tV
 parts:T.S "_law_parts"=xZ
 made:T.S "_law_made"=zK
 wish:T.S "_law_wish"=DM
 farL:T.S "_law_far"=EI
 shade:T.S "_law_shade"=sO
 sharesL:T.S "_law_shares_of"=bV
 can:T.S "can_make"=TX
 right:T.S "_law_right"=xX
local macro_rules | `(tactic| walk_at "rd") => wk (wqB++" jS OC sX zN vH dE at0 at1 at2 jL cI iC mV av0 av1 GE aG")
section
variable{T:Tb}
noncomputable def fU:CS:=.ret (.cal "_law_low" %[.cal "_law_pick" %[.var 0,.int 61|_],.int 60|_])
def rJ(l:LT T):∀xs G Q,zG xs G Q->wpS T fU (aN Q) (aC 1 xs) G:=by
 rintro xs G Q ⟨p,rfl,hp,hq⟩;unfold fU;have:=l.pick;have:=l.low;walk_at "rd"
 refine⟨by decide,smP ddq ddq,λr G1 r0 r1 n1=>?_⟩;exact⟨by decide,smK ddq ddq ddq,Wk.here (hq _ _ (VQ r0 ooq ddq) (Dn.of ddq (Int.dvd_refl 60)) n1)⟩
noncomputable def mY:CS:=.ret (.cal "Shade" %[.idx (.var 0) (.int 0),.idx (.var 0) (.int 1),.idx (.var 0) (.int 2)|_])
def MM(h:PT T):∀xs G Q,sO xs G Q->wpS T mY (aN Q) (aC 1 xs) G:=by
 rintro xs G Q ⟨r,rfl,⟨i1,i2,i3⟩,hq⟩;unfold mY;have:=h.shade;have hw:Wk Q (SH r.1 r.2.1 r.2.2) G:=Wk.here hq;clear hq;walk_at "rd"
noncomputable def hJ:CS:=.ret (.tup %[.att (.var 0) "ember",.att (.var 0) "leaf",.att (.var 0) "sky"|_])
def vZ(h:PT T):∀xs G Q,bV xs G Q->wpS T hJ (aN Q) (aC 1 xs) G:=by
 rintro xs G Q ⟨a,b,c,rfl,hq⟩;unfold hJ;have e1:=@aFl T h;have e2:=@aFb T h;have e3:=@aDo T h;walk_at "rd"
noncomputable def lI:CS:=.ret (.cmp .Is (.idx (.cak "make" %[.var 0,.var 1|_] .nil [.arg 0,.arg 1,.non]) (.int 2)) .non)
def DJ(k:PL T):∀xs G Q,TX xs G Q->wpS T lI (aN Q) (aC 2 xs) G:=by
 rintro xs G Q ⟨rows,g,n,m,rfl,h1,h5,hm,sm,hn,hr,dg,ig,hq⟩;unfold lI;have A:Hd (∀{G:Gh} {Q:PK1},(∀ms nr ln,MkR rows g (1,1,1) n ms nr->LnR g nr ln->Q (.tup [.tup (ms.map FQ),shV nr,ln]) G)->T.S "make" [.tup (rows.map shV),shV g,.non] G Q):=⟨λq=>by
   rw[k.make];exact⟨rows,g,.non,(1,1,1),n,m,rfl,h1,h5,.inl ⟨rfl,rfl,rfl,rfl⟩,⟨⟨by decide,by decide⟩,⟨by decide,by decide⟩,⟨by decide,by decide⟩⟩,hm,sm,hn,hr,dg,ig,q⟩⟩
 have hq:=Hd.mk hq;clear hr h1 h5 hm sm hn dg ig;walk_at "rd"
 refine A.o λms nr ln M L=>?_;have hq:=Hd.mk (hq.o ms nr M);rcases L with ⟨z,rfl⟩|⟨z,a,c,rfl⟩
 . rw[decide_eq_true z] at hq;walk_at "rd"
   exact Wk.here hq.o
 . rw[decide_eq_false z] at hq;walk_at "rd"
   rw[yE (λz=>by cases z)];exact Wk.here hq.o
end
def UC{ms:List Rat}(nn:∀m∈ms,0<=m):∀m∈ms,m<=ms.sum:=by
 induction ms with
 | nil=>intro m h;cases h
 | cons a r ih =>
   intro m hm;have h0:=nn a (by simp);have hr:0<=r.sum:=by
     clear ih hm;induction r with
     | nil=>exact Rat.le_refl
     | cons b s ih2 =>
       rw[List.sum_cons];have:=nn b (by simp);have:=ih2 (λm h=>nn m (by rcases List.mem_cons.mp h with rfl|z<;>simp[*]))
       grind
   rw[List.sum_cons];rcases List.mem_cons.mp hm with rfl|z
   . grind
   . have:=ih (λm h=>nn m (wCq _ h)) m z
     grind
local macro_rules | `(tactic| walk_at "rz") => wk (wqB++" aX tR iC")
section
variable{T:Tb}
noncomputable def paA:CE:=.cmpr true (.gn 1) (.irg %[.var 1|_]) .nil (.cal "_law_pick" %[.var 2,.var 3|_]) [none,none,some 0,some 2]
noncomputable def paB:CE:=.cmpr false (.gn 1) (.isq (.var 3)) .nil (.cal "_law_low" %[.var 1,.blt .sum %[.var 2|_]|_]) [none,none,some 3]
def nC:CS:=.seq (.asg (.gn 2) (.idx (.lst false %[.int 2,.int 5,.int 12|_]) (.cal "_law_pick" %[.var 0,.int 3|_]))) (.seq (.asg (.gn 3) paA) (.seq (.ags (.var 3) (.cal "_law_pick" %[.var 0,.var 1|_]) (.int 1)) (.ret paB)))
def aD8(l:LT T)(hp:Pu p G)(h5:n<=5)(w0:0<w)(w12:w<=12)
   (q:∀(ns:List Int) (a:Addr) G',ns.length=n->(∀x∈ns,0<=x/\x<=11)->Pn p G G'->G' a=none->Q (.ref a) (gup G' a (.lst (ns.map .int)))):wpE T paA [some (.ref p),some (.int (n:Int)),some (.int w),x3] G Q:=by
 unfold paA;have pk:Hd (∀{G1:Gh} {Q:PK1},Pu p G1->(∀r G',0<=r->r<w->Pn p G1 G'->Q (.int r) G')->T.S "_law_pick" [.ref p,.int w] G1 Q):=⟨λ{G1 Q} h q=>by rw[l.pick];exact⟨p,w,rfl,h,w0,smP ooq ooq,q⟩⟩;have q:=Hd.mk q;have hp:=Hd.mk hp;walk_at "rz"
 refine⟨by omega,by omega,by rw[iJ];exact dF (by rw[List.length_range];omega),?_⟩;rw[iJ];refine hV (λ(t:Nat)=>PV.int (t:Int)) (λj4 Y G' acc=>Pn p G G'/\∃(done:List Nat) (ns:List Int) (x1:Option PV),List.range n=done++j4/\ns.length=done.length/\(∀x∈ns,0<=x/\x<=11)/\acc=ns.map .int/\Y=[none,x1,some (.ref p),some (.int w)]) (λ_ _ _ _ _=>trivial) (λt r Y G' acc R N hh hR hN=>?_) (λY G' acc hh=>?_) (List.range n) _ _ _ ⟨Pn.refl hp.o,[],[],none,rfl,rfl,by simp,rfl,rfl⟩
 . obtain⟨pn,done,ns,x1,ed,el,hb,rfl,rfl⟩:=hh;refine pk.o pn.pu λx G2 x0 xw n2=>?_;refine hR (.int x) _ _ ⟨pn.trans n2,done++[t],ns++[x],_,by rw[ed];simp,by simp[el],λy hy=>?_,by rw[List.map_append];rfl,rfl⟩;rcases List.mem_append.mp hy with z|z
   . exact hb y z
   . rw[List.mem_singleton.mp z];exact⟨x0,by omega⟩
 . obtain⟨pn,done,ns,x1,ed,el,hb,rfl,rfl⟩:=hh;rw[List.append_nil] at ed;exact λa ha=>q.o ns a G' (by rw[el,<-ed,List.length_range]) hb pn ha
def IH(l:LT T):∀xs G Q,xZ xs G Q->wpS T nC (aN Q) (aC 4 xs) G:=by
 rintro xs G Q ⟨p,n,rfl,hp,h1,h5,hq⟩;have hq:=Hd.mk hq;have hp:=Hd.mk hp;unfold nC;have pk:=l.pick;generalize eA:paA=A;generalize eB:paB=B;walk_at "rz"
 refine⟨by decide,smP ddq ddq,λr G1 r0 r1 n1=>?_⟩;have e:r=0∨r=1∨r=2:=by omega
 have:∃w:Int,atI [PV.int 2,.int 5,.int 12] r=some (.int w)/\0<w/\w<=12:=by
   rcases e with rfl|rfl|rfl
   . exact⟨2,at0,by decide,by decide⟩
   . exact⟨5,at1,by decide,by decide⟩
   . exact⟨12,at2,by decide,by decide⟩
 obtain⟨w,ew,w0,w12⟩:=this;refine⟨_,ew,?_⟩;subst eA;clear pk;refine aD8 l n1.pu h5 w0 w12 λns a G2 ln hb n2 na=>?_;have ne:a≠p:=n2.pu.ne na;have nn:=n1.trans n2;have ga:G a=none:=by rw[<-nn.ne ne];exact na
 refine⟨n2.pu.new na,by omega,smP ooq ooq,λi G3 i0 i1 n3=>?_⟩;obtain⟨j,rfl⟩:=Int.eq_ofNat_of_zero_le i0;have hj:j<ns.length:=by omega
 have g3:G3 a=some (.lst (ns.map .int)):=by rw[n3.ne ne];exact aO
 have at':atI (ns.map PV.int) ((j:Nat):Int)=some (.int ns[j]):=cU (by rw[List.getElem?_map,wHq hj];rfl);refine⟨a,rfl,_,g3,_,at',a,_,_,j,rfl,rfl,g3,EG (by rw[List.length_map];exact hj),?_⟩;have em:(ns.map PV.int).set j (.int (ns[j]+1))=(ns.set j (ns[j]+1)).map .int:=by rw[List.map_set]
 rw[em];have hms:∀x∈ns.set j (ns[j]+1),0<=x/\x<=12:=λx hx=>by
   rcases List.mem_or_eq_of_mem_set hx with z|z
   . have:=hb x z;omega
   . have:=hb ns[j] (List.getElem_mem hj);omega
 have hsum:∀(L:List Int),(∀x∈L,0<=x/\x<=12)->0<=L.sum/\L.sum<=12*L.length:=λL=>by
   induction L with
   | nil=>intro _;exact⟨by decide,by decide⟩
   | cons b r ih =>
     intro h;have:=h b (by simp);have:=ih λx hx=>h x (wCq _ hx);rw[List.sum_cons,List.length_cons];omega
 have hpos : 0<(ns.set j (ns[j]+1)).sum:=by
   have : ∀(L:List Int) (i:Nat) (v:Int),(∀x∈L,0<=x)->i<L.length->0<v->0<(L.set i v).sum:=λL=>by
     induction L with
     | nil=>intro i v _ h;exact absurd h (by simp)
     | cons b r ih =>
       intro i v h hi hv;have h0:=h b (by simp);cases i with
       | zero =>
         rw[List.set_cons_zero,List.sum_cons];have :0<=r.sum:=by
           have hr:∀x∈r,0<=x:=λx hx=>h x (wCq _ hx);clear ih h hi;induction r with
           | nil=>exact Int.le_refl 0
           | cons c s ih2 =>
             rw[List.sum_cons];have:=hr c (by simp);have:=ih2 λx hx=>hr x (wCq _ hx);omega
         omega
       | succ i =>
         rw[List.set_cons_succ,List.sum_cons];have:=ih i v (λx hx=>h x (wCq _ hx)) (by simpa using hi) hv;omega
   exact this ns j _ (λx hx=>(hb x hx).1) hj (by have:=hb ns[j] (List.getElem_mem hj);omega)
 have lset:(ns.set j (ns[j]+1)).length=n:=by rw[List.length_set];exact ln
 generalize ns.set j (ns[j]+1)=L at *;obtain⟨s0,s60⟩:=hsum L hms;have s60:L.sum<=60:=by rw[lset] at s60;omega
 subst eB;have KK:Pk p G (gup G3 a (.lst (L.map .int))):=(((Pk.of nn).new na).pick n3).set ga ne;generalize eK:gup G3 a (.lst (L.map .int))=K at *;have ka:K a=some (.lst (L.map .int)):=by rw[<-eK];exact aO
 show wpE T paB [some (.ref p),some (.int (n:Int)),some (.int w),some (.ref a)] K (Wk Q);unfold paB;have sq:pA (.ref a) K=λR=>∃xs,K a=some (.lst xs)/\R (λG'=>G' a=some (.lst xs)) xs K:=rfl;show ∃xs,K a=some (.lst xs)/\xs.length<=sizeLine/\cL (λG'=>G' a=some (.lst xs)) (wpG T (.gn 1)) (wpT T .nil) (wpE T (.cal "_law_low" (.cons (.var 1) (.cons (.blt .sum (.cons (.var 2) .nil)) .nil)))) xs [] [none,none,some (.ref a)] K λys G'=>Wk Q (.lst ys) G';refine⟨_,ka,by rw[List.length_map];exact szN ooq,?_⟩;have lo:Hd (∀{x:Int} {G1:Gh} {Q:PK1},Q (FQ (Rat.divInt x L.sum)) G1->T.S "_law_low" [.int x,.int L.sum] G1 Q):=⟨λ{x G1 Q} q=>by rw[l.low];exact⟨x,L.sum,rfl,by omega,smK ooq ooq ddq,q⟩⟩;refine aQ (chk:=λG'=>G' a=some (.lst (L.map .int))) (G:=K) PV.int (λx=>FQ (Rat.divInt x L.sum)) (λY=>∃x1,Y=[none,x1,some (.ref a)]) ka L [] _ _ ⟨none,rfl⟩ (λx hx Y R N hh hR=>?_) ?_
 . obtain⟨x1,rfl⟩:=hh;have hR:=hR _ ⟨some (.int x),rfl⟩;refine(show bU T.cs .sum [.ref a] K λy G2=>T.S "_law_low" [.int x,y] G2 λz G4=>R z [none,some (.int x),some (.ref a)] G4 from ?_);exact .inl ⟨_,L.sum,gS ka,uS,lo.o hR⟩
 . rw[List.nil_append];have pd:(L.sum:Rat)≠0:=λz=>by have:=Rat.intCast_eq_zero_iff.mp z;omega
   have e2:(L.map λx=>FQ (Rat.divInt x L.sum))=(L.map λx=>Rat.divInt x L.sum).map FQ:=by rw[List.map_map];rfl
   rw[e2];have nn':∀m∈L.map λx=>Rat.divInt x L.sum,0<=m:=λm hm=>by
     obtain⟨x,hx,rfl⟩:=List.mem_map.mp hm;exact Rat.divInt_nonneg (hms x hx).1 (Int.le_of_lt hpos)
   have one:(L.map λx=>Rat.divInt x L.sum).sum=1:=by
     rw[show(L.map λx=>Rat.divInt x L.sum)=L.map λx:Int=>(x:Rat)/(L.sum:Rat) from List.map_congr_left λx _=>bD,zC pd];grind
   refine KK.end_ λG' n'=>hq.o _ L.sum G' ⟨by rw[List.length_map];exact lset,nn',one,λm hm=>by rw[<-one];exact UC nn' m hm,hpos,by omega,λm hm=>?_⟩ n';obtain⟨x,hx,rfl⟩:=List.mem_map.mp hm;exact Dn.of ooq (Int.dvd_refl _)
end
local macro_rules | `(tactic| walk_at "rd") => wk (wqB++" List.map_cons List.map_nil eQ rV dH dE aX eZ tR at0 at1 jL fN dM sZ jD fL iC")
local macro_rules | `(tactic| walk_at "rz") => wk (wqB++" List.map_cons List.map_nil eQ rV dH dE aX eZ tR at0 at1 jL sZ jD fL iC")
section
variable{T:Tb}
noncomputable def roC:CE:=.blt .tuple %[.cmpr false (.gn 1) (.irg %[.int 3|_]) .nil (.cal "_law_plain_share" %[.var 2|_]) [none,none,some 2]|_]
def liA:CE:=.cmpr true (.gn 1) (.irg %[.var 1|_]) .nil roC [none,none,some 0]
noncomputable def liB:CE:=.cmpr true (.gn 1) (.isq (.var 3)) .nil (.tup %[.idx (.var 1) (.int 0),.idx (.var 1) (.int 0),.idx (.var 1) (.int 0)|_]) [none,none]
noncomputable def liC:CE:=.cmpr true (.gn 1) (.isq (.var 3)) .nil (.tup %[.idx (.var 1) (.int 0),.idx (.var 1) (.int 1),.cal "_law_times" %[.tup %[.int 1,.int 2|_],.cal "_law_plus" %[.idx (.var 1) (.int 0),.idx (.var 1) (.int 1)|_]|_]|_]) [none,none]
noncomputable def liE:CS:=.iff (.an (.tsb (.cmp .Eq (.var 2) (.int 3))) (.tsb (.cmp .Gt (.var 1) (.int 1)))) (.sub (.var 3) (.bin .Sub (.var 1) (.int 1)) (.idx (.var 3) (.cal "_law_pick" %[.var 0,.bin .Sub (.var 1) (.int 1)|_]))) .nil
def lM:CS:=.seq (.asg (.gn 2) (.cal "_law_pick" %[.var 0,.int 6|_])) (.seq (.asg (.gn 3) liA) (.seq (.iff (.tsb (.cmp .Eq (.var 2) (.int 1))) (.asg (.gn 3) liB) .nil) (.seq (.iff (.tsb (.cmp .Eq (.var 2) (.int 2))) (.asg (.gn 3) liC) .nil) (.seq liE (.ret (.var 3))))))
def aEK(k:L48 T)(hp:Pu p G)(q:∀r G',I1 r->Dn3 60 r->Pn p G G'->Q (aG r) G'):wpE T roC [x0,x1,some (.ref p)] G Q:=by
 have pk:Hd (∀{G1:Gh} {Q:PK1},Pu p G1->(∀q G',In1 q->Dn 60 q->Pn p G1 G'->Q (FQ q) G')->T.S "_law_plain_share" [.ref p] G1 Q):=⟨λ{G1 Q} h q=>by rw[k.plain];exact⟨p,rfl,h,q⟩⟩;have q:=Hd.mk q;have hp:=Hd.mk hp;have:=@wU;unfold roC;walk_at "rd"
 refine⟨by decide,by decide,pk.o hp.o λa G1 i1 d1 n1=>pk.o n1.pu λb G2 i2 d2 n2=>pk.o n2.pu λc G3 i3 d3 n3=>?_⟩;have:=q.o (a,b,c) G3 ⟨i1,i2,i3⟩ ⟨d1,d2,d3⟩ ((n1.trans n2).trans n3);unfold aG at this
 (try walk_at "rd")
def aDx(k:L48 T)(hp:Pu p G)(h5:n<=5)
   (q:∀(rows:List R3) (a:Addr) G',rows.length=n->(∀r∈rows,I1 r/\Dn3 60 r)->Pn p G G'->G' a=none->Q (.ref a) (gup G' a (.lst (rows.map aG)))):wpE T liA [some (.ref p),some (.int (n:Int)),x2,x3] G Q:=by
 unfold liA;have q:=Hd.mk q;have hp:=Hd.mk hp;generalize eR:roC=RC;walk_at "rz"
 refine⟨by omega,by omega,by rw[iJ];exact dF (by rw[List.length_range];omega),?_⟩;rw[iJ];refine hV (λ(t:Nat)=>PV.int (t:Int)) (λj4 Y G' acc=>Pn p G G'/\∃(done:List Nat) (rows:List R3) (x1:Option PV),List.range n=done++j4/\rows.length=done.length/\(∀r∈rows,I1 r/\Dn3 60 r)/\acc=rows.map aG/\Y=[none,x1,some (.ref p)]) (λ_ _ _ _ _=>trivial) (λt r Y G' acc R N hh hR hN=>?_) (λY G' acc hh=>?_) (List.range n) _ _ _ ⟨Pn.refl hp.o,[],[],none,rfl,rfl,by simp,rfl,rfl⟩
 . obtain⟨pn,done,rows,x1,ed,el,hb,rfl,rfl⟩:=hh;subst eR;refine aEK k pn.pu λx G2 i d n2=>?_;refine hR (aG x) _ _ ⟨pn.trans n2,done++[t],rows++[x],_,by rw[ed];simp,by simp[el],λy hy=>?_,by rw[List.map_append];rfl,rfl⟩;rcases List.mem_append.mp hy with z|z
   . exact hb y z
   . rw[List.mem_singleton.mp z];exact⟨i,d⟩
 . obtain⟨pn,done,rows,x1,ed,el,hb,rfl,rfl⟩:=hh;rw[List.append_nil] at ed;exact λa ha=>q.o rows a G' (by rw[el,<-ed,List.length_range]) hb pn ha
def ZY(f:R3->R3){rows:List R3}(h5:rows.length<=5)(ga:G a=some (.lst (rows.map aG)))
   (he:∀r∈rows,∀{x0:Option PV} {Q:PK1},Q (aG (f r)) G->wpE T el [x0,some (aG r)] G Q) (q:∀b,G b=none->Q (.ref b) (gup G b (.lst ((rows.map f).map aG)))):wpE T (.cmpr true (.gn 1) (.isq (.var 3)) .nil el [none,none]) [x0,x1,x2,some (.ref a)] G Q:=by
 show ∃xs,G a=some (.lst xs)/\xs.length<=sizeLine/\cL (λG'=>G' a=some (.lst xs)) (wpG T (.gn 1)) (wpT T .nil) (wpE T el) xs [] [none,none] G λys G2=>lO true G2 ys Q;refine⟨_,ga,dF ooq,?_⟩;refine aQ (chk:=λG'=>G' a=some (.lst (rows.map aG))) (G:=G) aG (λr=>aG (f r)) (λY=>∃x1,Y=[none,x1]) ga rows [] _ _ ⟨none,rfl⟩ (λr hr Y R N hh hR=>?_) ?_
 . obtain⟨x1,rfl⟩:=hh;exact he r hr (hR _ ⟨some (aG r),rfl⟩)
 . rw[List.nil_append];have:(rows.map λr=>aG (f r))=(rows.map f).map aG:=by rw[List.map_map];rfl
   rw[this];exact λb hb=>q b hb
def VU:(PV.tup [.int 1,.int 2]:PV)=FQ (Rat.divInt 1 2):=by
 have:(Rat.divInt 1 2:Rat)=⟨1,2,by decide,by decide⟩:=by decide +kernel
 rw[this];rfl
noncomputable def fB(r:R3):R3:=(r.1,r.1,r.1)
noncomputable def fC(r:R3):R3:=(r.1,r.2.1,Rat.divInt 1 2*(r.1+r.2.1))
def YK:Bd 2 (Rat.divInt 1 2):=Bd.divInt (by unfold Sm;decide) (by unfold Sm;decide) ddq
def aDk(h:I1 r/\Dn3 60 r):I1 (fC r)/\Dn3 120 (fC r):=by
 obtain⟨⟨⟨a1,a2⟩,⟨b1,b2⟩,_⟩,d1,d2,d3⟩:=h;have hh:(Rat.divInt 1 2:Rat)*2=1:=by rw[bD];decide +kernel
 refine⟨⟨⟨a1,a2⟩,⟨b1,b2⟩,⟨?_,?_⟩⟩,d1.up 2,d2.up 2,?_⟩
 . show 0<=Rat.divInt 1 2*(r.1+r.2.1);exact Rat.mul_nonneg (by rw[bD];decide +kernel) (by grind)
 . show Rat.divInt 1 2*(r.1+r.2.1)<=1;have:=Rat.mul_nonneg (show 0<=(Rat.divInt 1 2:Rat) by rw[bD];decide +kernel) (show 0<=2-(r.1+r.2.1) by grind)
   grind
 . exact(Dn.of (m:=2) ddq (Int.dvd_refl 2)).mul (d1.add d2)
def GB(l:LT T)(k:L48 T):∀xs G Q,tV xs G Q->wpS T lM (aN Q) (aC 4 xs) G:=by
 rintro xs G Q ⟨p,n,rfl,hp,h1,h5,hq⟩;have hq:=Hd.mk hq;have pk:=l.pick;unfold lM;generalize eA:liA=A;generalize eB:liB=B;generalize eC:liC=C;generalize eE:liE=E;walk_at "rz"
 refine⟨by decide,smP ddq ddq,λw G1 w0 w1 n1=>?_⟩;clear pk;subst eA;refine aDx k n1.pu h5 λrows a G2 ln hb n2 na=>?_;have up:∀r∈rows,I1 r/\Dn3 120 r:=λr hr=>⟨(hb r hr).1,(hb r hr).2.1.up 2,(hb r hr).2.2.1.up 2,(hb r hr).2.2.2.up 2⟩;have ne:a≠p:=n2.pu.ne na;have nn:=n1.trans n2;have KK:Pk p G (gup G2 a (.lst (rows.map aG))):=(Pk.of nn).new na;have ka:(gup G2 a (.lst (rows.map aG))) a=some (.lst (rows.map aG)):=aO;have ga:G a=none:=by rw[<-nn.ne ne];exact na
 generalize gup G2 a (.lst (rows.map aG))=K at *;have fin:Hd (∀{K:Gh} {b:Addr} {rs:List R3},Pk p G K->K b=some (.lst (rs.map aG))->G b=none->b≠p->rs.length=n->(∀r∈rs,I1 r/\Dn3 120 r)->Wk Q (.ref b) K):=⟨λ{K b rs} hk kb gb nb lr hr=>by
   obtain⟨G',a1,a2⟩:=hk;exact Wk.frz kb (hq.o rs G' lr hr a1) a2 (by rw[a1.ne nb];exact gb)⟩
 have last:Hd (∀{K:Gh} {b:Addr} {rs:List R3},Pk p G K->K b=some (.lst (rs.map aG))->G b=none->b≠p->rs.length=n->(∀r∈rs,I1 r/\Dn3 120 r)->
     wpS T (.seq E (.ret (.var 3))) (aN Q) [some (.ref p),some (.int (n:Int)),some (.int w),some (.ref b)] K):=⟨λ{K b rs} hk kb gb nb lr hr=>by
   subst eE;have fin:=fin;unfold liE;have hk:=Hd.mk hk;have pk:=l.pick;have e0:=fin.o hk.o kb gb nb lr hr;walk_at "rz"
   split
   . split
     . refine⟨hk.o.pu,by omega,smP ooq ooq,λr K' r0 r1 n3=>?_⟩;have kb':K' b=some (.lst (rs.map aG)):=by rw[n3.ne nb];exact kb
       obtain⟨j,rfl⟩:=Int.eq_ofNat_of_zero_le r0;have hj:j<rs.length:=by omega
       rw[AZ kb'];refine⟨aG rs[j],cU (by rw[List.getElem?_map,wHq hj];rfl),?_⟩;rw[CF kb'];have en:((n:Int)-1)=((n-1:Nat):Int):=by omega
       refine⟨n-1,by rw[en];exact EG (by rw[List.length_map];omega),?_⟩;have em:(rs.map aG).set (n-1) (aG rs[j])=(rs.set (n-1) rs[j]).map aG:=by rw[List.map_set]
       rw[em];refine fin.o ((hk.o.pick n3).set gb nb) aO gb nb (by rw[List.length_set];exact lr) λx hx=>?_;rcases List.mem_or_eq_of_mem_set hx with z|z
       . exact hr x z
       . rw[z];exact hr _ (List.getElem_mem hj)
     . exact trivial
   . exact trivial⟩
 have last:Hd (∀{K:Gh} {b:Addr} {rs:List R3},Pk p G K->K b=some (.lst (rs.map aG))->G b=none->b≠p->rs.length=n->(∀r∈rs,I1 r/\Dn3 120 r)->
     wpS T E {aN Q with nx:=wpS T (.ret (.var 3)) (aN Q)} [some (.ref p),some (.int (n:Int)),some (.int w),some (.ref b)] K):=⟨λhk kb gb nb lr hr=>last.o hk kb gb nb lr hr⟩
 have ii:∀r∈rows,Bd 6 r.1/\Bd 6 r.2.1:=λr hr=>by
   obtain⟨⟨i1,i2,_⟩,d1,d2,_⟩:=hb r hr;exact⟨d1.bd ddq (by unfold Sm;decide) i1,d2.bd ddq (by unfold Sm;decide) i2⟩
 split
 . rename_i c;subst eB;refine ZY fB ooq ka (λr hr x0 Q q=>?_) λb hb0=>?_
   . have q:Q (.tup [FQ r.1,FQ r.1,FQ r.1]) K:=q;have:=@at0 PV (FQ r.1) [FQ r.2.1,FQ r.2.2];unfold aG;clear last fin;walk_at "rd"
   . rw[j9 ooq];obtain⟨g1,g2⟩:=KK.fr hb0;refine last.o (KK.new hb0) aO g1 g2 (by rw[List.length_map];exact ln) λx hx=>?_;obtain⟨r,hr,rfl⟩:=List.mem_map.mp hx;have:=up r hr;exact⟨⟨this.1.1,this.1.1,this.1.1⟩,this.2.1,this.2.1,this.2.1⟩
 . split
   . rename_i c;subst eC;refine ZY fC ooq ka (λr hr x0 Q q=>?_) λb hb0=>?_
     . have q:Q (.tup [FQ r.1,FQ r.2.1,FQ (Rat.divInt 1 2*(r.1+r.2.1))]) K:=q;have:=VU;have:=l.plus;have:=l.times;obtain⟨b1,b2⟩:=ii r hr;have:=b1.mono (show 6<=4000 by decide);have:=b2.mono (show 6<=4000 by decide);have:=(b1.add b2 (show 6+6+1<=13 by decide)).mono (show 13<=4000 by decide);have:=YK.mono (show 2<=4000 by decide);unfold aG;clear last fin;walk_at "rd"
     . obtain⟨g1,g2⟩:=KK.fr hb0;refine last.o (KK.new hb0) aO g1 g2 (by rw[List.length_map];exact ln) λx hx=>?_;obtain⟨r,hr,rfl⟩:=List.mem_map.mp hx;exact aDk (hb r hr)
   . exact last.o KK ka ga ne ln up
noncomputable def maI:CS:=.fr (.gn 5) (.irg %[.blt .len %[.var 0|_]|_]) (.asg (.gn 4) (.cal "_law_plus" %[.var 4,.cal "_law_times" %[.idx (.var 1) (.var 5),.idx (.idx (.var 0) (.var 5)) (.var 3)|_]|_]))
def jQ:CS:=.seq (.asg (.gn 2) (.lst true .nil)) (.seq (.fr (.gn 3) (.irg %[.int 3|_]) (.seq (.asg (.gn 4) (.tup %[.int 0,.int 1|_])) (.seq maI (.ex (.app (.var 2) (.var 4)))))) (.ret (.blt .tuple %[.var 2|_])))
noncomputable def mdT(f:R3->Rat)(z:List (Rat×R3))(d:Nat):Rat:=((z.take d).map λp=>p.1*f p.2).sum
def ZM(h:z[d]? =some p):mdT f z (d+1)=mdT f z d+p.1*f p.2:=by
 unfold mdT;rw[List.take_succ,h];simp only[Option.toList_some,List.map_append,List.map_cons,List.map_nil];generalize (z.take d).map (λp=>p.1*f p.2)=L;induction L with
 | nil=>simp only[List.nil_append,List.sum_cons,List.sum_nil];grind
 | cons a r ih=>rw[List.cons_append,List.sum_cons,List.sum_cons,ih];grind
def aDn(l:LT T)(hf:∀r:R3,atI [FQ r.1,FQ r.2.1,FQ r.2.2] i=some (FQ (f r)))(he:rows.length=ms.length)(h5:rows.length<=5)(hr:∀r∈rows,Bd 8 (f r))(hm:∀m∈ms,Bd 8 m)
   (q:∀x5,D.nx [some (.lst (rows.map aG)),some (.lst (ms.map FQ)),x2,some (.int i),some (FQ (mdQ f ms rows)),x5] G):wpS T maI D [some (.lst (rows.map aG)),some (.lst (ms.map FQ)),x2,some (.int i),some (.tup [.int 0,.int 1]),x5] G:=by
 have pl:Hd (∀{a b:Rat} {G:Gh} {Q:PK1},Bd 100 a->Bd 100 b->Q (FQ (a+b)) G->T.S "_law_plus" [FQ a,FQ b] G Q):=⟨λha hb q=>by rw[l.plus];exact⟨_,_,rfl,ha.mono ddq,hb.mono ddq,q⟩⟩;have ti:Hd (∀{a b:Rat} {G:Gh} {Q:PK1},Bd 100 a->Bd 100 b->Q (FQ (a*b)) G->T.S "_law_times" [FQ a,FQ b] G Q):=⟨λha hb q=>by rw[l.times];exact⟨_,_,rfl,ha.mono ddq,hb.mono ddq,q⟩⟩;have z0:(PV.tup [.int 0,.int 1]:PV)=FQ 0:=rfl;have ln:∀{G:Gh} {Q:PK1},bU T.cs .len [.lst (rows.map aG)] G Q=Q (.int (rows.length:Int)) G:=λ{_ _}=>jR;have lz:(ms.zip rows).length=rows.length:=by rw[List.length_zip,he,Nat.min_self]
 have q:=Hd.mk q;have hr:=Hd.mk hr;have hm:=Hd.mk hm;have hf:=Hd.mk hf;have he':=Hd.mk he;clear he;unfold maI;generalize eB:(CS.asg (.gn 4) (.cal "_law_plus" (.cons (.var 4) (.cons (.cal "_law_times" (.cons (.idx (.var 1) (.var 5)) (.cons (.idx (.idx (.var 0) (.var 5)) (.var 3)) .nil))) .nil))))=B;walk_at "rz"
 refine⟨by omega,by omega,?_⟩;rw[iJ];have he:=he'.o;refine cB (λ(t:Nat)=>PV.int (t:Int)) (λj4 Y G'=>G'=G/\∃(done:List Nat) (x5:Option PV),List.range rows.length=done++j4/\Bd (2+17*done.length) (mdT f (ms.zip rows) done.length)/\Y=[some (.lst (rows.map aG)),some (.lst (ms.map FQ)),x2,some (.int i),some (FQ (mdT f (ms.zip rows) done.length)),x5]) (λ_ _ _ _=>trivial) (λt r Y G' R hh hR=>?_) (λY G' hh=>?_) (List.range rows.length) _ _ ⟨rfl,[],_,rfl,bd0,rfl⟩
 . obtain⟨rfl,done,x5,ed,bd,rfl⟩:=hh;have dl:done.length<rows.length:=by have:=congrArg List.length ed;rw[List.length_range,List.length_append,List.length_cons] at this;omega
   have et:t=done.length:=by
     have:=congrArg (λL=>L[done.length]?) ed;simp only[List.getElem?_append_right (Nat.le_refl _),Nat.sub_self,List.getElem?_cons_zero] at this;rw[wHq (by rw[List.length_range];exact dl),List.getElem_range] at this;exact(Option.some.inj this).symm
   have dm:done.length<ms.length:=by omega
   have hz:(ms.zip rows)[done.length]? =some (ms[done.length],rows[done.length]):=by
     rw[wHq ooq];simp
   have b1:=hm.o ms[done.length] (List.getElem_mem dm);have b2:=hr.o rows[done.length] (List.getElem_mem dl);have hR:=hR [some (.lst (rows.map aG)),some (.lst (ms.map FQ)),x2,some (.int i),some (FQ (mdT f (ms.zip rows) done.length+ms[done.length]*f rows[done.length])),some (.int (t:Int))] G' ⟨rfl,done++[t],_,by rw[ed];simp,by
     rw[List.length_append,List.length_singleton,ZM hz];exact bd.add (b1.mul b2 (show 8+8<=16 by decide)) ooq,by rw[List.length_append,List.length_singleton,ZM hz]⟩
   subst eB et;have a1:atI (ms.map FQ) (done.length:Int)=some (FQ ms[done.length]):=cU (by rw[List.getElem?_map,wHq dm];rfl);have a2:atI (rows.map aG) (done.length:Int)=some (aG rows[done.length]):=cU (by rw[List.getElem?_map,wHq dl];rfl);have a1:=Hd.mk a1;have a2:=Hd.mk a2;have i3:∀{r:R3} {G:Gh} {Q:PK1},Q (FQ (f r)) G->gR (aG r) (.int i) G Q:=λ{r G Q} q=>⟨_,hf.o r,q⟩;have i3:=Hd.mk (@i3);have hR:=Hd.mk hR;clear ed hz he;walk_at "rz"
   refine⟨_,hf.o _,ti.o (b1.mono ddq) (b2.mono ddq) ?_⟩
   (try walk_at "rz")
   exact pl.o (bd.mono ooq) ((b1.mul b2 (show 8+8<=16 by decide)).mono ddq) hR.o
 . obtain⟨rfl,done,x5,ed,bd,rfl⟩:=hh;rw[List.append_nil] at ed;have dl:done.length=rows.length:=by rw[<-ed,List.length_range]
   have:=q.o x5;rw[dl];unfold mdT;rw[List.take_of_length_le ooq];exact this
def AX(l:LT T):∀xs G Q,zK xs G Q->wpS T jQ (aN Q) (aC 6 xs) G:=by
 rintro xs G Q ⟨rows,ms,rfl,he,h5,hr,hm,hq⟩;have I:Hd (∀{f:R3->Rat} {i:Int} {D:dL} {x2 x5:Option PV} {G:Gh},(∀r:R3,atI [FQ r.1,FQ r.2.1,FQ r.2.2] i=some (FQ (f r)))->(∀r∈rows,Bd 8 (f r))->(∀x5,D.nx [some (.lst (rows.map aG)),some (.lst (ms.map FQ)),x2,some (.int i),some (FQ (mdQ f ms rows)),x5] G)->
     wpS T maI D [some (.lst (rows.map aG)),some (.lst (ms.map FQ)),x2,some (.int i),some (.tup [.int 0,.int 1]),x5] G):=⟨λhf hr q=>aDn l hf he h5 hr hm q⟩
 have hq:=Hd.mk hq;have hr:=Hd.mk hr;have r3:iW 0 (3:Int).toNat=[(0,λr=>r.1),(1,λr=>r.2.1),(2,λr=>r.2.2)].map (λp:Int×(R3->Rat)=>PV.int p.1):=rfl;have he:=Hd.mk he;unfold jQ;generalize eI:maI=MI at *;generalize eA:(CS.ex (.app (.var 2) (.var 4)))=A;walk_at "rz"
 refine⟨Nat.zero_le _,λq nq=>?_⟩;refine⟨by decide,by decide,?_⟩;refine cB (λp:Int×(R3->Rat)=>PV.int p.1) (λj4 Y G'=>(∃(done:List (Int×(R3->Rat))) (x3 x4 x5:Option PV),[(0,λr=>r.1),(1,λr=>r.2.1),(2,λr=>r.2.2)]=done++j4/\G'=gup G q (.lst (done.map λp=>FQ (mdQ p.2 ms rows)))/\Y=[some (.lst (rows.map aG)),some (.lst (ms.map FQ)),some (.ref q),x3,x4,x5])) (λ_ _ _ _=>trivial) (λt r Y G' R hh hR=>?_) (λY G' hh=>?_) [(0,λr=>r.1),(1,λr=>r.2.1),(2,λr=>r.2.2)] _ _ ⟨[],_,_,_,rfl,rfl,rfl⟩
 . obtain⟨done,x3,x4,x5,ed,rfl,rfl⟩:=hh;have tm:t∈[((0:Int),(λr=>r.1:R3->Rat)),(1,λr=>r.2.1),(2,λr=>r.2.2)]:=by rw[ed];simp
   have dl:done.length<3:=by have:=congrArg List.length ed;simp at this;omega
   have tf:(∀r:R3,atI [FQ r.1,FQ r.2.1,FQ r.2.2] t.1=some (FQ (t.2 r)))/\∀r∈rows,Bd 8 (t.2 r):=by
     simp only[List.mem_cons,List.not_mem_nil,or_false] at tm;rcases tm with rfl|rfl|rfl
     . exact⟨λr=>at0,λr h=>(hr.o r h).1⟩
     . exact⟨λr=>at1,λr h=>(hr.o r h).2.1⟩
     . exact⟨λr=>at2,λr h=>(hr.o r h).2.2⟩
   show wpS T MI _ [some (.lst (rows.map aG)),some (.lst (ms.map FQ)),some (.ref q),some (.int t.1),some (.tup [.int 0,.int 1]),x5] _;refine I.o tf.1 tf.2 λx5=>?_;subst eA;have g1:(gup G q (.lst (done.map λp=>FQ (mdQ p.2 ms rows)))) q=some (.lst (done.map λp=>FQ (mdQ p.2 ms rows))):=aO;show(∃ys,bE (gup G q (.lst (done.map λp=>FQ (mdQ p.2 ms rows)))) (.ref q)=some ys)/\∃p xs,PV.ref q= .ref p/\(gup G q (.lst (done.map λp=>FQ (mdQ p.2 ms rows)))) p=some (.lst xs)/\xs.length<sizeLine/\R _ (gup (gup G q (.lst (done.map λp=>FQ (mdQ p.2 ms rows)))) p (.lst (xs++[FQ (mdQ t.2 ms rows)])));refine⟨⟨_,gS g1⟩,q,_,rfl,g1,wFq (show(done.map λp=>FQ (mdQ p.2 ms rows)).length<1000 by rw[List.length_map];omega) (szN ddq),?_⟩;rw[kX];exact hR _ _ ⟨done++[t],_,_,_,by rw[ed];simp,by rw[List.map_append];rfl,rfl⟩
 . obtain⟨done,x3,x4,x5,ed,rfl,rfl⟩:=hh;rw[List.append_nil] at ed;subst ed;show bU T.cs .tuple [.ref q] (gup G q (.lst _)) (Wk Q);rw[CG];exact Wk.of hq.o λa o z=>by rw[cX (λw=>by subst w;rw[nq] at z;cases z)];exact z
noncomputable def wiC:CE:=.blt .tuple %[.cmpr false (.gn 1) (.irg %[.int 3|_]) .nil (.cal "_law_plain_share" %[.var 2|_]) [none,none,some 0]|_]
noncomputable def wiD:CE:=.blt .tuple %[.cmpr false (.gn 1) (.irg %[.int 3|_]) .nil (.tup %[.cal "_law_pick" %[.var 2,.int 2|_],.int 1|_]) [none,none,some 0]|_]
def pR:CS:=.seq (.asg (.gn 2) (.cal "_law_pick" %[.var 0,.int 4|_])) (.seq (.asg (.gn 3) (.cal "_law_made" %[.var 1,.cal "_law_parts" %[.var 0,.blt .len %[.var 1|_]|_]|_])) (.seq (.asg (.gn 4) wiC) (.seq (.asg (.gn 5) wiD) (.ret (.idx (.lst false %[.var 3,.var 4,.var 4,.var 5|_]) (.var 2))))))
def aAj(k:L48 T){p:Addr}{Y:PSt}{G:Gh}{Q:PK1}(hp:Pu p G)(q:∀r G',I1 r->Dn3 60 r->Pn p G G'->Q (aG r) G'):wpE T wiC (some (.ref p)::Y) G Q:=by
 have pk:Hd (∀{G1:Gh} {Q:PK1},Pu p G1->(∀q G',In1 q->Dn 60 q->Pn p G1 G'->Q (FQ q) G')->T.S "_law_plain_share" [.ref p] G1 Q):=⟨λ{G1 Q} h q=>by rw[k.plain];exact⟨p,rfl,h,q⟩⟩;have q:=Hd.mk q;have hp:=Hd.mk hp;have:=@wU;unfold wiC;walk_at "rd"
 refine⟨by decide,by decide,pk.o hp.o λa G1 i1 d1 n1=>pk.o n1.pu λb G2 i2 d2 n2=>pk.o n2.pu λc G3 i3 d3 n3=>?_⟩;have:=q.o (a,b,c) G3 ⟨i1,i2,i3⟩ ⟨d1,d2,d3⟩ ((n1.trans n2).trans n3);unfold aG at this
 (try walk_at "rd")
def DW{r:Int}(a:0<=r)(b:r<2):In1 (r:Rat)/\Dn 1 (r:Rat):=by
 have:r=0∨r=1:=by omega
 rcases this with rfl|rfl
 . exact⟨⟨by decide,by decide⟩,⟨0,by decide +kernel⟩⟩
 . exact⟨⟨by decide,by decide⟩,⟨1,by decide +kernel⟩⟩
def aEm(l:LT T){Y:PSt}{G:Gh}(hp:Pu p G)(q:∀r G',I1 r->Dn3 1 r->Pn p G G'->Q (aG r) G'):wpE T wiD (some (.ref p)::Y) G Q:=by
 have pk:Hd (∀{G1:Gh} {Q:PK1},Pu p G1->(∀r G',0<=r->r<2->Pn p G1 G'->Q (.int r) G')->T.S "_law_pick" [.ref p,.int 2] G1 Q):=⟨λ{G1 Q} h q=>by rw[l.pick];exact⟨p,2,rfl,h,by decide,smP ddq ddq,q⟩⟩;have q:=Hd.mk q;have hp:=Hd.mk hp;have:=@wU;have:=@DU;unfold wiD;walk_at "rd"
 refine⟨by decide,by decide,pk.o hp.o λa G1 a0 a1 n1=>pk.o n1.pu λb G2 b0 b1 n2=>pk.o n2.pu λc G3 c0 c1 n3=>?_⟩;obtain⟨i1,d1⟩:=DW a0 a1;obtain⟨i2,d2⟩:=DW b0 b1;obtain⟨i3,d3⟩:=DW c0 c1;have:=q.o ((a:Rat),(b:Rat),(c:Rat)) G3 ⟨i1,i2,i3⟩ ⟨d1,d2,d3⟩ ((n1.trans n2).trans n3);unfold aG at this
 (try walk_at "rd")
theorem HG:∀{ms:List Rat} {rows:List R3},(∀m∈ms,Dn s m)->(∀r∈rows,Dn 120 (f r))->Dn (120*s) (mdQ f ms rows)
 | [],_,_,_=>by unfold mdQ;rw[List.zip_nil_left];exact Dn.zero
 | _::_,[],_,_=>by unfold mdQ;rw[List.zip_nil_right];exact Dn.zero
 | m::ms,r::rows,hm,hr=>by
   have ih:=HG (f:=f) (ms:=ms) (rows:=rows) (λm h=>hm m (wCq _ h)) (λr h=>hr r (wCq _ h));have e:mdQ f (m::ms) (r::rows)=f r*m+mdQ f ms rows:=by unfold mdQ;rw[List.zip_cons_cons,List.map_cons,List.sum_cons,Rat.mul_comm]
   rw[e];exact((hr r (by simp)).mul (hm m (by simp))).add ih
def aCQ(P:TN n ms s)(len:rows.length=n)(hr:∀r∈rows,I1 r/\Dn3 120 r):I1 (mdR ms rows)/\Dn3 (120*s) (mdR ms rows):=by
 have ml:ms.length=rows.length:=by rw[P.len,len]
 have go:∀f:R3->Rat,(∀r∈rows,In1 (f r))->In1 (mdQ f ms rows):=λf hf=>by
   obtain⟨a,c⟩:=CV ml P.nn hf;rw[P.one] at c;exact⟨a,c⟩
 exact⟨⟨go _ λr h=>(hr r h).1.1,go _ λr h=>(hr r h).1.2.1,go _ λr h=>(hr r h).1.2.2⟩,HG P.dn λr h=>(hr r h).2.1,HG P.dn λr h=>(hr r h).2.2.1,HG P.dn λr h=>(hr r h).2.2.2⟩
def aEy(h:I1 r/\Dn3 120 r):Bd 8 r.1/\Bd 8 r.2.1/\Bd 8 r.2.2:=by
 have s:Sm 8 120:=by unfold Sm;decide
 exact⟨h.2.1.bd ddq s h.1.1,h.2.2.1.bd ddq s h.1.2.1,h.2.2.2.bd ddq s h.1.2.2⟩
def aD0(P:TN n ms s):∀m∈ms,Bd 8 m:=λm h =>
 (P.dn m h).bd P.s1 (show Sm 8 s by have:=P.s1;have:=P.s2;unfold Sm;omega) ⟨P.nn m h,P.le m h⟩
def NO(l:LT T)(k:L48 T):∀xs G Q,DM xs G Q->wpS T pR (aN Q) (aC 6 xs) G:=by
 rintro xs G Q ⟨p,rows,rfl,hp,h1,h5,hr,hq⟩;have hq:=Hd.mk hq;have hp:=Hd.mk hp;have pk:Hd (∀{G1:Gh} {Q:PK1},Pu p G1->(∀r G',0<=r->r<4->Pn p G1 G'->Q (.int r) G')->T.S "_law_pick" [.ref p,.int 4] G1 Q):=⟨λ{G1 Q} h q=>by rw[l.pick];exact⟨p,4,rfl,h,by decide,smP ddq ddq,q⟩⟩;have pa:Hd (∀{G1:Gh} {Q:PK1},Pu p G1->(∀ms s G',TN rows.length ms s->Pn p G1 G'->Q (.lst (ms.map FQ)) G')->T.S "_law_parts" [.ref p,.int (rows.length:Int)] G1 Q):=⟨λ{G1 Q} h q=>by rw[k.parts];exact⟨p,rows.length,rfl,h,h1,h5,q⟩⟩;have ma:Hd (∀{ms:List Rat} {s:Int} {G1:Gh} {Q:PK1},TN rows.length ms s->Q (aG (mdR ms rows)) G1->T.S "_law_made" [.lst (rows.map aG),.lst (ms.map FQ)] G1 Q):=⟨λP q=>by rw[k.made];exact⟨rows,_,rfl,P.len.symm,h5,λr h=>aEy (hr r h),aD0 P,q⟩⟩;have hr:=Hd.mk hr;have ln:∀{G:Gh} {Q:PK1},bU T.cs .len [.lst (rows.map aG)] G Q=Q (.int (rows.length:Int)) G:=λ{_ _}=>jR;unfold pR;generalize eC:wiC=C;generalize eD:wiD=D;walk_at "rz"
 refine pk.o hp.o λw G1 w0 w1 n1=>?_
 (try walk_at "rz")
 refine pa.o n1.pu λms s G2 P n2=>ma.o P ?_
 (try walk_at "rz")
 subst eC;refine aAj k n2.pu λa G3 ia da n3=>?_;subst eD
 (try walk_at "rz")
 refine aEm l n3.pu λb G4 ib db n4=>?_;have nn:=((n1.trans n2).trans n3).trans n4;have hw:=Hd.mk (λr s i s1 s2 d=>Wk.here (hq.o r s G4 i s1 s2 d nn));have e:w=0∨w=1∨w=2∨w=3:=by omega
 obtain⟨mi,md⟩:=aCQ P rfl hr.o;have a60:Dn3 (120*1) a:=⟨da.1.up 2,da.2.1.up 2,da.2.2.up 2⟩;have b1:Dn3 (120*1) b:=⟨db.1.up 120,db.2.1.up 120,db.2.2.up 120⟩;refine⟨szN ddq,?_⟩;rcases e with rfl|rfl|rfl|rfl
 . exact⟨_,at0,hw.o _ s mi P.s1 P.s2 md⟩
 . exact⟨_,at1,hw.o _ 1 ia ddq ddq a60⟩
 . exact⟨_,at2,hw.o _ 1 ia ddq ddq a60⟩
 . exact⟨_,at3,hw.o _ 1 ib ddq ddq b1⟩
end
def MH(x:Rat):0<=x*x:=sq0
def aCE(he:EyZ e)(h:ipQ e w n o<=0):mM w.1 w.2.1 w.2.2 n.1 n.2.1 n.2.2 e.1 e.2.1 e.2.2<=mM w.1 w.2.1 w.2.2 o.1 o.2.1 o.2.2 e.1 e.2.1 e.2.2:=by
 have p:=λ{x:Int} (h:1<=x)=>(Rat.intCast_nonneg.mpr (show 0<=x by omega));have a:=Rat.mul_nonneg (p he.1.1) (MH (o.1-n.1));have b:=Rat.mul_nonneg (p he.2.1.1) (MH (o.2.1-n.2.1));have c:=Rat.mul_nonneg (p he.2.2.1) (MH (o.2.2-n.2.2));unfold ipQ at h;unfold mM
 grind
def ipS(e:Z3)(w n:R3)(z:List (Rat×R3)):Rat:=(z.map λp=>p.1*ipQ e w n p.2).sum
noncomputable def mS(z:List (Rat×R3)):Rat:=(z.map (·.1)).sum
theorem QP:∀z:List (Rat×R3),ipS e w n z=(e.1:Rat)*((w.1-n.1)*((z.map λp=>p.1*p.2.1).sum-mS z*n.1))+(e.2.1:Rat)*((w.2.1-n.2.1)*((z.map λp=>p.1*p.2.2.1).sum-mS z*n.2.1))+(e.2.2:Rat)*((w.2.2-n.2.2)*((z.map λp=>p.1*p.2.2.2).sum-mS z*n.2.2))
 | []=>by unfold ipS mS;simp only[List.map_nil,List.sum_nil];grind
 | p::z=>by
   have ih:=QP (e:=e) (w:=w) (n:=n) z;unfold ipS mS at *;simp only[List.map_cons,List.sum_cons];rw[ih];unfold ipQ
   grind
theorem OV:∀{ms:List Rat} {rows:List R3},ms.length=rows.length->mS (ms.zip rows)=ms.sum
 | [],[],_=>rfl
 | m::ms,r::rows,h=>by
   have:=OV (ms:=ms) (rows:=rows) (by simpa using h);unfold mS at *;rw[List.zip_cons_cons,List.map_cons,List.sum_cons,List.sum_cons,this]
def MkR.le(M:MkR rows g e' k ms n)(h:∀p∈ms.zip rows,p.1≠0->ipQ e w x p.2<=0):ipQ e w x n<=0:=by
 have z : ipS e w x (ms.zip rows)<=0:=by
   have nn:∀p∈ms.zip rows,0<=p.1:=λp hp=>M.nn p.1 (List.of_mem_zip hp).1;generalize ms.zip rows=z at h nn;induction z with
   | nil=>exact Rat.le_refl
   | cons p z ih =>
     have ih:=ih (λq hq=>h q (wCq _ hq)) (λq hq=>nn q (wCq _ hq));have a:=nn p (by simp);have b:=h p (by simp);have c:p.1*ipQ e w x p.2<=0:=by
       by_cases z:p.1=0
       . rw[z];grind
       . have:=Rat.mul_nonneg a (show 0<=-(ipQ e w x p.2) by have:=b z;grind)
         grind
     unfold ipS at *;rw[List.map_cons,List.sum_cons]
     grind
 rw[QP,OV M.len,M.one] at z;rw[M.made];unfold ipQ mdQ
 grind
def MkR.hull(M:MkR rows g e' k ms n)(h:∀r∈rows,ipQ e w x r<=0):ipQ e w x n<=0:=M.le λp hp _=>h p.2 (List.of_mem_zip hp).2
def GN(he:EyZ e)(h:(e.1:Rat)*(a*a)+(e.2.1:Rat)*(b*b)+(e.2.2:Rat)*(c*c)<=0):a=0/\b=0/\c=0:=by
 have p:=λ{x:Int} (h:1<=x)=>(Rat.intCast_pos.mpr (show 0<x by omega));have sq:∀{x:Rat},x≠0->0<x*x:=λ{x} z=>by
   by_cases y:0<x
   . exact Rat.mul_pos y y
   . have y:=Rat.not_lt.mp y;have y':0 < -x:=by grind
     have:=Rat.mul_pos y' y';grind
 have A:=Rat.mul_nonneg (Rat.le_of_lt (p he.1.1)) (MH a);have B:=Rat.mul_nonneg (Rat.le_of_lt (p he.2.1.1)) (MH b);have C:=Rat.mul_nonneg (Rat.le_of_lt (p he.2.2.1)) (MH c);refine⟨?_,?_,?_⟩<;>refine Classical.byContradiction λz=>?_
 . have:=Rat.mul_pos (p he.1.1) (sq z);grind
 . have:=Rat.mul_pos (p he.2.1.1) (sq z);grind
 . have:=Rat.mul_pos (p he.2.2.1) (sq z);grind
def aAa{a b:R3}(h1:a.1-b.1=0)(h2:a.2.1-b.2.1=0)(h3:a.2.2-b.2.2=0):a=b:=by
 obtain⟨a1,a2,a3⟩:=a;obtain⟨b1,b2,b3⟩:=b;simp only at h1 h2 h3;rw[show a1=b1 by grind,show a2=b2 by grind,show a3=b3 by grind]
def PD(he:EyZ e)(h1:ipQ e w n o<=0)(h2:ipQ e w o n<=0):n=o:=by
 obtain⟨a,b,c⟩:=GN (a:=n.1-o.1) (b:=n.2.1-o.2.1) (c:=n.2.2-o.2.2) he (by unfold ipQ at h1 h2;grind);exact aAa a b c
def kG(he:EyZ e)(h:ipQ e w n w<=0):n=w:=by
 obtain⟨a,b,c⟩:=GN (a:=n.1-w.1) (b:=n.2.1-w.2.1) (c:=n.2.2-w.2.2) he (by unfold ipQ at h;grind);exact aAa a b c
def MkR.used(he:EyZ e)(M:MkR rows w e k ms n)(M':MkR us w e k' ms' n')(hu:∀r∈us,r∈rows)(hs:∀p∈ms.zip rows,p.1≠0->p.2∈us):n'=n :=
 PD he (M.le λp hp h=>M'.up _ (hs p hp h)) (M'.hull λr hr=>M.up r (hu r hr))
def MkR.again(he:EyZ e')(M:MkR rows w e k ms n)(M':MkR us n e' k' ms' n')(hs:∀p∈ms.zip rows,p.1≠0->p.2∈us):n'=n :=
 kG he (M.le λp hp h=>M'.up _ (hs p hp h))
def MkR.eyes(he:EyZ e)(he':EyZ e')(M:MkR rows w e k ms n)(M':MkR us w e' k' ms' n')(hu:∀r∈us,r∈rows)(hs:∀p∈ms.zip rows,p.1≠0->p.2∈us):n'=w↔n=w:=by
 constructor
 . intro z;subst z;exact kG he (M'.hull λr hr=>M.up r (hu r hr))
 . intro z;subst z;exact kG he' (M.le λp hp h=>M'.up _ (hs p hp h))
def MkR.more(he:EyZ e)(M:MkR rows w e k ms n)(M':MkR us w e k' ms' n')(hs:∀r∈rows,r∈us) :
   mM w.1 w.2.1 w.2.2 n'.1 n'.2.1 n'.2.2 e.1 e.2.1 e.2.2<=mM w.1 w.2.1 w.2.2 n.1 n.2.1 n.2.2 e.1 e.2.1 e.2.2/\(n=w->n'=w):=by
 have h:=M.hull (e:=e) (w:=w) (x:=n') λr hr=>M'.up r (hs r hr);refine⟨aCE he h,λz=>?_⟩;subst z;exact kG he h
noncomputable def usR(ms:List Rat)(rows:List R3):List R3:=((ms.zip rows).filter λp=>decide (p.1≠0)).map (·.2)
def aAE(h:r∈usR ms rows):r∈rows:=by
 obtain⟨p,hp,rfl⟩:=List.mem_map.mp h;exact(List.of_mem_zip (List.mem_filter.mp hp).1).2
def aBE:∀p∈ms.zip rows,p.1≠0->p.2∈usR ms rows:=λp hp h=>List.mem_map.mpr ⟨p,List.mem_filter.mpr ⟨hp,decide_eq_true h⟩,rfl⟩
theorem QN:∀{ms:List Rat} {rows:List R3},ms.length=rows.length->(usR ms rows).length=(ms.filter λm=>decide (m≠0)).length
 | [],[],_=>rfl
 | m::ms,r::rows,h=>by
   have ih:=QN (ms:=ms) (rows:=rows) (by simpa using h);unfold usR at *;rw[List.length_map] at *;rw[List.zip_cons_cons];by_cases z:m=0
   . rw[List.filter_cons_of_neg (by simp[z]),List.filter_cons_of_neg (by simp[z])];exact ih
   . rw[List.filter_cons_of_pos (by simp[z]),List.filter_cons_of_pos (by simp[z]),List.length_cons,List.length_cons,ih]
theorem BL:∀{ms:List Rat},(ms.filter λm=>decide (m≠0)).length=0->ms.sum=0
 | [],_=>rfl
 | m::ms,h=>by
   by_cases z:m=0
   . rw[List.filter_cons_of_neg (by simp[z])] at h;rw[List.sum_cons,BL h,z];grind
   . rw[List.filter_cons_of_pos (by simp[z]),List.length_cons] at h;omega
def MkR.usn(M:MkR rows g e k ms n):1<=(usR ms rows).length/\(usR ms rows).length<=4:=by
 rw[QN M.len];refine⟨?_,M.few⟩;refine Classical.byContradiction λz=>?_;have:=BL (ms:=ms) ooq;rw[M.one] at this;exact absurd this ddq
local macro_rules | `(tactic| walk_at "rz") => wk (wqB++" List.map_cons List.map_nil mK dE WF")
section
variable{T:Tb}
noncomputable def riA:CE:=.cmpr false (.gn 1) (.isq (.var 1)) .nil (.cal "_law_shade" %[.var 1|_]) [none,none]
noncomputable def riU:CE:=.cmpr false (.gn 1) (.irg %[.blt .len %[.var 1|_]|_]) (.tsb (.cmp .NotEq (.idx (.var 3) (.var 1)) (.tup %[.int 0,.int 1|_]))) (.idx (.var 2) (.var 1)) [none,none,some 4,some 6]
noncomputable def usT(z:List (Rat×R3))(k:Nat):List R3:=((z.take k).filter λp=>decide (p.1≠0)).map (·.2)
def aEl(h:z[k]? =some p):usT z (k+1)=if p.1≠0 then usT z k++[p.2] else usT z k:=by
 unfold usT;rw[List.take_add_one,h,Option.toList_some,List.filter_append,List.map_append];by_cases c:p.1=0
 . rw[j9 (by simp[c]),List.filter_cons_of_neg (by simp[c])];simp
 . rw[ja c,List.filter_cons_of_pos (by simp[c])];simp
def aFf{rows:List R3}{ms:List Rat}{x0 x2 x3 x5:Option PV}{Y:PSt}{G:Gh}{Q:PK1}(h5:rows.length<=5)(he:ms.length=rows.length)(q:Q (.lst ((usR ms rows).map shV)) G) :
   wpE T riU (x0::some (.lst (rows.map aG))::x2::x3::some (.tup (rows.map shV))::x5::some (.tup (ms.map FQ))::Y) G Q:=by
 have z0:(PV.tup [.int 0,.int 1]:PV)=FQ 0:=rfl;have ln:∀{G:Gh} {Q:PK1},bU T.cs .len [.lst (rows.map aG)] G Q=Q (.int (rows.length:Int)) G:=λ{_ _}=>jR;have lz:(ms.zip rows).length=rows.length:=by rw[List.length_zip,he,Nat.min_self]
 have q:=Hd.mk q;have he':=Hd.mk he;clear he;unfold riU;walk_at "rz"
 refine⟨by omega,by omega,by rw[iJ];exact dF (by rw[List.length_range];omega),?_⟩;rw[iJ];have he:=he'.o;refine hV (λ(t:Nat)=>PV.int (t:Int)) (λj4 Y G' acc=>G'=G/\∃(done:List Nat) (x1:Option PV),List.range rows.length=done++j4/\acc=(usT (ms.zip rows) done.length).map shV/\Y=[none,x1,some (.tup (rows.map shV)),some (.tup (ms.map FQ))]) (λ_ _ _ _ _=>trivial) (λt r Y G' acc R N hh hR hN=>?_) (λY G' acc hh=>?_) (List.range rows.length) _ _ _ ⟨rfl,[],none,rfl,rfl,rfl⟩
 . obtain⟨rfl,done,x1,ed,rfl,rfl⟩:=hh;have dl:done.length<rows.length:=by have:=congrArg List.length ed;rw[List.length_range,List.length_append,List.length_cons] at this;omega
   have et:t=done.length:=by
     have:=congrArg (λL=>L[done.length]?) ed;simp only[List.getElem?_append_right (Nat.le_refl _),Nat.sub_self,List.getElem?_cons_zero] at this;rw[wHq (by rw[List.length_range];exact dl),List.getElem_range] at this;exact(Option.some.inj this).symm
   have dm:done.length<ms.length:=by omega
   have hz:(ms.zip rows)[done.length]? =some (ms[done.length],rows[done.length]):=by
     rw[wHq ooq];simp
   have us:=aEl hz;subst et;have a1:atI (ms.map FQ) (done.length:Int)=some (FQ ms[done.length]):=cU (by rw[List.getElem?_map,wHq dm];rfl);have a2:atI (rows.map shV) (done.length:Int)=some (shV rows[done.length]):=cU (by rw[List.getElem?_map,wHq dl];rfl);have hR':=Hd.mk (λ(c:ms[done.length]≠0)=>hR (shV rows[done.length]) [none,some (.int (done.length:Int)),some (.tup (rows.map shV)),some (.tup (ms.map FQ))] G' ⟨rfl,done++[done.length],_,by rw[ed];simp,by rw[List.length_append,List.length_singleton,us,ja c,List.map_append];rfl,rfl⟩);have hN':=Hd.mk (λ(c:¬ms[done.length]≠0)=>hN [none,some (.int (done.length:Int)),some (.tup (rows.map shV)),some (.tup (ms.map FQ))] G' ⟨rfl,done++[done.length],_,by rw[ed];simp,by rw[List.length_append,List.length_singleton,us,j9 c],rfl⟩);have a1:=Hd.mk a1;have a2:=Hd.mk a2;generalize ms[done.length]=m at *;generalize rows[done.length]=rw0 at *;clear ed hz he us hR hN;walk_at "rz"
   by_cases c:m=0
   . rw[decide_eq_true c,j9 ddq];exact hN'.o (by simp[c])
   . rw[decide_eq_false c,ja ddq];exact hR'.o c
 . obtain⟨rfl,done,x1,ed,rfl,rfl⟩:=hh;rw[List.append_nil] at ed;have dl:done.length=rows.length:=by rw[<-ed,List.length_range]
   have:=q.o;rw[dl];unfold usT;rw[List.take_of_length_le ooq];exact this
end
section
variable{T:Tb}
structure M48(rows:List R3)(w n:R3)(e:Z3)(s:Int)(ms:List Rat):Prop where
 h1:1<=rows.length
 h5:rows.length<=5
 hr:∀r∈rows,I1 r/\Dn3 120 r
 iw:I1 w
 s1:0<s
 s2:s<=61
 dw:Dn3 (120*s) w
 he:EyZ e
 M:MkR rows w e 13 ms n
structure Us(rows us:List R3)(ms:List Rat):Prop where
 u1:1<=us.length
 u5:us.length<=5
 hu:∀r∈us,r∈rows
 hs:∀p∈ms.zip rows,p.1≠0->p.2∈us
def M48.sm(h:M48 rows w n e s ms):0<120*s/\Sm 13 (120*s):=by
 have a:=h.s1;have b:=h.s2;exact⟨by omega,by unfold Sm;omega⟩
def VF(s:Int)(h:Dn3 120 r):Dv (120*s) r:=Dn3.dv ⟨h.1.up s,h.2.1.up s,h.2.2.up s⟩
def M48.make(kl:PL T){rows us:List R3}{w n:R3}{e:Z3}{s:Int}{ms:List Rat}(h:M48 rows w n e s ms)(U:Us rows us ms){G:Gh}{Q:PK1}(q:∀(ms':List Rat) ln,LnR w n ln->Q (.tup [.tup (ms'.map FQ),shV n,ln]) G) :
   T.S "make" [.tup (us.map shV),shV w,eyZ e] G Q:=by
 rw[kl.make];refine⟨us,w,_,e,13,120*s,rfl,U.u1,U.u5,xP.t,h.he,h.sm.1,h.sm.2,by decide,λr z=>⟨VF s (h.hr r (U.hu r z)).2,(h.hr r (U.hu r z)).1⟩,h.dw.dv,h.iw,λms' nr ln M' L=>?_⟩;have e1:=h.M.used h.he M' U.hu U.hs;subst e1;exact q ms' ln L
def M48.mkn(kl:PL T)(h:M48 rows w n e s ms)(U:Us rows us ms)(q:∀ms':List Rat,Q (.tup [.tup (ms'.map FQ),shV n,.non]) G) :
   T.S "make" [.tup (us.map shV),shV n,eyZ e] G Q:=by
 obtain⟨m,m0,sm,dn,dr⟩:=h.M.bot;rw[kl.make];refine⟨us,n,_,e,7*13+45,m,rfl,U.u1,U.u5,xP.t,h.he,m0,sm,by decide,λr z=>⟨dr r (U.hu r z),(h.hr r (U.hu r z)).1⟩,dn,h.M.i1,λms' nr ln M' L=>?_⟩;have e1:=h.M.again h.he M' U.hs;rcases L with ⟨_,rfl⟩|⟨z,_⟩
 . rw[e1];exact q ms'
 . exact absurd e1 z
def ey1:EyZ (1,1,1):=⟨⟨by decide,by decide⟩,⟨by decide,by decide⟩,⟨by decide,by decide⟩⟩
def M48.can(k:L48 T)(h:M48 rows w n e s ms)(U:Us rows us ms)(q:Q (.bl (decide (n=w))) G) :
   T.S "can_make" [.tup (us.map shV),shV w] G Q:=by
 rw[k.can];refine⟨us,w,13,120*s,rfl,U.u1,U.u5,h.sm.1,h.sm.2,by decide,λr z=>⟨VF s (h.hr r (U.hu r z)).2,(h.hr r (U.hu r z)).1⟩,h.dw.dv,h.iw,λms' nr M'=>?_⟩;rw[show decide (nr=w)=decide (n=w) from decide_eq_decide.mpr (h.M.eyes h.he ey1 M' U.hu U.hs)];exact q
def M48.cann(k:L48 T)(h:M48 rows w n e s ms)(U:Us rows us ms)(q:Q (.bl true) G) :
   T.S "can_make" [.tup (us.map shV),shV n] G Q:=by
 obtain⟨m,m0,sm,dn,dr⟩:=h.M.bot;rw[k.can];refine⟨us,n,7*13+45,m,rfl,U.u1,U.u5,m0,sm,by decide,λr z=>⟨dr r (U.hu r z),(h.hr r (U.hu r z)).1⟩,dn,h.M.i1,λms' nr M'=>?_⟩;rw[decide_eq_true (h.M.again ey1 M' U.hs)];exact q
def M48.more(kl:PL T){rows us:List R3}(h:M48 rows w n e s ms)(u5:us.length<=5)(hs:∀r∈rows,r∈us)(hr:∀r∈us,I1 r/\Dn3 120 r)
   (q:∀(ms':List Rat) o ln,LnR w o ln->PP o->mM w.1 w.2.1 w.2.2 o.1 o.2.1 o.2.2 e.1 e.2.1 e.2.2<=mM w.1 w.2.1 w.2.2 n.1 n.2.1 n.2.2 e.1 e.2.1 e.2.2->(n=w->o=w)->Q (.tup [.tup (ms'.map FQ),shV o,ln]) G) :
   T.S "make" [.tup (us.map shV),shV w,eyZ e] G Q:=by
 rw[kl.make];have u1:1<=us.length:=by
   have:=h.h1;cases rows with
   | nil=>simp at this
   | cons r t=>have:=List.length_pos_of_mem (hs r (by simp));omega
 refine⟨us,w,_,e,13,120*s,rfl,u1,u5,xP.t,h.he,h.sm.1,h.sm.2,by decide,λr z=>⟨VF s (hr r z).2,(hr r z).1⟩,h.dw.dv,h.iw,λms' nr ln M' L=>?_⟩;obtain⟨a,b⟩:=h.M.more h.he M' hs;exact q ms' nr ln L ⟨M'.bd.1.mono ddq,M'.bd.2.1.mono ddq,M'.bd.2.2.mono ddq⟩ a b
def M48.us(h:M48 rows w n e s ms):Us rows (usR ms rows) ms:=⟨h.M.usn.1,by have:=h.M.usn.2;omega,λ_=>aAE,aBE⟩
def M48.all(h:M48 rows w n e s ms):Us rows rows ms:=⟨h.h1,h.h5,λ_ z=>z,λ_ hp _=>(List.of_mem_zip hp).2⟩
def M48.turn(h:M48 rows w n e s ms)(k:Nat):Us rows (rows.drop k++(rows.take k).reverse) ms:=by
 have mem:∀{r:R3},r∈rows.drop k++(rows.take k).reverse↔r∈rows:=λ{r}=>by
   rw[List.mem_append,List.mem_reverse];constructor
   . rintro(z|z)
     . exact List.mem_of_mem_drop z
     . exact List.mem_of_mem_take z
   . intro z;rw[<-List.take_append_drop k rows,List.mem_append] at z;exact z.symm
 have l:(rows.drop k++(rows.take k).reverse).length=rows.length:=by
   rw[List.length_append,List.length_reverse,List.length_drop,List.length_take];omega
 exact⟨by rw[l];exact h.h1,by rw[l];exact h.h5,λr z=>mem.mp z,λp hp _=>mem.mpr (List.of_mem_zip hp).2⟩
end
local macro_rules | `(tactic| walk_at "rz") => wk (wqB++" wR jS ZX sQ wY aDD tX aCm BU kH mK zN AE dH gG sM dE iZ hU gC at1 at2 sz1")
section
variable{T:Tb}
def aEv(k:L48 T){rows:List R3}{x0:Option PV}{Y:PSt}{G:Gh}{Q:PK1}(h5:rows.length<=5)(hr:∀r∈rows,I1 r)(q:Q (.lst (rows.map shV)) G):wpE T riA (x0::some (.lst (rows.map aG))::Y) G Q:=by
 unfold riA;have q:=Hd.mk q;have so:Hd (∀{r:R3} {G:Gh} {Q:PK1},r∈rows->Q (shV r) G->T.S "_law_shade" [aG r] G Q):=⟨λ{r G Q} h q=>by rw[k.shade];exact⟨r,rfl,hr r h,q⟩⟩;have lz:(rows.map aG).length<=sizeLine:=dF ooq;clear hr;walk_at "rz"
 refine aQ (chk:=λ_=>True) (G:=G) aG shV (λY=>∃x1,Y=[none,x1]) trivial rows [] _ _ ⟨none,rfl⟩ (λr hr Y R N hh hR=>?_) q.o;obtain⟨x1,rfl⟩:=hh;exact so.o hr (hR _ ⟨some (aG r),rfl⟩)
def aFH(s1:0<s)(s2:s<=61)(i:I1 r)(d:Dn3 (120*s) r):PP r:=by
 have sm:Sm 13 (120*s):=by unfold Sm;omega
 have h0:0<120*s:=by omega
 exact⟨(d.1.bd h0 sm i.1).mono ddq,(d.2.1.bd h0 sm i.2.1).mono ddq,(d.2.2.bd h0 sm i.2.2).mono ddq⟩
def aCv(q:Q (.bl false) G):pEq true (aG n) (aG n) G Q:=by
 have e:peq (aG n) (aG n)=true:=by
   obtain⟨a,b,c⟩:=n;unfold aG FQ;simp[peq,oJ]
 show shp (aG n)=true/\shp (aG n)=true/\Q (.bl (!peq (aG n) (aG n))) G;rw[e];exact⟨rfl,rfl,q⟩
def NY(q:Q (.bl false) G):pEq true (.bl b) (.bl b) G Q:=by
 have e:peq (.bl b) (.bl b)=true:=by cases b<;>rfl
 show shp (.bl b)=true/\shp (.bl b)=true/\Q (.bl (!peq (.bl b) (.bl b))) G;rw[e];exact⟨rfl,rfl,q⟩
def QQ(L:LnR w n ln)(q:Q (.bl (decide (n=w))) G):pIs false ln .non G Q:=by
 rcases L with ⟨z,rfl⟩|⟨z,a,c,rfl⟩
 . rw[decide_eq_true z] at q;rw[vH];exact q
 . rw[decide_eq_false z] at q;rw[yE (λz=>by cases z)];exact q
def aBH(L:LnR w n ln)(q:Q (.bl (!decide (n=w))) G):pIs true ln .non G Q:=by
 rcases L with ⟨z,rfl⟩|⟨z,a,c,rfl⟩
 . rw[decide_eq_true z] at q;rw[sM];exact q
 . rw[decide_eq_false z] at q;rw[GD (λz=>by cases z)];exact q
def iT:CS:=.seq (.asg (.gt 2 %[.gn 4,.gn 5|_]) (.tup %[.blt .tuple %[riA|_],.cal "_law_shade" %[.var 2|_]|_])) (.seq (.asg (.gt 3 %[.gn 6,.gn 7,.gn 8|_]) (.cal "make" %[.var 4,.var 5,.var 3|_])) (.seq (.asg (.gn 9) (.blt .tuple %[riU|_])) (.seq (.iff (.oo (.no (.tsb (.chn .LtE .LtE (.int 1) (.blt .len %[.var 9|_]) (.int 4)))) (.tsb (.cmp .NotEq (.cal "_law_shares_of" %[.idx (.cal "make" %[.var 9,.var 5,.var 3|_]) (.int 1)|_]) (.cal "_law_shares_of" %[.var 7|_])))) (.ret (.bl false)) .nil) (.seq (.asg (.gn 10) (.cal "_law_pick" %[.var 0,.blt .len %[.var 1|_]|_])) (.seq (.asg (.gn 11) (.bin .Add (.sli (.var 4) (.tst (.var 10)) .nil) (.rev (.sli (.var 4) .nil (.tst (.var 10)))))) (.seq (.iff (.tsb (.cmp .NotEq (.cal "_law_shares_of" %[.idx (.cal "make" %[.var 11,.var 5,.var 3|_]) (.int 1)|_]) (.cal "_law_shares_of" %[.var 7|_]))) (.ret (.bl false)) .nil) (.seq (.iff (.oo (.no (.tst (.cal "can_make" %[.var 4,.var 7|_]))) (.oo (.no (.tst (.cal "can_make" %[.var 9,.var 7|_]))) (.tsb (.cmp .IsNot (.idx (.cal "make" %[.var 9,.var 7,.var 3|_]) (.int 2)) .non)))) (.ret (.bl false)) .nil) (.seq (.iff (.oo (.tsb (.cmp .NotEq (.cal "can_make" %[.var 4,.var 5|_]) (.cmp .Is (.var 8) .non))) (.tsb (.cmp .NotEq (.cal "can_make" %[.var 9,.var 5|_]) (.cmp .Is (.var 8) .non)))) (.ret (.bl false)) .nil) (.seq (.iff (.tsb (.cmp .Eq (.blt .len %[.var 1|_]) (.int 5))) (.ret (.bl true)) .nil) (.seq (.asg (.gn 12) (.cal "make" %[.bin .Add (.var 4) (.tup %[.cal "_law_shade" %[wiC|_]|_]),.var 5,.var 3|_])) (.seq (.par 13 14 (.cal "_law_shares_of" %[.idx (.var 12) (.int 1)|_]) (.cal "_law_far" %[.var 2,.cal "_law_shares_of" %[.var 7|_],.var 3|_])) (.ret (.an (.no (.cal "_law_below" %[.var 14,.cal "_law_far" %[.var 2,.var 13,.var 3|_]|_])) (.oo (.cmp .IsNot (.var 8) .non) (.cmp .Is (.idx (.var 12) (.int 2)) .non)))))))))))))))
def yT(h:PT T)(kl:PL T)(l:LT T)(k:L48 T):∀xs G Q,xX xs G Q->wpS T iT (aN Q) (aC 15 xs) G:=by
 rintro xs G Q ⟨p,rows,w,e,s,rfl,hp,h1,h5,hr,iw,s1,s2,dw,he,hq⟩;have h120:(0:Int)<120*s:=by omega
 have s13:Sm 13 (120*s):=by unfold Sm;omega
 have A1:=Hd.mk (λ{x0:Option PV} {Y:PSt} {G:Gh} {Q:PK1} (q:Q (.lst (rows.map shV)) G)=>aEv (T:=T) (x0:=x0) (Y:=Y) k h5 (λr h=>(hr r h).1) q);have A2:Hd (∀{G:Gh} {Q:PK1},Q (shV w) G->T.S "_law_shade" [aG w] G Q):=⟨λq=>by rw[k.shade];exact⟨w,rfl,iw,q⟩⟩;have A3:Hd (∀{G:Gh} {Q:PK1},(∀(ms:List Rat) nr ln,MkR rows w e 13 ms nr->LnR w nr ln->Q (.tup [.tup (ms.map FQ),shV nr,ln]) G)->T.S "make" [.tup (rows.map shV),shV w,eyZ e] G Q):=⟨λq=>by
   rw[kl.make];exact⟨rows,w,_,e,13,120*s,rfl,by omega,h5,xP.t,he,h120,s13,by decide,λr h=>⟨VF s (hr r h).2,(hr r h).1⟩,dw.dv,iw,q⟩⟩
 have hq:=Hd.mk hq;have hp:=Hd.mk hp;have hr:=Hd.mk hr;have tt:∀{xs:List PV} {G:Gh} {Q:PK1},bU T.cs .tuple [.lst xs] G Q=Q (.tup xs) G:=eZ;unfold iT;generalize eA:riA=RA at *;generalize eU:riU=RU;generalize eD:wiC=RD;walk_at "rz"
 refine A1.o ?_
 (try walk_at "rz")
 refine A2.o ?_
 (try walk_at "rz")
 refine A3.o λms n ln M L=>?_;have K:M48 rows w n e s ms:=⟨by omega,h5,hr.o,iw,s1,s2,dw,he,M⟩;have ml:=Hd.mk M.len;clear M;have K:=Hd.mk K
 (try walk_at "rz")
 subst eU;refine aFf h5 ml.o ?_
 (try walk_at "rz")
 rw[List.length_map,ja (by have:=K.o.us.u1;omega),j9 (by have:=K.o.M.usn.2;simp;omega)];have S:Hd (∀{G:Gh} {Q:PK1},Q (aG n) G->T.S "_law_shares_of" [shV n] G Q):=⟨λq=>by rw[k.sharesL];exact⟨_,_,_,rfl,q⟩⟩;have E1:Hd (∀{G:Gh} {Q:PK1},Q (.bl false) G->pEq true (aG n) (aG n) G Q):=⟨λq=>aCv q⟩;refine K.o.make kl K.o.us λms1 ln1 L1=>?_;have L1:=Hd.mk L1;have L:=Hd.mk L
 (try walk_at "rz")
 refine S.o (S.o (E1.o ?_));refine⟨_,rfl,?_⟩;rw[j9 ddq];have pk:Hd (∀{Q:PK1},(∀r G',0<=r->r<(rows.length:Int)->Pn p G G'->Q (.int r) G')->T.S "_law_pick" [.ref p,.int (rows.length:Int)] G Q):=⟨λ{Q} q=>by rw[l.pick];exact⟨p,_,rfl,hp.o,by omega,smP ooq ooq,q⟩⟩;rw[List.length_map];refine pk.o λat_ G1 a0 a1 n1=>?_;obtain⟨kk,rfl⟩:∃kk:Nat,at_=(kk:Int):=⟨at_.toNat,by omega⟩;have lr:kk<=(rows.map shV).length:=by rw[List.length_map];omega
 have ab:(rows.map shV).drop kk++((rows.map shV).take kk).reverse=(rows.drop kk++(rows.take kk).reverse).map shV:=by
   rw[List.map_append,List.map_reverse,List.map_drop,List.map_take]
 refine⟨_,rfl,?_⟩;show eY _ _ _ _ _;have sl:∀{xs:List PV} {lo hi:Option Int} {G:Gh} {Q:PK1},Q (.tup (lP xs lo hi)) G->eY (.tup xs) lo hi G Q:=λq=>by
   first|exact q|exact .inl ⟨_,rfl,q⟩|exact .inr ⟨_,rfl,q⟩|exact⟨_,rfl,q⟩
 refine sl ⟨_,rfl,sl (.inr ⟨_,rfl,?_⟩)⟩;rw[MS lr,PR lr,BU,ab];refine⟨szN (by rw[List.length_drop,List.length_reverse,List.length_take,List.length_map];omega),?_⟩;refine K.o.make kl (K.o.turn kk) λms2 ln2 L2=>?_;have L2:=Hd.mk L2
 (try walk_at "rz")
 refine S.o (S.o (E1.o ?_));refine⟨_,rfl,?_⟩;rw[j9 ddq];refine K.o.cann k K.o.all ?_
 (try walk_at "rz")
 refine K.o.cann k K.o.us ?_
 (try walk_at "rz")
 refine K.o.mkn kl K.o.us λms3=>?_
 (try walk_at "rz")
 refine K.o.can k K.o.all ?_;refine QQ L.o (NY ⟨_,rfl,?_⟩);rw[j9 ddq];refine K.o.can k K.o.us ?_;refine QQ L.o (NY ⟨_,rfl,?_⟩);rw[j9 ddq];by_cases c5:(rows.length:Int)=5
 . rw[ja c5];exact Wk.here (hq.o G1 n1)
 rw[j9 c5];subst eD;refine aAj k n1.pu λr G2 ir dr n2=>?_;rw[k.shade];refine⟨r,rfl,ir,szN (by rw[List.length_map];omega),?_⟩;rw[show rows.map shV++[shV r]=(rows++[r]).map shV by rw[List.map_append];rfl];refine K.o.more kl (by rw[List.length_append,List.length_singleton];omega) (λx hx=>List.mem_append_left _ hx) (λx hx=>?_) λms4 o ln4 L4 bo fo eo=>?_
 . rcases List.mem_append.mp hx with z|z
   . exact hr.o x z
   . rw[List.mem_singleton.mp z];exact⟨ir,dr.1.up 2,dr.2.1.up 2,dr.2.2.up 2⟩
 have bw:PP w:=aFH s1 s2 iw dw;have bn:PP n:=⟨K.o.M.bd.1.mono ddq,K.o.M.bd.2.1.mono ddq,K.o.M.bd.2.2.mono ddq⟩;have F:Hd (∀{o:R3} {G:Gh} {Q:PK1},PP o->Q (FQ (mM w.1 w.2.1 w.2.2 o.1 o.2.1 o.2.2 e.1 e.2.1 e.2.2)) G->T.S "_law_far" [aG w,aG o,eyZ e] G Q):=⟨λb q=>by
   rw[k.farL];exact⟨_,_,_,_,_,_,_,_,_,rfl,he,bw.1,bw.2.1,bw.2.2,b.1,b.2.1,b.2.2,q⟩⟩
 have S2:Hd (∀{G:Gh} {Q:PK1},Q (aG o) G->T.S "_law_shares_of" [shV o] G Q):=⟨λq=>by rw[k.sharesL];exact⟨_,_,_,rfl,q⟩⟩;refine⟨_,rfl,S2.o (S.o (F.o bn (F.o bo ?_)))⟩;rw[l.below];refine⟨_,_,rfl,(TK he bw.1 bw.2.1 bw.2.2 bn.1 bn.2.1 bn.2.2).mono ddq,(TK he bw.1 bw.2.1 bw.2.2 bo.1 bo.2.1 bo.2.2).mono ddq,?_⟩;rw[decide_eq_false (Rat.not_lt.mpr fo)];show pIs true ln .non G2 (λx G1=>pG x G1 λc G2=>if c=true then Wk Q x G2 else gR (.tup [.tup (List.map FQ ms4),shV o,ln4]) (.int 2) G2 λx G1=>pIs false x .non G1 (Wk Q));refine aBH L.o ?_;by_cases c:n=w
 . rw[decide_eq_true c];show gR (.tup [.tup (List.map FQ ms4),shV o,ln4]) (.int 2) G2 (λx G1=>pIs false x .non G1 (Wk Q));refine⟨_,rfl,QQ L4 ?_⟩;rw[decide_eq_true (eo c)];exact Wk.of (hq.o G2 (n1.trans n2)) λ_ _ z=>z
 . rw[decide_eq_false c];show Wk Q (.bl true) G2;exact Wk.of (hq.o G2 (n1.trans n2)) λ_ _ z=>z
end
local macro_rules | `(tactic| walk_at "rd") => wk (wqB++" wR rV aX AM BT AR HK")
section
variable{T:Tb}
def XT{lo:Int}{n:Nat}{x:PV}(h:x∈iW lo n):∃k:Nat,x= .int (lo+(k:Int))/\k<n:=by
 unfold iW at h;obtain⟨k,hk,rfl⟩:=List.mem_map.mp h;exact⟨k,rfl,List.mem_range.mp hk⟩
noncomputable def GI:CS:=.seq (.asg (.gn 2) (.cal "_law_purse" %[.cal "_law_cell" %[.var 0,.var 1|_]|_])) (.seq (.asg (.gn 3) (.bin .Add (.int 2) (.cal "_law_pick" %[.var 2,.idx (.lst false %[.int 4,.int 2|_]) (.blt .int %[.cmp .Gt (.var 1) (.int 0)|_])|_]))) (.seq (.asg (.gn 4) (.cal "_law_eye" %[.var 2|_])) (.seq (.asg (.gn 5) (.cal "_law_lights" %[.var 2,.var 3|_])) (.iff (.no (.tst (.cal "_law_right" %[.var 2,.var 5,.cal "_law_wish" %[.var 2,.var 5|_],.var 4|_]))) (.ret (.bl false)) .nil))))
def AQ:CS:=.seq (.fr (.gn 1) (.irg %[.blt .max %[.int 2,.blt .min %[.int 3,.blt .len %[.var 0|_]|_]|_]|_]) GI) (.ret (.bl true))
def I48(ns:List Int)(Y:PSt):Prop:= ∃a b c d e,Y=[some (.scr ns),a,b,c,d,e]
def aD9(l:LT T)(k:L48 T)(h1:0<=i)(h2:i<64)(hR:∀Y G',I48 ns Y->D.nx Y G') :
   wpS T GI D [some (.scr ns),some (.int i),b,c,d,e] G:=by
 have pk:Hd (∀{p:Addr} {m:Int} {G1:Gh} {Q:PK1},Pu p G1->0<m->m<=5->(∀r G',0<=r->r<m->Pn p G1 G'->Q (.int r) G')->T.S "_law_pick" [.ref p,.int m] G1 Q):=⟨λ{p m G1 Q} h m0 m5 q=>by rw[l.pick];exact⟨p,m,rfl,h,m0,smP ooq ooq,q⟩⟩;have pu:Hd (∀{c:Int} {G1:Gh} {Q:PK1},(∀p G',Pu p G'->Q (.ref p) G')->T.S "_law_purse" [.int c] G1 Q):=⟨λ{c G1 Q} q=>by rw[l.purse];exact⟨c,rfl,λp x y z _=>q p _ ⟨x,y,z,aO⟩⟩⟩;have ce:Hd (∀{G1:Gh} {Q:PK1},(∀c,Q (.int c) G1)->T.S "_law_cell" [.scr ns,.int i] G1 Q):=⟨λ{G1 Q} q=>by rw[l.cell];exact⟨ns,i,rfl,h1,h2,q⟩⟩;have ey:Hd (∀{p:Addr} {G1:Gh} {Q:PK1},Pu p G1->(∀(e:Z3) G',EyZ e->Pn p G1 G'->Q (eyZ e) G')->T.S "_law_eye" [.ref p] G1 Q):=⟨λ{p G1 Q} h q=>by rw[k.eyeL];exact⟨p,rfl,h,λi j m G' e n=>q (i,j,m) G' e n⟩⟩;have li:Hd (∀{p:Addr} {n:Nat} {G1:Gh} {Q:PK1},Pu p G1->1<=n->n<=5->(∀(rows:List R3) G',rows.length=n->(∀r∈rows,I1 r/\Dn3 120 r)->Pn p G1 G'->Q (.lst (rows.map aG)) G')->T.S "_law_lights" [.ref p,.int (n:Int)] G1 Q):=⟨λ{p n G1 Q} h a b q=>by rw[k.lights];exact⟨p,n,rfl,h,a,b,q⟩⟩;have wi:Hd (∀{p:Addr} {rows:List R3} {G1:Gh} {Q:PK1},Pu p G1->1<=rows.length->rows.length<=5->(∀r∈rows,I1 r/\Dn3 120 r)->(∀r s G',I1 r->0<s->s<=61->Dn3 (120*s) r->Pn p G1 G'->Q (aG r) G')->T.S "_law_wish" [.ref p,.lst (rows.map aG)] G1 Q):=⟨λ{p rows G1 Q} h a b c q=>by rw[k.wish];exact⟨p,rows,rfl,h,a,b,c,q⟩⟩;have ri:Hd (∀{p:Addr} {rows:List R3} {w:R3} {e:Z3} {s:Int} {G1:Gh} {Q:PK1},Pu p G1->2<=rows.length->rows.length<=5->(∀r∈rows,I1 r/\Dn3 120 r)->I1 w->0<s->s<=61->Dn3 (120*s) w->EyZ e->(∀G',Pn p G1 G'->Q (.bl true) G')->T.S "_law_right" [.ref p,.lst (rows.map aG),aG w,eyZ e] G1 Q):=⟨λ{p rows w e s G1 Q} h a b c d f g i j q=>by rw[k.right];exact⟨p,rows,w,e,s,rfl,h,a,b,c,d,f,g,i,j,q⟩⟩;have hR:=Hd.mk hR;unfold GI;walk_at "rd"
 refine ce.o λc0=>?_
 (try walk_at "rd")
 refine pu.o λp G1 hp=>?_
 (try walk_at "rd")
 have:∃v:Int,atI [PV.int 4,.int 2] (if 0<i then 1 else 0)=some (.int v)/\0<v/\v<=4:=by
   split
   . exact⟨2,at1,by decide,by decide⟩
   . exact⟨4,at0,by decide,by decide⟩
 obtain⟨v,ev,v0,v5⟩:=this;refine⟨_,ev,pk.o hp v0 ooq λr G2 r0 r1 n1=>?_⟩;have en:(2+r)=((2+r).toNat:Int):=by omega
 have n1':2<=(2+r).toNat:=by omega
 have n5:(2+r).toNat<=5:=by omega
 rw[eX,en];generalize (2+r).toNat=n at *;refine ey.o n1.pu λe G3 he n2=>?_;refine li.o n2.pu ooq n5 λrows G4 ln hr n3=>?_;refine wi.o n3.pu ooq ooq hr λw s G5 iw s1 s2 dw n4=>?_;refine ri.o n4.pu ooq ooq hr iw s1 s2 dw he λG6 n6=>?_;exact hR.o _ _ ⟨_,_,_,_,_,rfl⟩
def aEZ(l:LT T)(k:L48 T):∀xs G Q,xW xs G Q->wpS T AQ (aN Q) (aC 6 xs) G:=by
 rintro xs G Q ⟨ns,rfl,hl,hq⟩;have:=@wU;unfold AQ;generalize eB:GI=B;walk_at "rd"
 refine⟨by omega,by omega,?_⟩;refine sR (λY _=>I48 ns Y) ⟨_,_,_,_,_,rfl⟩ ?_ ?_
 . rintro x hx Y G' R ⟨x1,x2,x3,x4,x5,rfl⟩ hR;obtain⟨j,rfl,hj⟩:=XT hx;subst eB;exact aD9 l k ooq ooq hR
 . rintro Y G' ⟨x1,x2,x3,x4,x5,rfl⟩;have:=hq G';walk_at "rd"
end
end L3
namespace My
open PySem L2 L3 PyProof.Rows
noncomputable abbrev gL:List Str:=["EVEN_EYE","MOST_AT_ONCE","MOST_LIGHTS","MOST_OF_EYE","Shade"]
noncomputable abbrev tL:List Str:=["bool","int","tuple"]
noncomputable abbrev bL:List Str:=["abs","all","enumerate","int","isinstance","len","max","min","range","sum","tuple","zip"]
abbrev mkC(s:Stmt)(N fns:List Str):Cfg:={N:=N,names:=(bZ s).names,fns:=fns,gls:=gL,tys:=tL,blt:=bL}
abbrev NZ:Cfg:=mkC nV ["_law_script","_law_k","_law_state","_law_cell_here"] []
abbrev SG:Cfg:=mkC mE ["_law_purse_here","_law_many","_law_state","_law_taken"] []
abbrev UQ:Cfg:=mkC rW ["_law_purse_here","_law_way"] ["_law_pick"]
abbrev YQ:Cfg:=mkC rX ["_law_top","_law_bottom","_law_one","_law_other"] []
abbrev rK:Cfg:=mkC cV ["_law_purse_here"] ["_law_low","_law_pick"]
abbrev UD:Cfg:=mkC mQ ["_law_a","_law_b"] ["_law_low"]
abbrev IM:Cfg:=mkC kJ ["_law_a","_law_b"] ["_law_low"]
abbrev EH:Cfg:={mkC iM ["_law_purse_here","_law_many","_law_way","_law_rows"] ["_law_pick","_law_plain_share","_law_plus","_law_times"] with M:=["_law_rows"]}
abbrev IQ:Cfg:={mkC jY ["_law_cell_here"] [] with rm:=true}
abbrev IO:Cfg:=mkC kB ["_law_a","_law_b"] []
abbrev KM:Cfg:=mkC kZ ["_law_a","_law_b"] ["_law_low"]
abbrev VY:Cfg:=mkC rY ["_law_one","_law_other","_law_gaze","_law_found","_law_light","_law_apart"] ["_law_minus","_law_plus","_law_times"]
abbrev PY:Cfg:=mkC nR ["one","other"] []
abbrev DI:Cfg:=mkC iI ["thing"] []
abbrev vQ:Cfg:=mkC dS ["thing","top","bottom"] ["common","is_whole"]
abbrev EK:Cfg:=mkC iB ["thing"] ["is_fraction"]
abbrev oP:Cfg:=mkC cN ["self","ember","leaf","sky","light","share"] ["is_share"]
abbrev ME:Cfg:={mkC kR ["_law_row"] [] with mks:=["Shade"]}
abbrev vP:Cfg:=mkC dW ["_law_told"] []
abbrev TL:Cfg:=mkC nW ["thing"] ["is_whole"]
abbrev NG:Cfg:=mkC nJ ["eye"] ["is_eye"]
abbrev aAA:Cfg:=mkC zH ["start","end","times"] []
abbrev QC:Cfg:=mkC mF ["top","bottom","shared"] ["common"]
abbrev MB:Cfg:=mkC kC ["one","other","eye"] []
abbrev IT:Cfg:=mkC jW ["weights","spots","bottom","shared","number"] ["common","lowest","product"]
abbrev LH:Cfg:=mkC kA ["tops","spots"] []
abbrev yG:Cfg:=mkC fJ ["tops","spots","goal","eye","near","part","more"] ["gone","made_by","product"]
abbrev LY:Cfg:=mkC kU ["many","told","grown","size"] []
abbrev RQ:Cfg:={mkC nE ["places","tops","many","row","place","top"] [] with M:=["row"]}
abbrev gQ:Cfg:={mkC eJ ["rows","total","sign","place","number"] ["determinant"] with M:=["enumerate"]}
abbrev wH:Cfg:={mkC dU ["spots","goal","eye","edges","table","bottom","way","wanted","tops"] ["determinant","product"] with shs:=[("gone",2,[],[.arg 0,.arg 1,.int 1])]}
abbrev tF:Cfg:=mkC dD ["spots","goal","eye","places","few","tops"] ["is_nearest","sets_of","spread","tops_toward"]
abbrev FD:Cfg:=mkC iG ["thing"] []
abbrev vU:Cfg:=mkC dX ["thing","place","one"] ["is_shade"]
abbrev xT:Cfg:=mkC fH ["thing"] ["is_shade"]
abbrev DQ:Cfg:={mkC iE ["shares","ember","leaf","sky"] [] with mks:=["Shade"],ls:=["shares"]}
abbrev rH:Cfg:=mkC cW ["rows","bottom","row","share"] ["common"]
abbrev BN:Cfg:=mkC gH ["shade"] ["need_shade"]
abbrev AV:Cfg:=mkC gI ["shares","bottom"] []
abbrev aCt:Cfg:=mkC yB ["lights","shade","eye","rows","bottom","spots","goal","tops","near","part","weights","line","shares"] ["eye_of","gone","line_by","lowest","made_by","nearest_tops","need_lights","need_shade","shade_of","shared_bottom","shares_of","spot_over"]
abbrev EZ:Cfg:={mkC iO ["lights","shade"] [] with shs:=[("make",2,[],[.arg 0,.arg 1,.non])]}
abbrev KC:Cfg:=mkC kK ["_law_purse_here","_law_rows","_law_wish_here","_law_gaze","_law_bulbs","_law_tint","_law_parts_here","_law_near","_law_line","_law_used","_law_at","_law_about","_law_more","_law_best","_law_least"] ["_law_below","_law_far","_law_pick","_law_plain_share","_law_shade","_law_shares_of","can_make","make"]
abbrev SB:Cfg:={mkC nH ["_law_rows","_law_parts_here","_law_found","_law_light","_law_share","_law_k"] ["_law_plus","_law_times"] with M:=["_law_found"]}
abbrev II:Cfg:={mkC jX ["_law_purse_here","_law_many","_law_wide","_law_numbers"] ["_law_low","_law_pick"] with M:=["_law_numbers"]}
abbrev PF:Cfg:=mkC nK ["_law_purse_here","_law_rows","_law_way","_law_made_here","_law_free","_law_corner"] ["_law_made","_law_parts","_law_pick","_law_plain_share"]
abbrev aD7:Cfg:=mkC CC ["_law_script","_law_k","_law_purse_here","_law_many","_law_gaze","_law_rows"] ["_law_cell","_law_eye","_law_lights","_law_pick","_law_purse","_law_right","_law_wish"]
abbrev fX(a b:Str)(s:Stmt)(d m c:Value):J8:=W.fnOf a b (gK s) (dC s) (bZ s) d .none .none m none c .none
noncomputable abbrev oD(l:List DictEntry):Obj:=⟨.type "dict",none,.dict l.toArray 0,#[]⟩
noncomputable def aK:List Addr:=[3,23,24,43,44,62,63,81,82,90,91,97,98,104,105,111,112,132,133,146,147,173,174,184,185,191,192,198,199,205,206,207,211,212,218,219,225,226,232,233,237,238,239,243,244,248,249,253,254,258,259,263,264,270,271,275,276,280,281,285,286,290,291,292,296,297,303,304,310,311,317,318,324,325,331,332,338,339,345,346,352,353,359,360,366,367,371,372,378,379,383,384,388,389,395,396,400,401,407,408,414,415,419,420,426,427]
def K0:Params->W.Frag:=λP=>aK.map (λi=>(i,(gh4 P).getD i (oT [])))
def qv:J7:={PySem.Challenge.pw_lightshares_k48_whole_few_lights_are_eno with main:={PySem.Challenge.pw_lightshares_k48_whole_few_lights_are_eno.main with body:=[top 63]}}
noncomputable def lo:List Str:=(["ShadeError","NoShade","NoEye","NoLights","PIECE_FIGURES","PIECE","is_whole","common","is_fraction","lowest","figures","written","is_share","Shade","is_shade","need_shade","shares_of","shade_of","EVEN_EYE","MOST_OF_EYE","is_eye","eye_of","MOST_LIGHTS","MOST_AT_ONCE","need_lights","shared_bottom","spot_over","gone","product","determinant","tops_toward","sets_of","spread","made_by","is_nearest","nearest_tops","line_by","make","can_make","_law_cell","_law_purse","_law_pick","_law_low","_law_plus","_law_minus","_law_times","_law_below","_law_plain_share","_law_eye","_law_far","_law_lights","_law_parts","_law_made","_law_wish","_law_shade","_law_shares_of","_law_right"]:List J6).map Str.ofString
noncomputable def nmS:List Str:=(["is_whole","common","is_fraction","lowest","need_fractions","plus","minus","times","over","below","nearest_whole","is_share","Shade","Shade.__init__","is_shade","need_shade","shares_of","shade_of","is_grade","need_grade","is_step","need_step","printed","span_of","_law_cell","_law_purse","_law_pick","_law_whole","_law_low","_law_plus","_law_minus","_law_times","_law_over","_law_below","_law_is_fraction","_law_share","_law_shares","is_eye","eye_of","gap_between","far","need_lights","shared_bottom","spot_over","gone","product","determinant","tops_toward","sets_of","spread","made_by","is_nearest","nearest_tops","line_by","make","_law_plain_share","_law_eye","_law_lights","_law_parts","_law_made","_law_wish","_law_far","_law_shade","_law_shares_of","can_make","_law_right","law"]:List J6).map Str.ofString
noncomputable def pkS(y:PX):Nat->Sp3
 | 0=>fK
 | 1=>nY
 | 2=>mH
 | 3=>cI
 | 4=>HP
 | 5=>jD
 | 6=>kF
 | 7=>fL
 | 8=>yI
 | 9=>oH
 | 10=>CP
 | 11=>kN
 | 12=>mV
 | 13=>uD
 | 14=>fO
 | 15=>nU
 | 16=>bV
 | 17=>oQ
 | 18=>DR
 | 19=>uR
 | 20=>sF
 | 21=>lZ
 | 22=>wV
 | 23=>OJ
 | 24=>CQ
 | 25=>yD
 | 26=>iC
 | 27=>fK
 | 28=>cI
 | 29=>jD
 | 30=>kF
 | 31=>fL
 | 32=>yI
 | 33=>oH
 | 34=>wJ
 | 35=>tM
 | 36=>wO
 | 37=>rQ
 | 38=>xJ
 | 39=>aAh
 | 40=>ZJ
 | 41=>uJ
 | 42=>uO
 | 43=>CY
 | 44=>FX
 | 45=>EW
 | 46=>nB 3
 | 47=>tD
 | 48=>CZ
 | 49=>uI
 | 50=>sP
 | 51=>uZ
 | 52=>DV
 | 53=>FC
 | 54=>CM
 | 55=>zG
 | 56=>DT
 | 57=>tV
 | 58=>xZ
 | 59=>zK
 | 60=>DM
 | 61=>EI
 | 62=>sO
 | 63=>bV
 | 64=>TX
 | 65=>xX
 | 66=>xW
 | _=>λ_ _ _=>False
noncomputable def nmG:List Str:=(["ONE","ZERO","MOST_GRADE","Shade","int","bool","tuple","EVEN_EYE","MOST_OF_EYE","MOST_LIGHTS","MOST_AT_ONCE","list"]:List J6).map Str.ofString
def pkG:Nat->PV
 | 0=>FQ 1
 | 1=>FQ 0
 | 2=>.int 1000
 | 3=>.cl "Shade"
 | 4=>.ty "int"
 | 5=>.ty "bool"
 | 6=>.ty "tuple"
 | 7=>.tup [.int 1,.int 1,.int 1]
 | 8=>.int 99
 | 9=>.int 5
 | 10=>.int 4
 | 11=>.ty "list"
 | _=>.non
noncomputable abbrev tcs:List J6:=["Shade"]
noncomputable abbrev tfl:List (J6×Str):=[("Shade","ember"),("Shade","leaf"),("Shade","sky")]
def T(y:PX):Tb:={S:=λf=>pkS y (nmS.idxOf f),gv:=λf=>pkG (nmG.idxOf f),cs:=tcs,fl:=tfl,fam:=λx f=>pkS x (nmS.idxOf f),xp:=y,xi:=[],fx:=[]}
def vY:(T y).S "determinant"=nB 3:=by kernel_rfl
def hPT:PT (T y):=by constructor<;>first|kernel_rfl|exact List.contains_iff_mem.mp (by kernel_rfl)
def hLT:LT (T y):=by constructor<;>first|kernel_rfl|exact List.contains_iff_mem.mp (by kernel_rfl)
def hPL:PL (T y):=by constructor<;>first|kernel_rfl|exact List.contains_iff_mem.mp (by kernel_rfl)
def XO:L48 (T y):=by constructor<;>first|kernel_rfl|exact List.contains_iff_mem.mp (by kernel_rfl)
noncomputable def TM(a:Nat->Addr)(c:J6):Addr:=if c="Shade" then a 46 else 0
def bT:TM a "Shade"=a 46:=by unfold TM;simp
structure Tx(K:W.Frag)(mg:Str->Option Value)(a:Nat->Addr)(d:Nat->J8)(v:Nat->Value):Prop where
 qa:aW K "_law_cell" "_law_cell" nV (.none) (a 0) (d 0)
 qb:mg "_law_cell"=some (.ref (a 0))
 qc:aW K "_law_pick" "_law_pick" mE (.none) (a 1) (d 1)
 qd:mg "_law_pick"=some (.ref (a 1))
 qe:aW K "_law_eye" "_law_eye" rW (.none) (a 2) (d 2)
 qf:mg "_law_eye"=some (.ref (a 2))
 qg:aW K "_law_low" "_law_low" rX (.none) (a 3) (d 3)
 qh:mg "_law_low"=some (.ref (a 3))
 qi:aW K "_law_plain_share" "_law_plain_share" cV (.none) (a 4) (d 4)
 qj:mg "_law_plain_share"=some (.ref (a 4))
 qk:aW K "_law_plus" "_law_plus" mQ (.none) (a 5) (d 5)
 ql:mg "_law_plus"=some (.ref (a 5))
 qm:aW K "_law_times" "_law_times" kJ (.none) (a 6) (d 6)
 qo:mg "_law_times"=some (.ref (a 6))
 qp:aW K "_law_lights" "_law_lights" iM (.none) (a 7) (d 7)
 qq:mg "_law_lights"=some (.ref (a 7))
 qr:aW K "_law_purse" "_law_purse" jY (.none) (a 8) (d 8)
 qt:mg "_law_purse"=some (.ref (a 8))
 qu:aW K "_law_below" "_law_below" kB (.none) (a 9) (d 9)
 qw:mg "_law_below"=some (.ref (a 9))
 qx:aW K "_law_minus" "_law_minus" kZ (.none) (a 10) (d 10)
 qy:mg "_law_minus"=some (.ref (a 10))
 qz:aW K "_law_far" "_law_far" rY (.none) (a 11) (d 11)
 qA:mg "_law_far"=some (.ref (a 11))
 qB:aW K "common" "common" nR (.none) (a 12) (d 12)
 qC:mg "common"=some (.ref (a 12))
 qD:aW K "is_whole" "is_whole" iI (.none) (a 13) (d 13)
 qE:mg "is_whole"=some (.ref (a 13))
 qF:aW K "is_fraction" "is_fraction" dS (.none) (a 14) (d 14)
 qG:mg "is_fraction"=some (.ref (a 14))
 qH:aW K "is_share" "is_share" iB (.none) (a 15) (d 15)
 qI:mg "is_share"=some (.ref (a 15))
 qJ:aW K "__init__" "Shade.__init__" cN (.none) (a 16) (d 16)
 qK:aW K "_law_shade" "_law_shade" kR (.none) (a 17) (d 17)
 qL:mg "_law_shade"=some (.ref (a 17))
 qM:aW K "_law_shares_of" "_law_shares_of" dW (.none) (a 18) (d 18)
 qN:mg "_law_shares_of"=some (.ref (a 18))
 qO:aW K "is_eye" "is_eye" nW (.none) (a 19) (d 19)
 qP:mg "is_eye"=some (.ref (a 19))
 qQ:aW K "eye_of" "eye_of" nJ (.none) (a 20) (d 20)
 qR:mg "eye_of"=some (.ref (a 20))
 qS:aW K "gone" "gone" zH (v 21) (a 21) (d 21)
 D_gone:∃(b:Addr) (oc:Value) (od:Option Addr) (n:Nat) (sl:Array (Option Value)) (t0:Tok),v 21= .ref b/\K.lookup b=some ⟨oc,od,.seq #[.int 1 t0] n,sl⟩
 qT:mg "gone"=some (.ref (a 21))
 qU:aW K "lowest" "lowest" mF (.none) (a 22) (d 22)
 qV:mg "lowest"=some (.ref (a 22))
 qW:aW K "product" "product" kC (.none) (a 23) (d 23)
 qX:mg "product"=some (.ref (a 23))
 qY:aW K "line_by" "line_by" jW (.none) (a 24) (d 24)
 qZ:mg "line_by"=some (.ref (a 24))
 qz1:aW K "made_by" "made_by" kA (.none) (a 25) (d 25)
 qz2:mg "made_by"=some (.ref (a 25))
 qz3:aW K "is_nearest" "is_nearest" fJ (.none) (a 26) (d 26)
 qz4:mg "is_nearest"=some (.ref (a 26))
 qz5:aW K "sets_of" "sets_of" kU (.none) (a 27) (d 27)
 qz6:mg "sets_of"=some (.ref (a 27))
 qz7:aW K "spread" "spread" nE (.none) (a 28) (d 28)
 qz8:mg "spread"=some (.ref (a 28))
 qz9:aW K "determinant" "determinant" eJ (.none) (a 29) (d 29)
 qz10:mg "determinant"=some (.ref (a 29))
 qz11:aW K "tops_toward" "tops_toward" dU (.none) (a 30) (d 30)
 qz12:mg "tops_toward"=some (.ref (a 30))
 qz13:aW K "nearest_tops" "nearest_tops" dD (.none) (a 31) (d 31)
 qz14:mg "nearest_tops"=some (.ref (a 31))
 qz15:aW K "is_shade" "is_shade" iG (.none) (a 32) (d 32)
 qz16:mg "is_shade"=some (.ref (a 32))
 qz17:aW K "need_lights" "need_lights" dX (.none) (a 33) (d 33)
 qz18:mg "need_lights"=some (.ref (a 33))
 qz19:aW K "need_shade" "need_shade" fH (.none) (a 34) (d 34)
 qz20:mg "need_shade"=some (.ref (a 34))
 qz21:aW K "shade_of" "shade_of" iE (.none) (a 35) (d 35)
 qz22:mg "shade_of"=some (.ref (a 35))
 qz23:aW K "shared_bottom" "shared_bottom" cW (.none) (a 36) (d 36)
 qz24:mg "shared_bottom"=some (.ref (a 36))
 qz25:aW K "shares_of" "shares_of" gH (.none) (a 37) (d 37)
 qz26:mg "shares_of"=some (.ref (a 37))
 qz27:aW K "spot_over" "spot_over" gI (.none) (a 38) (d 38)
 qz28:mg "spot_over"=some (.ref (a 38))
 qz29:aW K "make" "make" yB (v 39) (a 39) (d 39)
 D_make:∃(b:Addr) (oc:Value) (od:Option Addr) (n:Nat) (sl:Array (Option Value)) ,v 39= .ref b/\K.lookup b=some ⟨oc,od,.seq #[.none] n,sl⟩
 qz30:mg "make"=some (.ref (a 39))
 qz31:aW K "can_make" "can_make" iO (.none) (a 40) (d 40)
 qz32:mg "can_make"=some (.ref (a 40))
 qz33:aW K "_law_right" "_law_right" kK (.none) (a 41) (d 41)
 qz34:mg "_law_right"=some (.ref (a 41))
 qz35:aW K "_law_made" "_law_made" nH (.none) (a 42) (d 42)
 qz36:mg "_law_made"=some (.ref (a 42))
 qz37:aW K "_law_parts" "_law_parts" jX (.none) (a 43) (d 43)
 qz38:mg "_law_parts"=some (.ref (a 43))
 qz39:aW K "_law_wish" "_law_wish" nK (.none) (a 44) (d 44)
 qz40:mg "_law_wish"=some (.ref (a 44))
 qz41:aW K "law" "law" CC (.none) (a 45) (d 45)
 m_law:mg "law"=some (.ref (a 45))
 qz42:VC K (a 46)
 qz43:mg "Shade"=some (.ref (a 46))
 qz44:Mk K (a 46) (a 16)
 qz45:∀n∈OI,W.kitOne K (.type n) (.ref (a 46))=some false
 qz46:∀n∈pB,W.kitOne K (.ref (a 46)) (.type n)=some false
 qz47:cY K (a 46) "ember"
 qz48:cY K (a 46) "leaf"
 qz49:cY K (a 46) "sky"
 c_EVEN_EYE:∃a t0 t1 t2 n sl,mg "EVEN_EYE"=some (.ref a)/\K.lookup a=some ⟨.type "tuple",none,.seq #[.int 1 t0,.int 1 t1,.int 1 t2] n,sl⟩
 c_MOST_AT_ONCE:∃t,mg "MOST_AT_ONCE"=some (.int 4 t)
 c_MOST_LIGHTS:∃t,mg "MOST_LIGHTS"=some (.int 5 t)
 c_MOST_OF_EYE:∃t,mg "MOST_OF_EYE"=some (.int 99 t)
 nb:∀x∈bL,mg x=none
 nt:∀x∈tL,mg x=none
variable{P:J7}{w:World}{K:W.Frag}{mg:Str->Option Value}{base:Heap}{a:Nat->Addr}{d:Nat->J8}{v:Nat->Value}{f0 z0:Hp}{y:PX}
def lnS{l:List Value}(h:l.length=n+1):∃a t,l=a::t/\t.length=n:=by
 cases l with
 | nil=>cases h
 | cons a t=>exact⟨a,t,rfl,Nat.succ.inj h⟩
def ln0{l:List Value}(h:l.length=0):l=[]:=List.eq_nil_of_length_eq_zero h
def ln1{l:List Value}(h:l.length=1):∃a,l=[a]:=by
 obtain⟨a,t,rfl,h2⟩:=lnS h;exact⟨a,by rw[ln0 h2]⟩
def ln2{l:List Value}(h:l.length=2):∃a b,l=[a,b]:=by
 obtain⟨a,t,rfl,h2⟩:=lnS h;obtain⟨b,rfl⟩:=ln1 h2;exact⟨a,b,rfl⟩
def ln3{l:List Value}(h:l.length=3):∃a b c,l=[a,b,c]:=by
 obtain⟨a,t,rfl,h2⟩:=lnS h;obtain⟨b,c,rfl⟩:=ln2 h2;exact⟨a,b,c,rfl⟩
def ln4{l:List Value}(h:l.length=4):∃a b c d,l=[a,b,c,d]:=by
 obtain⟨a,t,rfl,h2⟩:=lnS h;obtain⟨b,c,d,rfl⟩:=ln3 h2;exact⟨a,b,c,d,rfl⟩
abbrev Ew(K:W.Frag)(a:Nat->Addr)(f0 z0:Hp):Ev:={K:=K,cls:=TM a,f0:=f0,z0:=z0}
local macro_rules | `(tactic| walk_at "b2") => `(tactic| (intro _ _ _ _ _ _ _ us _ hl;obtain⟨_,_,z⟩ := ln2 hl;subst z;exact .of_eq rfl))
local macro_rules | `(tactic| walk_at "b1") => `(tactic| (intro _ _ _ _ _ _ _ us _ hl;obtain⟨_,z⟩ := ln1 hl;subst z;exact .of_eq rfl))
local macro_rules | `(tactic| walk_at "b3") => `(tactic| (intro _ _ _ _ _ _ _ us _ hl;obtain⟨_,_,_,z⟩ := ln3 hl;subst z;exact .of_eq rfl))
local macro_rules | `(tactic| walk_at "b4") => `(tactic| (intro _ _ _ _ _ _ _ us _ hl;obtain⟨_,_,_,_,z⟩ := ln4 hl;subst z;exact .of_eq rfl))
def hW(X:Tx K mg a d v):L2.bG K (d 16) ["self","ember","leaf","sky"] []:=X.qJ.binds (by walk_at "b4")
def aAP(X:Tx K mg a d v):L2.bG K (d 21) ["start","end","times"] []:=by
 obtain⟨b,oc,od,n,sl,t0,e,hb⟩:=X.D_gone;exact X.qS.binds λ_ _ _ _ _ _ _ us hK hl=>by obtain⟨_,_,_,rfl⟩:=ln3 hl;exact W.binds_K hK e hb rfl rfl rfl
def lN(X:Tx K mg a d v):L2.bG K (d 29) ["rows"] []:=X.qz9.binds (by walk_at "b1")
def aB9(X:Tx K mg a d v):L2.bG K (d 39) ["lights","shade","eye"] []:=by
 obtain⟨b,oc,od,n,sl,e,hb⟩:=X.D_make;exact X.qz29.binds λ_ _ _ _ _ _ _ us hK hl=>by obtain⟨_,_,_,rfl⟩:=ln3 hl;exact W.binds_K hK e hb rfl rfl rfl
local macro_rules | `(tactic| walk_at "bb") => `(tactic| first|walk_at "b2"|walk_at "b1"|walk_at "b3"|walk_at "b4")
def ET(X:Tx K mg a d v):fP K (d 21) ["start","end","times"] 2 [] [.arg 0,.arg 1,.int 1]:=by
 obtain⟨b,oc,od,n,sl,t0,e,hb⟩:=X.D_gone;refine X.qS.sh rfl λ_ _ _ _ _ _ _ us ws hK hl hl2=>?_;obtain⟨u0,u1,rfl⟩:=ln2 hl;obtain rfl:=ln0 hl2;refine⟨[u0,u1,(.int 1 t0)],W.binds_K hK e hb rfl rfl rfl,λvs zs r rz=>?_⟩;obtain _|⟨r_u0,r⟩:=r;obtain _|⟨r_u1,r⟩:=r;cases r;cases rz;exact(.cons r_u0 (.cons r_u1 (.cons ⟨t0,rfl⟩ .nil)))
def EF(X:Tx K mg a d v):fP K (d 39) ["lights","shade","eye"] 2 [] [.arg 0,.arg 1,.non]:=by
 obtain⟨b,oc,od,n,sl,e,hb⟩:=X.D_make;exact X.qz29.sh2 λ_ _ _ _ _ _ _ us ws hK hl hl2=>by obtain⟨_,_,rfl⟩:=ln2 hl;obtain rfl:=ln0 hl2;exact W.binds_K hK e hb rfl rfl rfl
abbrev FO(P:J7)(w:World)(K:W.Frag)(mg:Str->Option Value)(base:Heap)(a:Nat->Addr)(d:Nat->J8)(n i:Nat)(f0 z0:Hp)(y:PX)(ps:List Str)(x:Str):Prop:=FM P w K mg base (Ew K a f0 z0) (T y) n (a i) (d i) ps x
def ck(X:Tx K mg a d v):Ck K (Ew K a f0 z0) (T y):=by
 refine⟨rfl,⟨?_,?_,?_,?_⟩,?_⟩
 . exact ac (by rw[show(Ew K a f0 z0).cls "Shade"=a 46 from bT];exact X.qz42) (an)
 . exact ac (by rw[show(Ew K a f0 z0).cls "Shade"=a 46 from bT];exact X.qz45) (an)
 . exact ac (by rw[show(Ew K a f0 z0).cls "Shade"=a 46 from bT];exact X.qz46) (an)
 . exact ac (ac (λh=>absurd rfl h) (an)) (an)
 . intro c f h;have key:∀p∈(T y).fl,Cls K ((Ew K a f0 z0).cls p.1)/\cY K ((Ew K a f0 z0).cls p.1) p.2:=ac (by dsimp only;rw[bT];exact⟨X.qz42.cl,X.qz47⟩) (ac (by dsimp only;rw[bT];exact⟨X.qz42.cl,X.qz48⟩) (ac (by dsimp only;rw[bT];exact⟨X.qz42.cl,X.qz49⟩) (an)));exact key (c,f) h
local macro_rules | `(tactic| walk_at "sl") => `(tactic| (intro xs G Q h;repeat (first|exact(congrArg List.length h.1).trans rfl|(obtain⟨_,h⟩ := h))))
def xo(X:Tx K mg a d v):Xo K mg (Ew K a f0 z0) (T y):=by
 exact Xo.no rfl rfl
def fkd{k:Nat}{C:Cfg}{x x0 qual:Str}{st:Stmt}{dV:Value}{f:Addr}{fd:J8}{ps:List Str}{sp:Sp3}{code:CS}(X:Tx K mg a d v)(F:aW K x0 qual st dV f fd)(bd:L2.bG K fd ps [])(hw:∀xs G Q,sp xs G Q->wpS (T y) code (aN Q) (aC C.N.length xs) G)(gf:Gf P w K mg base (Ew K a f0 z0) (T y) k C)(e:(T y).S x=sp:=by kernel_rfl)(D:TU st ps C:=by exact⟨⟨rfl,rfl,rfl,by decide +kernel,rfl,by decide +kernel,by decide +kernel⟩,rfl,rfl⟩)(hc:cSs 80 C (dC st)=some code:=by kernel_rfl)(hz:C.rz=false:=by rfl)(ht:C.tr=false:=by rfl)(hcm:C.cm=true->40<=k:=by exact λ_=>by decide)(hrp:C.rp=true->79<=k:=by exact λz=>by cases z)(len:∀xs G Q,sp xs G Q->xs.length=ps.length:=by walk_at "sl")(lq:C.lms=[]/\(C.lav≠[]->VO P w K mg base (Ew K a f0 z0) (T y) k):=by exact⟨rfl,λh=>absurd rfl h⟩):FM P w K mg base (Ew K a f0 z0) (T y) (k+2) f fd ps x :=
 ⟨by rw[e];exact SD F D (ck X) gf hc (xo X) (Tf.no ht) hz hcm hrp len hw lq,F.kp,bd⟩
def fk{k:Nat}{C:Cfg}{x x0 qual:Str}{st:Stmt}{dV:Value}{f:Addr}{fd:J8}{ps:List Str}{sp:Sp3}{code:CS}(X:Tx K mg a d v)(F:aW K x0 qual st dV f fd)(hw:∀xs G Q,sp xs G Q->wpS (T y) code (aN Q) (aC C.N.length xs) G)(gf:Gf P w K mg base (Ew K a f0 z0) (T y) k C)(e:(T y).S x=sp:=by kernel_rfl)(D:TU st ps C:=by exact⟨⟨rfl,rfl,rfl,by decide +kernel,rfl,by decide +kernel,by decide +kernel⟩,rfl,rfl⟩)(hc:cSs 80 C (dC st)=some code:=by kernel_rfl)(hz:C.rz=false:=by rfl)(ht:C.tr=false:=by rfl)(hcm:C.cm=true->40<=k:=by exact λ_=>by decide)(hrp:C.rp=true->79<=k:=by exact λz=>by cases z)(len:∀xs G Q,sp xs G Q->xs.length=ps.length:=by walk_at "sl")(lq:C.lms=[]/\(C.lav≠[]->VO P w K mg base (Ew K a f0 z0) (T y) k):=by exact⟨rfl,λh=>absurd rfl h⟩)
   (hb:∀(kV doc pm:Value) (an:Option Addr) (cdv ct:Value) (s:J5) (us:List Value),K.In s.heap->us.length=ps.length->BindsTo s (W.fnOf x0 qual (gK st) (dC st) (bZ st) dV kV doc pm an cdv ct) ⟨us,[]⟩ (ps.zip us):=by walk_at "bb"):FM P w K mg base (Ew K a f0 z0) (T y) (k+2) f fd ps x :=
 fkd X F (F.binds hb) hw gf e D hc hz ht hcm hrp len lq
def mG(X:Tx K mg a d v):∀x∈gL,∃u v,mg x=some u/\aM v u/\RP (Ew K a f0 z0) (λ_=>none) ((T y).gv x) v:=ac (by obtain⟨b,t0,t1,t2,n,sl,h,l⟩:=X.c_EVEN_EYE;exact nZ (WH rfl h l) (by first|kernel_rfl|exact(show _=FQ _ by kernel_rfl).trans DU.symm)) (ac (by obtain⟨t,h⟩:=X.c_MOST_AT_ONCE;exact nZ (FJ h) (by kernel_rfl)) (ac (by obtain⟨t,h⟩:=X.c_MOST_LIGHTS;exact nZ (FJ h) (by kernel_rfl)) (ac (by obtain⟨t,h⟩:=X.c_MOST_OF_EYE;exact nZ (FJ h) (by kernel_rfl)) (ac (nZ (aCg (c:="Shade") X.qz43 bT) (by kernel_rfl)) (an)))))
def mT(X:Tx K mg a d v):∀x∈tL,mg x=none/\(∃n,bootBuiltins x=some (.type n)/\(T y).gv x= .ty n)/\x≠"__name__":=λx h=>⟨X.nt x h,(ac (⟨⟨"bool",PyProof.Rows.boot_bool,by kernel_rfl⟩,by decide +kernel⟩) (ac (⟨⟨"int",PyProof.Rows.boot_int,by kernel_rfl⟩,by decide +kernel⟩) (ac (⟨⟨"tuple",PyProof.Rows.boot_tuple,by kernel_rfl⟩,by decide +kernel⟩) (an))):∀x∈tL,(∃n,bootBuiltins x=some (.type n)/\(T y).gv x= .ty n)/\x≠"__name__") x h⟩
local macro_rules | `(tactic| walk_at "gg") => `(tactic| first|exact an|exact λ_ _ => an|exact mG (by assumption)|exact mT (by assumption)|exact Tx.nb (by assumption))
def JP(X:Tx K mg a d v):FO P w K mg base a d 42 0 f0 z0 y ["_law_script","_law_k"] "_law_cell":=fk (C:=NZ) X X.qa (NW ) {  }
def dQ(X:Tx K mg a d v):FO P w K mg base a d 42 1 f0 z0 y ["_law_purse_here","_law_many"] "_law_pick":=fk (C:=SG) X X.qc (TC ) {  }
def QL(X:Tx K mg a d v):FO P w K mg base a d 44 2 f0 z0 y ["_law_purse_here"] "_law_eye":=fk (C:=UQ) X X.qe (YW hLT) {fns:=ac ((dQ X).g X.qd) (an)}
def jM(X:Tx K mg a d v):FO P w K mg base a d 42 3 f0 z0 y ["_law_top","_law_bottom"] "_law_low":=fk (C:=YQ) X X.qg (YM ) {  }
def dN(X:Tx K mg a d v):FO P w K mg base a d 44 4 f0 z0 y ["_law_purse_here"] "_law_plain_share":=fk (C:=rK) X X.qi (rJ hLT) {fns:=ac ((jM X).g X.qh) (ac ((dQ X).g X.qd) (an))}
def oZ(X:Tx K mg a d v):FO P w K mg base a d 44 5 f0 z0 y ["_law_a","_law_b"] "_law_plus":=fk (C:=UD) X X.qk (PQ hLT) {fns:=ac ((jM X).g X.qh) (an)}
def lW(X:Tx K mg a d v):FO P w K mg base a d 44 6 f0 z0 y ["_law_a","_law_b"] "_law_times":=fk (C:=IM) X X.qm (MF hLT) {fns:=ac ((jM X).g X.qh) (an)}
def AK(X:Tx K mg a d v):FO P w K mg base a d 46 7 f0 z0 y ["_law_purse_here","_law_many"] "_law_lights":=fk (C:=EH) X X.qp (GB hLT XO) {fns:=ac ((dQ X).g X.qd) (ac ((dN X).g X.qj) (ac ((oZ X).g X.ql) (ac ((lW X).g X.qo) (an))))}
def FH(X:Tx K mg a d v):FO P w K mg base a d 42 8 f0 z0 y ["_law_cell_here"] "_law_purse":=fk (C:=IQ) X X.qr (JR ) {  }
def EC(X:Tx K mg a d v):FO P w K mg base a d 42 9 f0 z0 y ["_law_a","_law_b"] "_law_below":=fk (C:=IO) X X.qu (LU ) {  }
def EL(X:Tx K mg a d v):FO P w K mg base a d 44 10 f0 z0 y ["_law_a","_law_b"] "_law_minus":=fk (C:=KM) X X.qx (IP hLT) {fns:=ac ((jM X).g X.qh) (an)}
def UB(X:Tx K mg a d v):FO P w K mg base a d 46 11 f0 z0 y ["_law_one","_law_other","_law_gaze"] "_law_far":=fk (C:=VY) X X.qz (WC hLT) {fns:=ac ((EL X).g X.qy) (ac ((oZ X).g X.ql) (ac ((lW X).g X.qo) (an)))}
def kY(X:Tx K mg a d v):FO P w K mg base a d 42 12 f0 z0 y ["one","other"] "common":=fk (C:=PY) X X.qB (TW hPT) {  }
def pP(X:Tx K mg a d v):FO P w K mg base a d 42 13 f0 z0 y ["thing"] "is_whole":=fk (C:=DI) X X.qD (FP hPT) {  }
def vK(X:Tx K mg a d v):FO P w K mg base a d 44 14 f0 z0 y ["thing"] "is_fraction":=fk (C:=vQ) X X.qF (vX hPT) {fns:=ac ((kY X).g X.qC) (ac ((pP X).g X.qE) (an))}
def BJ(X:Tx K mg a d v):FO P w K mg base a d 46 15 f0 z0 y ["thing"] "is_share":=fk (C:=EK) X X.qH (FB hPT) {fns:=ac ((vK X).g X.qG) (an)}
def gM(X:Tx K mg a d v):FO P w K mg base a d 48 16 f0 z0 y ["self","ember","leaf","sky"] "Shade.__init__":=fk (C:=oP) X X.qJ (pH hPT) {fns:=ac ((BJ X).g X.qI) (an)}
def DZ(X:Tx K mg a d v):FO P w K mg base a d 50 17 f0 z0 y ["_law_row"] "_law_shade":=fk (C:=ME) X X.qK (MM hPT) {mks:=ac (⟨"Shade","Shade.__init__",_,_,_,⟨by rw[show(Ew K a f0 z0).cls "Shade"=a 46 from bT];exact X.qz44,(gM X).ok.mono ddq,by rw[show(Ew K a f0 z0).cls "Shade"=a 46 from bT];exact X.qz43,.inl (BR hPT),by decide +kernel⟩,hW X⟩) (an)}
def tN(X:Tx K mg a d v):FO P w K mg base a d 42 18 f0 z0 y ["_law_told"] "_law_shares_of":=fk (C:=vP) X X.qM (vZ hPT) {  }
def MA(X:Tx K mg a d v):FO P w K mg base a d 44 19 f0 z0 y ["thing"] "is_eye":=fk (C:=TL) X X.qO (OU hPT hPL) {fns:=ac ((pP X).g X.qE) (an)}
def KP(X:Tx K mg a d v):FO P w K mg base a d 46 20 f0 z0 y ["eye"] "eye_of":=fk (C:=NG) X X.qQ (SU hPT hPL) {fns:=ac ((MA X).g X.qP) (an)}
def zO(X:Tx K mg a d v):FO P w K mg base a d 42 21 f0 z0 y ["start","end","times"] "gone":=fkd (C:=aAA) X X.qS (aAP X) (aBa ) {  }
def wP(X:Tx K mg a d v):FO P w K mg base a d 44 22 f0 z0 y ["top","bottom"] "lowest":=fk (C:=QC) X X.qU (OM hPT) {fns:=ac ((kY X).g X.qC) (an)}
def lQ(X:Tx K mg a d v):FO P w K mg base a d 42 23 f0 z0 y ["one","other","eye"] "product":=fk (C:=MB) X X.qW (LB ) {  }
def CU(X:Tx K mg a d v):FO P w K mg base a d 46 24 f0 z0 y ["weights","spots","bottom"] "line_by":=fk (C:=IT) X X.qY (IY hPT hPL) {fns:=ac ((kY X).g X.qC) (ac ((wP X).g X.qV) (ac ((lQ X).g X.qX) (an)))}
def uG(X:Tx K mg a d v):FO P w K mg base a d 42 25 f0 z0 y ["tops","spots"] "made_by":=fk (C:=LH) X X.qz1 (LS ) {  }
def wG(X:Tx K mg a d v):FO P w K mg base a d 44 26 f0 z0 y ["tops","spots","goal","eye"] "is_nearest":=fk (C:=yG) X X.qz3 (xQ hPL) {fns:=ac ((zO X).g X.qT) (ac ((uG X).g X.qz2) (ac ((lQ X).g X.qX) (an)))}
def CO(X:Tx K mg a d v):FO P w K mg base a d 42 27 f0 z0 y ["many"] "sets_of":=fk (C:=LY) X X.qz5 (LW hPL) {  }
def IK(X:Tx K mg a d v):FO P w K mg base a d 42 28 f0 z0 y ["places","tops","many"] "spread":=fk (C:=RQ) X X.qz7 (NN ) {  }
abbrev Td(y:PX)(s:Sp3):Tb:={T y with S:=λ_=>s}
def fno:bM P w K mg base CX0 lv (a i) (d i) ps (gF (Ew K a f0 z0) λ_ _ _=>False):=⟨λvs H Q E h=>by obtain⟨_,_,_,_,_,_,_,z,_⟩:=h;exact z.elim,λ_ _ _ _ _ _ _ _ _ _ _ _ _ h=>by obtain⟨_,_,_,_,_,_,_,z,_⟩:=h;exact z.elim⟩
def iR(X:Tx K mg a d v)(h:bM P w K mg base CX0 lv (a 29) (d 29) ["rows"] (gF (Ew K a f0 z0) s))(e:lv<=k):Gf P w K mg base (Ew K a f0 z0) (Td y s) k gQ:={fns:=ac (⟨_,_,_,⟨h.mono e,X.qz10,X.qz9.kp,by decide +kernel⟩,lN X⟩) (an),gls:=mG (y:=y) X,tys:=mT (y:=y) X,blt:=Tx.nb X}
theorem iQ{y:PX}(X:Tx K mg a d v):∀n,n<=3->bM P w K mg base CX0 (42+2*n) (a 29) (d 29) ["rows"] (gF (Ew K a f0 z0) (nB n))
 | 0,_=>SD (T:=Td y (λ_ _ _=>False)) (C:=gQ) (k:=40) (code:=bB) (n:=80) X.qz9 ⟨⟨rfl,rfl,rfl,by decide +kernel,rfl,by decide +kernel,by decide +kernel⟩,rfl,rfl⟩ ⟨(ck (y:=y) (f0:=f0) (z0:=z0) X).hK,(ck (y:=y) (f0:=f0) (z0:=z0) X).cls,(ck (y:=y) (f0:=f0) (z0:=z0) X).fld⟩ (iR X fno (lv:=40) ooq) (by kernel_rfl) ⟨(xo (y:=y) (f0:=f0) (z0:=z0) X).xi,(xo (y:=y) (f0:=f0) (z0:=z0) X).fx⟩ (Tf.no rfl) rfl (λ_=>by omega) (λz=>by cases z) (by walk_at "sl") (aA2)
 | n+1,e=>SD (T:=Td y (nB n)) (C:=gQ) (k:=(42+2*n)) (code:=bB) (n:=80) X.qz9 ⟨⟨rfl,rfl,rfl,by decide +kernel,rfl,by decide +kernel,by decide +kernel⟩,rfl,rfl⟩ ⟨(ck (y:=y) (f0:=f0) (z0:=z0) X).hK,(ck (y:=y) (f0:=f0) (z0:=z0) X).cls,(ck (y:=y) (f0:=f0) (z0:=z0) X).fld⟩ (iR X (iQ (y:=y) X n ooq) ooq) (by kernel_rfl) ⟨(xo (y:=y) (f0:=f0) (z0:=z0) X).xi,(xo (y:=y) (f0:=f0) (z0:=z0) X).fx⟩ (Tf.no rfl) rfl (λ_=>by omega) (λz=>by cases z) (by walk_at "sl") (aFn (T:=Td y (nB n)) n rfl ooq)
def vC(X:Tx K mg a d v):FO P w K mg base a d 48 29 f0 z0 y ["rows"] "determinant":=⟨by rw[vY];exact iQ (y:=y) X 3 ddq,X.qz9.kp,lN X⟩
def vF(X:Tx K mg a d v):FO P w K mg base a d 50 30 f0 z0 y ["spots","goal","eye"] "tops_toward":=fk (C:=wH) X X.qz11 (vT hPL) {fns:=ac ((vC X).g X.qz10) (ac ((lQ X).g X.qX) (an)),shs:=ac ((zO X).s X.qT (ET X)) (an)}
def rL(X:Tx K mg a d v):FO P w K mg base a d 52 31 f0 z0 y ["spots","goal","eye"] "nearest_tops":=fk (C:=tF) X X.qz13 (uH hPL) {fns:=ac ((wG X).g X.qz4) (ac ((CO X).g X.qz6) (ac ((IK X).g X.qz8) (ac ((vF X).g X.qz12) (an))))}
def rF(X:Tx K mg a d v):FO P w K mg base a d 42 32 f0 z0 y ["thing"] "is_shade":=fk (C:=FD) X X.qz15 (ED hPT) {  }
def sI(X:Tx K mg a d v):FO P w K mg base a d 44 33 f0 z0 y ["thing"] "need_lights":=fk (C:=vU) X X.qz17 (wF hPT hPL) {fns:=ac ((rF X).g X.qz16) (an)}
def lJ(X:Tx K mg a d v):FO P w K mg base a d 44 34 f0 z0 y ["thing"] "need_shade":=fk (C:=xT) X X.qz19 (xN hPT) {fns:=ac ((rF X).g X.qz16) (an)}
def AO(X:Tx K mg a d v):FO P w K mg base a d 50 35 f0 z0 y ["shares"] "shade_of":=fk (C:=DQ) X X.qz21 (EO hPT) {mks:=ac (⟨"Shade","Shade.__init__",_,_,_,⟨by rw[show(Ew K a f0 z0).cls "Shade"=a 46 from bT];exact X.qz44,(gM X).ok.mono ddq,by rw[show(Ew K a f0 z0).cls "Shade"=a 46 from bT];exact X.qz43,.inl (BR hPT),by decide +kernel⟩,hW X⟩) (an)}
def pJ(X:Tx K mg a d v):FO P w K mg base a d 44 36 f0 z0 y ["rows"] "shared_bottom":=fk (C:=rH) X X.qz23 (rO hPT) {fns:=ac ((kY X).g X.qC) (an)}
def yY(X:Tx K mg a d v):FO P w K mg base a d 46 37 f0 z0 y ["shade"] "shares_of":=fk (C:=BN) X X.qz25 (BP hPT) {fns:=ac ((lJ X).g X.qz20) (an)}
def yA(X:Tx K mg a d v):FO P w K mg base a d 42 38 f0 z0 y ["shares","bottom"] "spot_over":=fk (C:=AV) X X.qz27 (BQ ) {  }
def GG(X:Tx K mg a d v):FO P w K mg base a d 54 39 f0 z0 y ["lights","shade","eye"] "make":=fkd (C:=aCt) X X.qz29 (aB9 X) (aCq hPT hPL) {fns:=ac ((KP X).g X.qR) (ac ((zO X).g X.qT) (ac ((CU X).g X.qZ) (ac ((wP X).g X.qV) (ac ((uG X).g X.qz2) (ac ((rL X).g X.qz14) (ac ((sI X).g X.qz18) (ac ((lJ X).g X.qz20) (ac ((AO X).g X.qz22) (ac ((pJ X).g X.qz24) (ac ((yY X).g X.qz26) (ac ((yA X).g X.qz28) (an))))))))))))}
def BS(X:Tx K mg a d v):FO P w K mg base a d 56 40 f0 z0 y ["lights","shade"] "can_make":=fk (C:=EZ) X X.qz31 (DJ hPL) {shs:=ac ((GG X).s X.qz30 (EF X)) (an)}
def DK(X:Tx K mg a d v):FO P w K mg base a d 58 41 f0 z0 y ["_law_purse_here","_law_rows","_law_wish_here","_law_gaze"] "_law_right":=fk (C:=KC) X X.qz33 (yT hPT hPL hLT XO) {fns:=ac ((EC X).g X.qw) (ac ((UB X).g X.qA) (ac ((dQ X).g X.qd) (ac ((dN X).g X.qj) (ac ((DZ X).g X.qL) (ac ((tN X).g X.qN) (ac ((BS X).g X.qz32) (ac ((GG X).g X.qz30) (an))))))))}
def LJ(X:Tx K mg a d v):FO P w K mg base a d 46 42 f0 z0 y ["_law_rows","_law_parts_here"] "_law_made":=fk (C:=SB) X X.qz35 (AX hLT) {fns:=ac ((oZ X).g X.ql) (ac ((lW X).g X.qo) (an))}
def DC(X:Tx K mg a d v):FO P w K mg base a d 44 43 f0 z0 y ["_law_purse_here","_law_many"] "_law_parts":=fk (C:=II) X X.qz37 (IH hLT) {fns:=ac ((jM X).g X.qh) (ac ((dQ X).g X.qd) (an))}
def JF(X:Tx K mg a d v):FO P w K mg base a d 48 44 f0 z0 y ["_law_purse_here","_law_rows"] "_law_wish":=fk (C:=PF) X X.qz39 (NO hLT XO) {fns:=ac ((LJ X).g X.qz36) (ac ((DC X).g X.qz38) (ac ((dQ X).g X.qd) (ac ((dN X).g X.qj) (an))))}
def aAZ(X:Tx K mg a d v):FO P w K mg base a d 60 45 f0 z0 y ["_law_script"] "law":=fk (C:=aD7) X X.qz41 (aEZ hLT XO) {fns:=ac ((JP X).g X.qb) (ac ((QL X).g X.qf) (ac ((AK X).g X.qq) (ac ((dQ X).g X.qd) (ac ((FH X).g X.qt) (ac ((DK X).g X.qz34) (ac ((JF X).g X.qz40) (an)))))))}
local macro_rules | `(tactic| walk_at "fm") => `(tactic| (refine YL (oc := .type "function") (od := none) (osl := #[]) ?_ ?_ ?_<;>kernel_rfl))
noncomputable def aA(i:Nat):Addr:=([311,325,372,332,367,339,353,384,318,360,346,379,98,91,105,133,147,408,415,212,219,244,112,249,291,276,281,264,271,254,259,286,185,226,192,206,233,199,238,297,304,420,396,389,401,427,174]:List Addr).getD i 0
def dA(i:Nat):J8:=([fX "_law_cell" "_law_cell" nV .none zS0 (.ref 310),fX "_law_pick" "_law_pick" mE .none zS0 (.ref 324),fX "_law_eye" "_law_eye" rW .none zS0 (.ref 371),fX "_law_low" "_law_low" rX .none zS0 (.ref 331),fX "_law_plain_share" "_law_plain_share" cV .none zS0 (.ref 366),fX "_law_plus" "_law_plus" mQ .none zS0 (.ref 338),fX "_law_times" "_law_times" kJ .none zS0 (.ref 352),fX "_law_lights" "_law_lights" iM .none zS0 (.ref 383),fX "_law_purse" "_law_purse" jY .none zS0 (.ref 317),fX "_law_below" "_law_below" kB .none zS0 (.ref 359),fX "_law_minus" "_law_minus" kZ .none zS0 (.ref 345),fX "_law_far" "_law_far" rY .none zS0 (.ref 378),fX "common" "common" nR .none zS3 (.ref 97),fX "is_whole" "is_whole" iI .none zS3 (.ref 90),fX "is_fraction" "is_fraction" dS .none zS3 (.ref 104),fX "is_share" "is_share" iB .none zS2 (.ref 132),fX "__init__" "Shade.__init__" cN .none zS2 (.ref 146),fX "_law_shade" "_law_shade" kR .none zS0 (.ref 407),fX "_law_shares_of" "_law_shares_of" dW .none zS0 (.ref 414),fX "is_eye" "is_eye" nW .none zS5 (.ref 211),fX "eye_of" "eye_of" nJ .none zS5 (.ref 218),fX "gone" "gone" zH (.ref 239) zS1 (.ref 243),fX "lowest" "lowest" mF .none zS3 (.ref 111),fX "product" "product" kC .none zS1 (.ref 248),fX "line_by" "line_by" jW .none zS1 (.ref 290),fX "made_by" "made_by" kA .none zS1 (.ref 275),fX "is_nearest" "is_nearest" fJ .none zS1 (.ref 280),fX "sets_of" "sets_of" kU .none zS1 (.ref 263),fX "spread" "spread" nE .none zS1 (.ref 270),fX "determinant" "determinant" eJ .none zS1 (.ref 253),fX "tops_toward" "tops_toward" dU .none zS1 (.ref 258),fX "nearest_tops" "nearest_tops" dD .none zS1 (.ref 285),fX "is_shade" "is_shade" iG .none zS2 (.ref 184),fX "need_lights" "need_lights" dX .none zS1 (.ref 225),fX "need_shade" "need_shade" fH .none zS2 (.ref 191),fX "shade_of" "shade_of" iE .none zS2 (.ref 205),fX "shared_bottom" "shared_bottom" cW .none zS1 (.ref 232),fX "shares_of" "shares_of" gH .none zS2 (.ref 198),fX "spot_over" "spot_over" gI .none zS1 (.ref 237),fX "make" "make" yB (.ref 292) zS1 (.ref 296),fX "can_make" "can_make" iO .none zS1 (.ref 303),fX "_law_right" "_law_right" kK .none zS0 (.ref 419),fX "_law_made" "_law_made" nH .none zS0 (.ref 395),fX "_law_parts" "_law_parts" jX .none zS0 (.ref 388),fX "_law_wish" "_law_wish" nK .none zS0 (.ref 400),fX "law" "law" CC .none zS0 (.ref 426)]:List J8).getD i (fX "law" "law" CC .none zS0 (.ref 426))
noncomputable def vA(i:Nat):Value:=([.none,.none,.none,.none,.none,.none,.none,.none,.none,.none,.none,.none,.none,.none,.none,.none,.none,.none,.none,.none,.none,(.ref 239),.none,.none,.none,.none,.none,.none,.none,.none,.none,.none,.none,.none,.none,.none,.none,.none,.none,(.ref 292),.none,.none,.none,.none,.none,.none]:List Value).getD i .none
def tx(X:(K0 w.params).In h)(G:h.Ns mainGlobals mg):Tx (K0 w.params) mg aA dA vA:=by
 constructor
 case D_gone=>refine⟨239,(.type "tuple"),none,0,#[],494,rfl,?_⟩<;>kernel_rfl
 case D_make=>refine⟨292,(.type "tuple"),none,0,#[],rfl,?_⟩<;>kernel_rfl
 case c_EVEN_EYE=>refine⟨207,444,445,446,0,#[],W.mg_of X G ?_,?_⟩<;>kernel_rfl
 case c_MOST_AT_ONCE=>refine⟨467,W.mg_of X G ?_⟩<;>kernel_rfl
 case c_MOST_LIGHTS=>refine⟨465,W.mg_of X G ?_⟩<;>kernel_rfl
 case c_MOST_OF_EYE=>refine⟨448,W.mg_of X G ?_⟩<;>kernel_rfl
 all_goals first|walk_at "fm"|exact W.mg_of X G (by kernel_rfl)|(refine⟨⟨?_,?_,?_,?_⟩,?_,?_,?_,?_⟩<;>first|kernel_rfl|(unfold cY;kernel_rfl))|(refine⟨?_,?_,?_,?_⟩<;>first|kernel_rfl|(unfold cY;kernel_rfl))|kernel_rfl|(unfold cY;kernel_rfl)|((repeat' first|exact an|refine ac ?_ ?_)<;>first|exact W.mg_none_of X G (by kernel_rfl)|kernel_rfl)
def fin{l:W.OpenLaw}{w:World}{h:Heap}(X:(K0 w.params).In h)(G:h.Ns mainGlobals mg)(hfa:mg "law"=some (.ref fa)):∃fd:J8,(∀(s:J5) (v:Value),BindsTo s fd ⟨[v],[]⟩ [("_law_script",v)])/\∀base:Heap,(K0 w.params).In base->base.Ns mainGlobals mg->bM l.prog w (K0 w.params) mg base CX0 60 fa fd ["_law_script"] (HR (K0 w.params)):=by
 have T:=tx X G;have e:=hfa.symm.trans T.m_law;obtain rfl:fa=aA 45:=by injection e with e;injection e
 refine⟨dA 45,λs v=>.of_eq rfl,λbase _ _=>?_⟩;have ok:=(aAZ (P:=l.prog) (w:=w) (base:=base) (f0:=λ_=>none) (z0:=λ_=>none) (y:=λ_ _ _ _=>False) T).ok;rw[show(My.T _).S "law"=xW by kernel_rfl] at ok;exact ok.imp λvs H Q E h=>aC7 (λ_ _ z=>nomatch z) (λ_ _ z=>z) h
abbrev hk0:W.Hook:=W.kHook K0 aK λ_=>by kernel_rfl
abbrev r4:List Stmt:=r3.drop 8
def aE4:∀(w:World) (os:OsState),(W.topRun treeTable pW w 11 (some (.ref 6)) 21 (Sm4 w os) (W.restOf r4 env0 cE0 ⟨283,0,291,15⟩ B0)).map (λs₁=>(W.staticsOk (importedModules pW.main.body) (W.boot_heap w.params) s₁.heap&&W.namesBound pW s₁.heap&&W.gensDone s₁&&W.laidKept (W.boot_heap w.params) s₁.heap,W.openSeen qv lo (importedModules pW.main.body) (λs=>W.recOk [] s) true s₁,hk0.obs s₁))=some (true,W.openGood qv lo,hk0.val w):=by
 intro w os;kernel_rfl
def hlt:W.LeftO PySem.Challenge.pw_lightshares_k48_whole_few_lights_are_eno qv lo (λs=>W.recOk [] s) hk0.obs hk0.val 5638:=by
 refine L3.aEf (M:=12+(1+(686+(498+(675+(671+(231+21))))))) aF1 aFZ ddq λw os=>?_;obtain⟨s₁,e,h⟩:=Option.map_eq_some_iff.mp (aE4 w os);refine⟨s₁,W.go_top (aDM w os) (W.piece_block (aDA w os) ?_),h⟩;rw[show bdy=l0++r0 from(List.take_append_drop _ _).symm];refine W.piece_app (aFt w os) ?_;rw[show r0=l1++r1 from(List.take_append_drop _ _).symm];refine W.piece_app (aFY w os) ?_;rw[show r1=l2++r2 from(List.take_append_drop _ _).symm];refine W.piece_app (aFw w os) ?_;rw[show r2=l3++r3 from(List.take_append_drop _ _).symm];refine W.piece_app (aFQ w os) ?_;rw[show r3=l4++r4 from(List.take_append_drop _ _).symm];refine W.piece_app (aFW w os) ?_;exact e
end My
open PySem PySem.W PyProof.Rows
set_option maxRecDepth 100000 in
set_option maxHeartbeats 0 in
theorem PySem.Challenge.cw_lightshares_k48_whole_few_lights_are_eno_holds : PySem.Challenge.rw_lightshares_k48_whole_few_lights_are_eno.Holds := by
 w_on
 refine W.holds_law My.wsd λsaid=>?_
 refine W.holds_open (q:=My.qv) (loose:=My.lo) (N:=5638) (XP:=λ_ _=>True)
   (Xt:=λs=>W.recOk [] s)
   (Yf:=My.hk0.obs) (Ya:=My.hk0.val) (YP:=My.hk0.says)
   My.hlt My.hk0.of My.hk0.keeps
   (λ_ _=>trivial) (λ_ _ _ _ _=>trivial) (by rfl) (by rfl) (by rfl)
   (λs e=>W.recFacts_of e) (by rfl) (by assumption) (by decide +kernel)
   ⟨rfl,rfl,rfl,rfl,rfl,by decide +kernel⟩ ?hw ?hc
 case hw=>w_witness2
 refine L2.TV (K:=My.K0) (l:=PySem.Challenge.rw_lightshares_k48_whole_few_lights_are_eno) (n:=63) (k:=60) (x:="_law_script") (CX:=L2.CX0) (sp:=L3.HR)
   rfl ddq rfl ⟨λ_=>rfl,by decide,by decide,λ_=>rfl⟩ (λw h Y=>W.kIn_of Y) ?F (λK H a ns hl hO hS=>L3.JZ hl hO hS) (λ_ _ _ _ z=>z)
 case F =>
   intro w mg fa h KX G hmg
   exact My.fin KX G hmg
