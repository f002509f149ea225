import PyProof.Rows.All
import Open.SpecLaws
import KE.OsGo
import KE.KSortKeyAny
import PyVasesq
import PySem.Challenge.RW_coursenumbers_s01_answers
set_option Elab.async false
set_option linter.all false
set_option maxRecDepth 100000
set_option exponentiation.threshold 200000
set_option compiler.extract_closed false
set_option compiler.small 0
set_option maxHeartbeats 4000000
set_option allowUnsafeReducibility true
local macro_rules|`(#check $_:term)=>do
 let c ← (((List.range 1253).map (s!"o_{·}")++[10,58,81,87,147,231,233,333,384,407,465,509,532,590,634,715,801,871,874,889,912,1089,1169,1230,1251].flatMap fun i=>s!"tree_{i}"::[1,2,3,4].map (s!"sts_{i+·}")).append ["heap_1","heap_9","heap_1252"]|>.eraseDups.map (Lean.Name.str `HH.hd)|>.cons `PySem.Challenge.pw_coursenumbers_s01_answers).toArray.mapM fun x=>`(theorem $(Lean.mkIdent (.str `PySem.W.Fast s!"tw{x.hash}")):ident :True:=trivial)
 return Lean.mkNullNode c
#check Nat
section
open PySem PySem.W PyProof.Rows
abbrev HH.p:=PySem.Challenge.pw_coursenumbers_s01_answers
theorem HH.w1:sreFenced HH.p.main=true:=by decide +kernel
theorem HH.w2:((moduleNames HH.p.main.body).isEmpty || lookedIntoSs (moduleNames HH.p.main.body) HH.p.main.body)=true:=by decide +kernel
theorem HH.w3:namesResolve HH.p=true:=by decide +kernel
theorem HH.w4:HH.p.boundNames.all (fun n=>!worldNames.contains n)=true:=by decide +kernel
theorem HH.w5:noRoadLSs {strict:=!(importedModules HH.p.main.body).all cThrough.contains,foot:=none,bare:=(["vars","dir","locals"]:List Str).filter (readsOut HH.p HH.p.main.body)} HH.p.main.body=true:=by decide +kernel
theorem HH.w6:(namesMeet HH.p HH.p.main.body fun _ n=>attrL n)=true:=by decide +kernel
theorem HH.sd:PySem.Challenge.rw_coursenumbers_s01_answers.wellSaid=true:=by
 show ((sreFenced HH.p.main && ((moduleNames HH.p.main.body).isEmpty || lookedIntoSs (moduleNames HH.p.main.body) HH.p.main.body) && namesResolve HH.p && HH.p.boundNames.all (fun n=>!worldNames.contains n) && noRoadLSs {strict:=!(importedModules HH.p.main.body).all cThrough.contains,foot:=none,bare:=(["vars","dir","locals"]:List Str).filter (readsOut HH.p HH.p.main.body)} HH.p.main.body && namesMeet HH.p HH.p.main.body fun _ n=>attrL n) && HH.p.boundNames.contains _ && !startupNames.contains _ && specDef HH.p _ _ && _ && _)=true
 rw[HH.w1,HH.w2,HH.w3,HH.w4,HH.w5,HH.w6];decide +kernel
def HH.q0:Program:={HH.p with main:={HH.p.main with body:=HH.p.main.body.filter fun s=>match s with|.FunctionDef n _ _ _ _ _ _ _ _ _=>n == "answers"|_=>false}}
def HH.lo:List Str:=HH.p.boundNames.filter fun n=>n != "answers"
local macro_rules
 |`(tactic|refine $t)=>do
  let a:=t.raw[1].getArgs
  if t.raw.isOfKind ``Lean.Parser.Term.app && a.size>20 && a[0]![1].getId.eraseMacroScopes == `q && a[0]![3].getId.eraseMacroScopes != `HH.q0 then
   let b ← #[← `(Lean.Parser.Term.namedArgument|(q:=HH.q0)),← `(Lean.Parser.Term.namedArgument|(loose:=HH.lo)),← `(Lean.Parser.Term.namedArgument|(Xt:=fun s=>PySem.W.xlAt HH.q0 [] s && PySem.W.recOk [] s)),← `(Lean.Parser.Term.namedArgument|(XP:=PySem.W.XL HH.q0 []))].mapM fun x=>pure x.raw
   let w ← `(⟨[.list [.int 1]],by decide +kernel,by decide +kernel⟩)
   let h ← `((by exact $(Lean.mkIdent `h)))
   let u:=t.raw.setArg 1 (Lean.mkNullNode (b++a.extract 4 (a.size-2)++#[w.raw,h.raw]))
   `(tactic|refine $(⟨u⟩))
  else Lean.Macro.throwUnsupported
set_option maxHeartbeats 0 in
noncomputable def HH.hd:(P:Prop)×'(P->PySem.Challenge.rw_coursenumbers_s01_answers.Holds):=by
 apply PSigma.mk
 case snd=>
  intro h
  have hsaid:=HH.sd
  w_on;k_headS
end
inductive HH.E2{α β:Sort _}(p:α->β->Prop):Prop|mk(a b)(h:p a b):E2 p
inductive HH.E3{α β γ:Sort _}(p:α->β->γ->Prop):Prop|mk(a b c)(h:p a b c):E3 p
inductive HH.E5{α β γ δ ε:Sort _}(p:α->β->γ->δ->ε->Prop):Prop|mk(a b c d e)(h:p a b c d e):E5 p
structure HH.A3(a b c:Prop):Prop where(x:a)(y:b)(z:c)
structure HH.A4(a b c d:Prop):Prop where(x:a)(y:b)(z:c)(w:d)
structure HH.A5(a b c d e:Prop):Prop where(x:a)(y:b)(z:c)(w:d)(v:e)
open Lean in
local macro_rules
 |`(∃$xs,$b)=>do
  let x:=xs.raw[0]
  let l:=(if x.isOfKind ``unbracketedExplicitBinders then x[0].getArgs.map fun i=>(i[0],x[1].getArgs[1]?) else x.getArgs.flatMap fun y=>y[1].getArgs.map fun i=>(i[0],some y[3])).toList
  if l.length<2 then Macro.throwUnsupported
  let rec s(t:Syntax):Nat->List Term
   |0=>[⟨t⟩]
   |n+1=>if t[1].isToken "/\\" then ⟨t[0]⟩::s t[2] n else [⟨t⟩]
  let rec f:Nat->List Term->MacroM Term
   |_,[x]=>pure x
   |_,[x,y]=>`($x ∧ $y)
   |_,[x,y,z]=>`(HH.A3 $x $y $z)
   |_,[x,y,z,w]=>`(HH.A4 $x $y $z $w)
   |n+1,x::y::z::w::r=>do `(HH.A5 $x $y $z $w $(← f n r))
   |_,_=>pure b
  let b ← f 9 (s b 20)
  let rec g:Nat->List (Syntax×Option Syntax)->MacroM Term
   |n+1,l=>do
    let k:=if l.length>4 then 5 else if l.length>2 then 3 else l.length
    if k==0 then return b
    let t ← (l.take k).foldrM (fun (i,y) (t:Term)=>match y with|some y=>`(fun ($(⟨i⟩) : $(⟨y⟩))=>$t)|_=>`(fun $(⟨i⟩)=>$t)) (← g n (l.drop k))
    `($(mkCIdent (if k==5 then `HH.E5 else if k==3 then `HH.E3 else if k==2 then `HH.E2 else `Exists)) $t)
   |_,_=>pure b
  g 9 l
noncomputable section
def aa:=@if_neg
def ae:=@if_pos
def af:=@List.length_map
def ag:=@PySem.wpAny_bind
def ah:=@Nat.le_refl
def ai:=@of_decide_eq_true
def aj:=@PySem.Heap.lt_size
def ak:=@List.getElem?_map
def ao:=@decide_eq_true
def aq:=@Bool.false_ne_true
def au:=@congrArg
def aw:=@List.mem_cons
def ax:=@List.getElem?_eq_some_iff
def ay:=@List.map_cons
def az:=@List.length_cons
def aA:=@Nat.le_trans
def aB:=@PySem.Heap.get?_push_of_some
def aC:=@List.length_append
def aD:=@List.map_append
def aE:=@Nat.lt_of_lt_of_le
def aF:=@Nat.ne_of_lt
def aG:=@List.size_toArray
def aH:=@Option.some.inj
def aI:=@Nat.zero_le
def aJ:=@List.mem_of_getElem?
def aK:=@PySem.wpAny_mono
def aL:=@List.length_take
def aM:=@PySem.Heap.get?_push_size
def aN:=@Nat.lt_of_le_of_lt
def aO:=@List.map_map
def aP:=@List.mem_cons_of_mem
def aQ:=@List.take_length
def aR:=@List.getElem?_eq_getElem
def aS:=@Bool.and_eq_true
def aT:=@List.length_drop
def aU:=@List.mem_cons_self
def aV:=@PySem.mem_of_lookup
def aW:=@List.mem_map
def aX:=@Nat.lt_trans
def aY:=@Int.ofNat_lt
def aZ:=@List.append_nil
def a0:=@Nat.lt_irrefl
def a5:=@Nat.pow_lt_pow_right
def a6:=@decide_eq_false
def a7:=@List.mem_append_right
def a8:=@PySem.Heap.size_push
def a9:=@Nat.le_of_lt
def ba:=@beq_iff_eq
def bc:=@List.length_nil
def bg:=@List.drop_length
def bh:=@Nat.pow_le_pow_right
def bj:=@Nat.lt_succ_self
def bo:=@Bool.false_eq_true
def bp:=@Nat.pow_succ
def bq:=@List.mem_append
def bt:=@Bool.eq_iff_iff
def bu:=@PySem.codeAny_mono
def bw:=@List.getElem?_of_mem
def bx:=@Int.ofNat_le
def bz:=@List.length_eq_zero_iff
def bA:=@Nat.ne_of_gt
def bB:=@PySem.Heap.get?_update_other
def bC:=@List.find?_cons
def bD:=@List.drop_eq_nil_of_le
def bF:=@List.sum_cons
def bG:=@Classical.byContradiction
def bH:=@List.takeWhile_cons
def bI:=@Nat.lt_of_not_le
def bJ:=@PySem.W.mg_of
def bK:=@PySem.W.callWith_K
def bL:=@List.nodup_cons
def bM:=@Int.toNat_natCast
def bN:=@List.length_singleton
def bO:=@List.lookup_cons
def bP:=@List.flatMap_cons
def bQ:=@List.drop_drop
def bR:=@PyProof.Rows.callWith_type1
def bS:=@List.of_mem_zip
def bT:=@List.any_cons
def bU:=@Nat.le_add_right
def bV:=@List.mem_singleton
def bW:=@PySem.Heap.get?_update_ne
def bX:=@List.take_add_one
def bY:=@List.pairwise_map
def bZ:=@List.mem_of_mem_take
def cb:=@List.filterMap_cons
def cf:=@List.mem_append_left
def cg:=@Array.length_toList
def cj:=@List.getElem?_append_right
def ck:=@List.reverse_cons
def cp:=@Nat.lt_succ_of_lt
def cq:=@List.getElem?_eq_none
def cu:=@List.all_eq_true
def cw:=@Option.map_eq_some_iff
def cx:=@PySem.Obj.data_mapFields
def cy:=@Array.getElem?_eq_some_iff
def cz:=@List.getElem?_set_self
def cA:=@PySem.Calls.spliced_cons
def cB:=@PySem.Heap.get?_update_self
def cC:=@List.map_congr_left
def cD:=@List.take_of_length_le
def cF:=@List.pairwise_cons
def cG:=@Bool.or_eq_false_iff
def cH:=@List.Sublist.length_le
def cI:=@List.takeWhile_sublist
def cJ:=@List.flatMap_append
def cK:=@List.getElem?_append_left
def cM:=@PySem.F.slot_dict_getitem
def cO:=@PySem.F.plainAttrs_list
def cP:=@List.contains_eq_any_beq
def cQ:=@List.drop_eq_getElem_cons
def cR:=@Nat.add_sub_cancel_left
abbrev cS:=PySem.Addr
abbrev cT:=PySem.FuncData
abbrev cU:=PySem.Shared
abbrev cV:=PySem.W.Frag
abbrev cW:=Vasesd.Part
open Lean in
local macro_rules|`(tactic|ac_rfl)=>do
 let t ←(List.range 8).foldlM (λt i=>`(tactic|first|refine $(mkIdent (.mkSimple s!"fb{i}")) ?_|$t:tactic)) (←`(tactic|fail))
 `(tactic|(intro _ _ _ _ _ _;$t:tactic;intros;rfl))
local macro_rules|`(tactic|symm)=>`(tactic|as_aux_lemma=>k_is)
local macro_rules|`(tactic|rfl')=>`(tactic|decide +kernel)
local macro_rules|`(tactic|nofun)=>`(tactic|with_reducible rfl)
namespace L2
open PySem PySem.Spec PyProof.Rows
abbrev fb:=Sum Int Str
noncomputable def xW:fb->Value->Bool
 | .inl k,v=>Value.isInt k v
 | .inr x,v=>Value.isStrOf x v
noncomputable def Uu(w:World):fb->Int
 | .inl k=>hashInt k
 | .inr x=>hashStr w x
theorem gU:∀{k:fb} {v:Value},xW k v=true->(∃i t,k=Sum.inl i/\v=Value.int i t)∨(∃x t,k=Sum.inr x/\v=Value.str x t)
 | .inl i,v,h=>by
  obtain⟨t,e⟩:=Value.isInt_shape (k:=i) (v:=v) h;exact .inl ⟨i,t,rfl,e⟩
 | .inr x,v,h=>by
  obtain⟨t,e⟩:=Value.isStrOf_shape (x:=x) (v:=v) h;exact .inr ⟨x,t,rfl,e⟩
theorem Ml(i:Int)(t:Tok):xW (.inl i) (.int i t)=true:=by simp[xW,Value.isInt]
theorem Mm(x:Str)(t:Tok):xW (.inr x) (.str x t)=true:=by simp[xW,Value.isStrOf]
theorem Rh(a b:Int):decide ((Sum.inl a:fb)=Sum.inl b)=(a==b):=by
 by_cases e:a=b
 .subst e;simp
 .have h:¬(Sum.inl a:fb)=Sum.inl b:=λq=>e (Sum.inl.inj q);rw[a6 h];exact(beq_eq_false_iff_ne.mpr e).symm
theorem Ri(a b:Str):decide ((Sum.inr a:fb)=Sum.inr b)=decide (a=b):=by
 by_cases e:a=b
 .subst e;simp
 .have h:¬(Sum.inr a:fb)=Sum.inr b:=λq=>e (Sum.inr.inj q);rw[a6 h,a6 e]
theorem Rj(a:Int)(b:Str):decide ((Sum.inl a:fb)=Sum.inr b)=false:=a6 (λq=>nomatch q)
theorem Rk(a:Str)(b:Int):decide ((Sum.inr a:fb)=Sum.inl b)=false:=a6 (λq=>nomatch q)
def fZ(prog:Program)(w:World):PySem.KeyKind prog w fb where
 is:=xW
 hash:=Uu w
 inj:=λv a b ha hb=>by
  rcases gU ha with ⟨i,t,rfl,rfl⟩|⟨x,t,rfl,rfl⟩
  .rcases gU hb with ⟨j,u,rfl,e⟩|⟨y,u,rfl,e⟩
   .injection e with e1 _;rw[e1]
   .exact nomatch e
  .rcases gU hb with ⟨j,u,rfl,e⟩|⟨y,u,rfl,e⟩
   .exact nomatch e
   .injection e with e1 _;rw[e1]
 byValue:=λk v h=>by
  rcases gU h with ⟨i,t,rfl,rfl⟩|⟨x,t,rfl,rfl⟩<;>rfl
 pyHash:=λhv h=>by
  rcases gU hv with ⟨i,t,rfl,rfl⟩|⟨x,t,rfl,rfl⟩
  .exact wpAny_pyHash_int h
  .exact wpAny_pyHash_str h
 eqBool:=λhu hv h=>by
  rcases gU hu with ⟨i,t,rfl,rfl⟩|⟨x,t,rfl,rfl⟩
  .rcases gU hv with ⟨j,u,rfl,rfl⟩|⟨y,u,rfl,rfl⟩
   .rw[Rh] at h;exact wpAny_eqBool_int h
   .rw[Rj] at h;exact SeqAt.EqAt.int_str i t y u _ _ _ _ h
  .rcases gU hv with ⟨j,u,rfl,rfl⟩|⟨y,u,rfl,rfl⟩
   .rw[Rk] at h;exact SeqAt.EqAt.str_int x t j u _ _ _ _ h
   .rw[Ri] at h;exact wpAny_eqBool_str h
 «strs»:=λk x t v h=>by
  rcases gU h with ⟨i,u,rfl,e⟩|⟨y,u,rfl,e⟩
  .exact nomatch e
  .injection e with e1 _;subst e1;cases v<;>rfl
theorem Iu(prog:Program)(w:World)(i:Int)(t:Tok):(fZ prog w).is (.inl i) (.int i t)=true:=Ml i t
theorem Iv(prog:Program)(w:World)(x:Str)(t:Tok):(fZ prog w).is (.inr x) (.str x t)=true:=Mm x t
inductive V where
 | non|bl (b:Bool)|int (i:Int)|str (x:Str)|byt (b:Array UInt8)|flt (b:UInt64)|ref (a:cS)|ty (n:String)
 deriving DecidableEq
def dR:V->Value->Prop
 | .non,u=>u=Value.none
 | .bl b,u=>u=Value.bool b
 | .int i,u=>∃t,u=Value.int i t
 | .str x,u=>∃t,u=Value.str x t
 | .byt b,u=>∃t,u=Value.bytes b t
 | .flt b,u=>∃t,u=Value.float b t
 | .ref a,u=>u=Value.ref a
 | .ty n,u=>u=Value.type n
abbrev dM:List V->List Value->Prop:=Paired dR
theorem dM.length(r:dM xs us):xs.length=us.length:=Paired.length r
theorem dM.get:∀{xs:List V} {us:List Value} {i:Nat} {x:V},dM xs us->xs[i]?=some x->∃u,us[i]?=some u/\dR x u
 | _,_,_,_,.nil,e=>by simp at e
 | _,_,0,_,.cons r _,e=>by simp at e;subst e;exact⟨_,rfl,r⟩
 | _,_,i+1,x,.cons _ t,e=>by
  obtain⟨u,h1,h2⟩:=dM.get (i:=i) (x:=x) t (by simpa using e);exact⟨u,by simpa using h1,h2⟩
theorem dM.append:∀{xs ys:List V} {us ws:List Value},dM xs us->dM ys ws->dM (xs++ys) (us++ws)
 | _,_,_,_,.nil,s=>s
 | _,_,_,_,.cons r t,s=>.cons r (dM.append t s)
theorem dM.take:∀{xs:List V} {us:List Value} (n:Nat),dM xs us->dM (xs.take n) (us.take n)
 | _,_,0,_=>.nil
 | _,_,_+1,.nil=>.nil
 | _,_,n+1,.cons r t=>.cons r (dM.take n t)
theorem dM.drop:∀{xs:List V} {us:List Value} (n:Nat),dM xs us->dM (xs.drop n) (us.drop n)
 | _,_,0,r=>r
 | _,_,_+1,.nil=>.nil
 | _,_,n+1,.cons _ t=>dM.drop n t
def iD:Option V->Option Value->Prop
 | some v,some u=>dR v u
 | none,none=>True
 | _,_=>False
def KV{κ:Type}:List (κ×V)->List (κ×Value)->Prop:=Paired λ(p:κ×V) (q:κ×Value)=>p.1=q.1/\dR p.2 q.2
noncomputable def kV:fb->V
 | .inl i=>.int i
 | .inr x=>.str x
inductive HO where
 | lst (xs:List V)
 | tup (xs:List V)
 | dK (kvs:List (fb×V))|dT (kvs:List (List fb×V))
 | set (S:Int->Bool) (n:Nat)
 | ins (C dx:cS) (fs:List (Str×V))
 | own (x:cS)
 | xd (fs:List (Str×V))
 | met (f x:cS)
 | rng (lo hi:Int)
 | frz (o:Obj) (u:HO)
 | tbl (ps:Array Value)
 | ext (φ:Heap->Prop)
abbrev Hp:=cS->Option HO
noncomputable def upd(H:Hp)(a:cS)(o:HO):Hp:=λb=>if b=a then some o else H b
theorem bv:upd H a o a=some o:=by unfold upd;rw[ae rfl]
theorem ap(h:b≠a):upd H a o b=H b:=by unfold upd;rw[aa h]
theorem eq:upd (upd H a o) a u=upd H a u:=by
 funext b;unfold upd;split<;>rfl
theorem Tj{H:Hp}{a b:cS}{o u:HO}(h:H a=some o)(h':H b=some u)(d:o≠u):a≠b:=by
 intro e;subst e;rw[h] at h';exact d (aH h')
theorem ca{H:Hp}{a b:cS}{o:HO}(h:H a=some o)(h':H b=none):a≠b:=by
 intro e;subst e;rw[h] at h';cases h'
section
variable(P:Program)(w:World)
def eR(H:Hp)(h:Heap)(a:cS):HO->Prop
 | .lst xs=>xs.length<=sizeLine/\∃(Xa:List Value)(n:Nat),dM xs Xa/\h.get? a=some {cls:=.type "list",data:=.seq Xa.toArray n}
 | .tup xs=>xs.length<=sizeLine/\∃Xa:List Value,dM xs Xa/\IsTup h a Xa.toArray
 | .dK kvs=>kvs.length<=sizeLine/\(a==sysModules)=false/\∃vs,KV kvs vs/\h.DictOf (fZ P w) a vs
 | .dT kvs=>kvs.length<=sizeLine/\(a==sysModules)=false/\∃xs:List (List fb×cS×Value),
   Paired (λ(p:List fb×V) (q:List fb×cS×Value)=>p.1=q.1/\H q.2.1=some (.tup (p.1.map kV))/\dR p.2 q.2.2) kvs xs/\
   ∃o es ep,h.get? a=some o/\o.ExactDict/\o.data=.dict es ep/\es.toList=xs.map (entryOfKey (tupleKind (fZ P w)))/\(xs.map (·.1)).Nodup
 | .set S n=>h.SetOf (intKind P w) a S n
 | .ins C dx fs=>H dx=some (.own a)/\fs.length<=1000/\dx≠a/\h.get? a=some (PySem.W.instObj C dx)/\
   ∃mA,h.Ns1 dx mA/\(∀f,iD (fs.lookup f) (mA f))/\PySem.Within mA (fs.map (·.1))
 | .own _=>∃o,h.get? a=some o
 | .xd fs=>∃mA,h.Ns1 a mA/\∀f,iD (fs.lookup f) (mA f)
 | .rng lo hi=>∃t u v,h.get? a=some {cls:=.type "range",data:=.fields #[.int lo t,.int hi u,.int 1 v]}
 | .frz o u=>h.get? a=some o/\eR H h a u
 | .tbl ps=>h.get? a=some {cls:=.none,data:=.fields ps}
 | .met f x=>h.get? a=some (PySem.W.methodObj (.ref f) (.ref x))
 | .ext φ=>φ h/\(∃o,h.get? a=some o)/\∀h1 h2:Heap,φ h1->(∀o,h1.get? a=some o->h2.get? a=some o)->φ h2
def gF(H:Hp)(h:Heap):Prop:=∀a o,H a=some o->eR P w H h a o
end
section
variable{P:Program}{w:World}{H H':Hp}{h h':Heap}{a:cS}{o:HO}
theorem eR.lt(x:eR P w H h a o):a<h.objs.size:=by
 cases o with
 | lst xs=>obtain⟨_,_,_,_,e⟩:=x;exact aj e
 | tup xs=>obtain⟨_,_,_,p⟩:=x;exact p.lt
 | dK kvs=>obtain⟨_,_,_,_,o,_,_,e,_⟩:=x;exact aj e
 | dT kvs=>obtain⟨_,_,_,_,o,_,_,e,_⟩:=x;exact aj e
 | set S n=>obtain⟨o,_,_,_,e,_⟩:=x;exact aj e
 | ins C dx fs=>obtain⟨_,_,_,e,_⟩:=x;exact aj e
 | own y=>obtain⟨_,e⟩:=x;exact aj e
 | xd fs=>obtain⟨_,⟨_,_,_,e,_⟩,_⟩:=x;exact aj e
 | rng lo hi=>obtain⟨_,_,_,e⟩:=x;exact aj e
 | frz ob u=>obtain⟨e,_⟩:=x;exact aj e
 | tbl ps=>exact aj (show h.get? a=some _ from x)
 | met f y=>exact aj (show h.get? a=some _ from x)
 | ext φ=>obtain⟨_,⟨_,e⟩,_⟩:=x;exact aj e
theorem Paired.mapP:∀{l₁:List α} {l₂:List β},Paired F l₁ l₂->(∀a b,F a b->G a b)->Paired G l₁ l₂
 | _,_,.nil,_=>.nil
 | _,_,.cons r t,f=>.cons (f _ _ r) (Paired.mapP t f)
theorem eR.stay(x:eR P w H h a o)(k:∀b u,(b=a∨H b=some (.own a))->h.get? b=some u->h'.get? b=some u)(ho:∀b,H b=some (.own a)->H' b=some (.own a))(ht:∀b xs,H b=some (.tup xs)->H' b=some (.tup xs)):eR P w H' h' a o:=by
 induction o with
 | lst xs=>obtain⟨z,Xa,n,r,e⟩:=x;exact⟨z,Xa,n,r,k _ _ (.inl rfl) e⟩
 | tup xs=>obtain⟨z,Xa,r,ob,e,c⟩:=x;exact⟨z,Xa,r,ob,k _ _ (.inl rfl) e,c⟩
 | dK kvs=>obtain⟨z,y,vs,r,ob,es,ep,e,c⟩:=x;exact⟨z,y,vs,r,ob,es,ep,k _ _ (.inl rfl) e,c⟩
 | dT kvs=>
  obtain⟨z,y,xs,r,ob,es,ep,e,c,c1,c2,c3⟩:=x;exact⟨z,y,xs,Paired.mapP r λp q z=>⟨z.1,ht _ _ z.2.1,z.2.2⟩,ob,es,ep,k _ _ (.inl rfl) e,c,c1,c2,c3⟩
 | set S n=>obtain⟨ob,es,ep,t,e,c⟩:=x;exact⟨ob,es,ep,t,k _ _ (.inl rfl) e,c⟩
 | ins C dx fs=>
  obtain⟨d,z,ne,e,mA,⟨od,es,ep,e2,c⟩,r,r1⟩:=x;exact⟨ho _ d,z,ne,k _ _ (.inl rfl) e,mA,⟨od,es,ep,k _ _ (.inr d) e2,c⟩,r,r1⟩
 | own y=>obtain⟨ob,e⟩:=x;exact⟨ob,k _ _ (.inl rfl) e⟩
 | xd fs=>obtain⟨mA,⟨od,es,ep,e,c⟩,r⟩:=x;exact⟨mA,⟨od,es,ep,k _ _ (.inl rfl) e,c⟩,r⟩
 | rng lo hi=>obtain⟨t,u,v,e⟩:=x;exact⟨t,u,v,k _ _ (.inl rfl) e⟩
 | frz ob u ih=>obtain⟨e,q⟩:=x;exact⟨k _ _ (.inl rfl) e,ih q⟩
 | tbl ps=>
  have e:h.get? a=some {cls:=.none,data:=.fields ps}:=x;show h'.get? a=some {cls:=.none,data:=.fields ps};exact k a _ (.inl rfl) e
 | met f y=>
  have e:h.get? a=some (PySem.W.methodObj (.ref f) (.ref y)):=x;show h'.get? a=some (PySem.W.methodObj (.ref f) (.ref y));exact k a _ (.inl rfl) e
 | ext φ=>obtain⟨p,⟨o,e⟩,st⟩:=x;exact⟨st _ _ p λo q=>k _ _ (.inl rfl) q,⟨o,k _ _ (.inl rfl) e⟩,st⟩
theorem gF.lt(x:gF P w H h)(e:H a=some o):a<h.objs.size:=(x a o e).lt
theorem gF.fresh(x:gF P w H h)(e:h.objs.size<=a):H a=none:=by
 cases q:H a with
 | none=>rfl
 | some u=>exact absurd (aE (x.lt q) e) (a0 _)
theorem gF.kept(x:gF P w H h)(k:∀b u,h.get? b=some u->h'.get? b=some u):gF P w H h':=λa o e=>
 (x a o e).stay (λb u _ q=>k b u q) (λ_ q=>q) λ_ _ q=>q
theorem gF.laid(x:gF P w H h)(k:∀b u,h.get? b=some u->h'.get? b=some u)(hp:h.objs.size<=a)(new:eR P w (upd H a o) h' a o):gF P w (upd H a o) h':=λb u e=>by
 have hn:=x.fresh hp;by_cases hb:b=a
 .subst hb;rw[bv] at e;cases e;exact new
 .rw[ap hb] at e;exact(x b u e).stay (λc v _ q=>k c v q) (λc q=>by rw[ap (ca q hn)];exact q) λc xs q=>by rw[ap (ca q hn)];exact q
end
def Rd(H:Hp)(a:cS)(u:HO):Prop:=H a=some u∨∃o,H a=some (.frz o u)
theorem Rd.ok(r:Rd H a u)(x:gF P w H h):eR P w H h a u:=by
 rcases r with r|⟨o,r⟩
 .exact x a u r
 .obtain⟨_,q⟩:=x a _ r;exact q
def Mn:Option HO->Prop
 | some (.lst _)=>True
 | some (.dK _)=>True
 | some (.dT _)=>True
 | some (.set _ _)=>True
 | some (.ins _ _ _)=>True
 | some (.ext _)=>True
 | _=>False
section
variable{P:Program}{w:World}{H:Hp}{h h':Heap}{x e:cS}{o':HO}
theorem gF.write(ok:gF P w H h)(mu:Mn (H x))(he:e=x∨H e=some (.own x))(k:∀b u,b≠e->h.get? b=some u->h'.get? b=some u)(aa0:∃u,h'.get? e=some u)(new:eR P w (upd H x o') h' x o'):gF P w (upd H x o') h':=λb u q=>by
 have adq:∀c y,H c=some (.own y)->c≠x:=λc y r z=>by subst z;rw[r] at mu;exact mu
 have ags:∀c xs,H c=some (.tup xs)->c≠x:=λc xs r z=>by subst z;rw[r] at mu;exact mu
 by_cases hb:b=x
 .subst hb;rw[bv] at q;cases q;exact new
 .rw[ap hb] at q;by_cases aay:b=e
  .have q':H b=some (.own x):=by
    rcases he with z|z
    .exact absurd (aay.trans z) hb
    .rw[aay];exact z
   rw[q] at q';cases q';obtain⟨v,hv⟩:=aa0;exact⟨v,by rw[aay];exact hv⟩
  .refine(ok b u q).stay (λc v hc r=>k c v ?_ r) (λc r=>by rw[ap (adq c b r)];exact r) λc xs r=>by rw[ap (ags c xs r)];exact r
   rcases hc with rfl|hc
   .exact aay
   .rintro rfl;rcases he with z|z
    .exact adq c b hc z
    .rw[hc] at z;cases z;exact hb rfl
end
structure Un(fs ex:List cS)(H H':Hp)(h h':Heap):Prop where
 keep:∀b o,h.get? b=some o->H b=none->b∉fs->b∉ex->h'.get? b=some o
 slot:∀b o,h.get? b=some o->H b=none->b∈fs->b∉ex->∃sl,h'.get? b=some {o with slots:=sl}
 free:∀b o,h.get? b=some o->H b=none->b∉ex->H' b=none
 there:∀b o,h.get? b=some o->b∉ex->∃o',h'.get? b=some o'
 tups:∀b xs,H b=some (.tup xs)->H' b=some (.tup xs)
 frzs:∀b o u,H b=some (.frz o u)->H' b=some (.frz o u)
 tbls:∀b ps,H b=some (.tbl ps)->∃more,H' b=some (.tbl (ps++more))
section
variable{fs YI ex ex':List cS}{H H1 H2:Hp}{h h1 h2 h':Heap}{a x e:cS}{o:HO}
theorem Un.any(u:Un fs ex H H1 h h1)(q:h.get? b=some ob)(n:H b=none)(hx:b∉ex):∃sl,h1.get? b=some {ob with slots:=sl}:=by
 by_cases hb:b∈fs
 .exact u.slot b ob q n hb hx
 .exact⟨ob.slots,u.keep b ob q n hb hx⟩
theorem Un.kept(k:∀b u,h.get? b=some u->h'.get? b=some u):Un fs ex H H h h':=
 ⟨λb ob q _ _ _=>k b ob q,λb ob q _ _ _=>⟨ob.slots,k b ob q⟩,λ_ _ _ n _=>n,λb ob q _=>⟨ob,k b ob q⟩,λ_ _ q=>q,λ_ _ _ q=>q,λ_ ps q=>⟨#[],by rw[q];simp⟩⟩
theorem Un.refl:Un fs ex H H h h:=Un.kept λ_ _ q=>q
theorem Un.laid(k:∀b u,h.get? b=some u->h'.get? b=some u)(hp:h.objs.size<=a)(hn:H a=none):Un fs ex H (upd H a o) h h' where
 keep:=λb u q _ _ _=>k b u q
 slot:=λb u q _ _ _=>⟨u.slots,k b u q⟩
 free:=λb u q n _=>by rw[ap (aF (aE (aj q) hp))];exact n
 there:=λb u q _=>⟨u,k b u q⟩
 tups:=λb xs q=>by rw[ap (ca q hn)];exact q
 frzs:=λb u xs q=>by rw[ap (ca q hn)];exact q
 tbls:=λb ps q=>⟨#[],by rw[ap (ca q hn),q];simp⟩
theorem Un.write(mu:Mn (H x))(he:e=x∨H e=some (.own x))(k:∀b u,b≠e->h.get? b=some u->h'.get? b=some u)(aa0:∃u,h'.get? e=some u):Un fs ex H (upd H x o) h h':=by
 have hx:∀b,H b=none->b≠x:=λb n z=>by subst z;rw[n] at mu;exact mu
 have hb:∀b,H b=none->b≠e:=λb n z=>by
  subst z;rcases he with r|r
  .exact hx b n r
  .rw[n] at r;cases r
 have hm:∀b u,H b=some u->¬Mn (some u)->b≠x:=λb u q nm z=>by subst z;rw[q] at mu;exact nm mu
 refine⟨λb u q n _ _=>k b u (hb b n) q,λb u q n _ _=>⟨u.slots,k b u (hb b n) q⟩,λb u q n _=>by rw[ap (hx b n)];exact n,λb u q _=>?_,
  λb xs q=>by rw[ap (hm b _ q λz=>z)];exact q,λb u xs q=>by rw[ap (hm b _ q λz=>z)];exact q,λb ps q=>⟨#[],by rw[ap (hm b _ q λz=>z),q];simp⟩⟩
 by_cases aay:b=e
 .subst aay;exact aa0
 .exact⟨u,k b u aay q⟩
end
noncomputable def Pg(h:Heap)(H:Hp):List cS:=(List.range h.objs.size).filter λa=>(H a).isSome
def ur(h:Heap)(H:Hp):Heap:=PySem.W.hideAll h (Pg h H)
theorem Mo(h:Heap)(H:Hp):(ur h H).objs.size=h.objs.size:=PySem.W.hideAll_size _ _
theorem N2(e:h.get? b=some o)(n:H b=none):(ur h H).get? b=some o:=
 PySem.W.hideAll_get _ e λhm=>by
  have q:(H b).isSome=true:=(List.mem_filter.mp hm).2;rw[n] at q;simp at q
theorem Qc(e:(ur h H).get? b=some o):h.get? b=some o/\H b=none:=by
 have e':h.get? b=some o:=PySem.W.of_hideAll (Pg h H) e;refine⟨e',?_⟩;cases q:H b with
 | none=>rfl
 | some x=>
  have hm:b∈Pg h H:=List.mem_filter.mpr ⟨List.mem_range.mpr (aj e'),by simp[q]⟩;have z:(ur h H).get? b=none:=PySem.W.hideAll_none (Pg h H) hm;rw[z] at e;cases e
structure Mod(K:cV)(mg:Str->Option Value)(base:Heap):Prop where
 kin:K.In base
 glob:base.Ns mainGlobals mg
 blt:∃mb,base.Ns builtinsNs mb/\∀x:Str,x≠"__name__"->mb x=bootBuiltins x
 nolimit:base.NoLimit
structure Cx where
 prog:Program
 w:World
 K:cV
 mg:Str->Option Value
 base:Heap
 A:Around
 N:List Str
 s_0:cU
 H_0:Hp
 env:Env
 outer:List Env
 stack:List Env
 ex:List cS
 fn:Str->Bool
 calm:Bool
 pn:List (cS×Obj)
 xe:Value->cU->Prop
noncomputable def YJ(l:List Env):List cS:=l.filterMap (·.frame)
abbrev Cx.fs(X:Cx):List cS:=YJ X.outer
def JJ(sc:Scope)(x:Str):Prop:=sc.names.lookup x=some .local ∨sc.names.lookup x=some .cell∨sc.names.lookup x=some .free
def Az(sc:Scope)(x:Str):Prop:=sc.names.lookup x=some .local ∨sc.names.lookup x=some .cell
def Uv(env:Env)(h:Heap)(m:Str->Option Value)(x:Str)(u:Value):Prop:=
 (env.kindOf x=some .local /\m x=some u)∨((env.kindOf x=some .cell∨env.kindOf x=some .free)/\∃c,env.cells.lookup x=some c/\h.IsCell c (some u))
structure Cx.Ok(X:Cx):Prop where
 mod:Mod X.K X.mg X.base
 kind:X.env.scope.kind=.function
 glob:X.env.globals=mainGlobals
 blt:X.env.builtins=builtinsNs
 above:X.s_0.heap.objs.size<=X.env.locals
 inj:∀x y c,X.env.cells.lookup x=some c->X.env.cells.lookup y=some c->x=y
 has:∀x,(X.env.kindOf x=some .cell∨X.env.kindOf x=some .free)->∃c,X.env.cells.lookup x=some c
 cab:∀x c,X.fn x=true->X.env.cells.lookup x=some c->X.s_0.heap.objs.size<=c
 hd:X.calm=true->X.A.handled=none
 frames:X.A.frames=some X.stack
 stk:X.stack=X.outer∨(X.stack=X.env::X.outer/\X.env.frame=some X.env.locals)
 exf:∀b∈X.ex,b≠X.env.locals/\∀x c,X.env.cells.lookup x=some c->c≠b
 bs:∀b o,X.base.get? b=some o->X.s_0.heap.get? b=some o/\X.H_0 b=none
 bsz:X.base.objs.size<=X.s_0.heap.objs.size
 noex:∀b o,X.base.get? b=some o->b∉X.ex
 exfs:∀b∈X.ex,b∉X.fs
 funs:X.s_0.heap.FunFrames X.base X.outer
 frf:∀b∈X.fs,X.H_0 b=none
structure cY(X:Cx)(pins:List (cS×Obj))(U:List (Option V))(H:Hp)(s:cU):Prop where
 ok:X.Ok
 os:s.os=X.s_0.os
 bare:AllBare s.gens
 base:Un X.fs X.ex X.H_0 H X.s_0.heap s.heap
 loc:∃m,s.heap.Ns X.env.locals m/\∀(i:Nat)(x:Str)(v:V),X.N[i]?=some x->U[i]?=some (some v)->JJ X.env.scope x->∃u,dR v u/\Uv X.env s.heap m x u
 cell:∀x c,X.env.cells.lookup x=some c->∃v,s.heap.IsCell c v
 free:H X.env.locals=none
 freeC:∀x c,X.env.cells.lookup x=some c->H c=none
 pin:∀p∈X.pn++pins,s.heap.get? p.1=some p.2/\H p.1=none/\p.1≠X.env.locals/\p.1∉X.fs/\∀v,p.2.data≠.cell v
 hok:gF X.prog X.w H s.heap
 len:U.length=X.N.length
section
variable{X:Cx}{pins:List (cS×Obj)}{U:List (Option V)}{H H':Hp}{s:cU}{h':Heap}
theorem Cx.Ok.nofr(ok:X.Ok)(e:X.base.get? b=some o):b∉X.fs:=λhb=>by
 have:=(ok.funs.mem hb).1;rw[e] at this;cases this
theorem cY.bs(I:cY X pins U H s):∀b o,X.base.get? b=some o->s.heap.get? b=some o/\H b=none:=λb o e=>
 ⟨I.base.keep b o (I.ok.bs b o e).1 (I.ok.bs b o e).2 (I.ok.nofr e) (I.ok.noex b o e),I.base.free b o (I.ok.bs b o e).1 (I.ok.bs b o e).2 (I.ok.noex b o e)⟩
theorem cY.bk(I:cY X pins U H s):∀b o,X.base.get? b=some o->s.heap.get? b=some o:=λb o e=>(I.bs b o e).1
theorem cY.mod(I:cY X pins U H s):Mod X.K X.mg X.base:=I.ok.mod
theorem cY.kIn(I:cY X pins U H s):X.K.In s.heap:=I.ok.mod.kin.keeps I.bk
theorem cY.lt(I:cY X pins U H s):X.env.locals<s.heap.objs.size:=let ⟨_,hn,_⟩:=I.loc;hn.lt
theorem cY.sz(I:cY X pins U H s):X.s_0.heap.objs.size<=s.heap.objs.size:=aA I.ok.above (a9 I.lt)
theorem cY.nofs(I:cY X pins U H s)(h:s.heap.objs.size<=a):a∉X.fs:=λhb=>by
 obtain⟨_,o,ho,_⟩:=I.ok.funs.mem hb;exact absurd (aE (aj ho) (aA I.sz h)) (a0 _)
theorem cY.cne(I:cY X pins U H s):∀x c,X.env.cells.lookup x=some c->c≠X.env.locals:=λx c e z=>by
 obtain⟨v,o,ho,hd⟩:=I.cell x c e;obtain⟨m,⟨o',es,ep,X8,XF,_⟩,_⟩:=I.loc;rw[z,X8] at ho;cases ho;rw[XF] at hd;cases hd
theorem cY.funs(I:cY X pins U H s):s.heap.FunFrames X.base X.outer:=by
 have all:∀(l:List Env),(∀b∈YJ l,b∈X.fs)->X.s_0.heap.FunFrames X.base l->s.heap.FunFrames X.base l:=by
  intro l
  induction l with
  | nil=>intro _ _;trivial
  | cons env r ih=>
   intro hs hl;obtain⟨hk,⟨L,o,hf,hn,ho,hd⟩,hr⟩:=hl;have hL:L∈X.fs:=hs L (by unfold YJ;rw[cb,hf];exact aU);obtain⟨sl,e⟩:=I.base.slot L o ho (I.ok.frf L hL) hL λz=>I.ok.exfs L z hL;exact⟨hk,⟨L,_,hf,hn,e,hd⟩,ih (λb hb=>hs b (by unfold YJ;rw[cb,hf];exact aP _ hb)) hr⟩
 exact all X.outer (λ_ hb=>hb) I.ok.funs
theorem cY.stack(I:cY X pins U H s):s.heap.FunFrames X.base X.stack:=by
 rcases I.ok.stk with e|⟨e,hf⟩
 .rw[e];exact I.funs
 .rw[e];obtain⟨m,hn,_⟩:=I.loc;refine .cons (by rw[I.ok.kind];decide) hf hn ?_ I.funs;exact Heap.get?_none_of_le (aA I.ok.bsz I.ok.above)
theorem cY.stkSub(I:cY X pins U H s):∀b∈YJ X.stack,b∈X.env.locals::X.fs:=λb hb=>by
 rcases I.ok.stk with e|⟨e,hf⟩
 .rw[e] at hb;exact aP _ hb
 .rw[e] at hb;unfold YJ at hb;rw[cb,hf] at hb;exact hb
theorem cY.stkFree(I:cY X pins U H s):∀b∈YJ X.stack,H b=none:=λb hb=>by
 rcases aw.mp (I.stkSub b hb) with e|hb
 .rw[e];exact I.free
 .obtain⟨_,o,ho,_⟩:=I.ok.funs.mem hb;exact I.base.free b o ho (I.ok.frf b hb) λz=>I.ok.exfs b z hb
theorem cY.step{g':Array GenState}{t':Nat}{d':Drawn}{ch:List cS}(I:cY X pins U H s)(Zs:∀b∈ch,(b∈X.ex∨X.s_0.heap.objs.size<=b)/\b≠X.env.locals/\(∀x c,X.env.cells.lookup x=some c->c≠b)/\∀p∈X.pn++pins,p.1≠b)(keep:∀b o,b≠X.env.locals->b∉X.fs->b∉ch->s.heap.get? b=some o->H b=none->h'.get? b=some o)(slot:∀b o,b≠X.env.locals->b∈X.fs->b∉ch->s.heap.get? b=some o->H b=none->∃sl,h'.get? b=some {o with slots:=sl})(free:∀b o,b∉ch->s.heap.get? b=some o->H b=none->H' b=none)(there:∀b o,b∉ch->s.heap.get? b=some o->∃o',h'.get? b=some o')(tups:∀b xs,H b=some (.tup xs)->H' b=some (.tup xs))(frzs:∀b o u,H b=some (.frz o u)->H' b=some (.frz o u))(tbls:∀b ps,H b=some (.tbl ps)->∃more,H' b=some (.tbl (ps++more)))(ns:∀m,s.heap.Ns X.env.locals m->h'.Ns X.env.locals m)(hok:gF X.prog X.w H' h')(hg:AllBare g'):cY X pins U H' {s with heap:=h',gens:=g',drawn:=d',toks:=t'}:=by
 have afq:∀b o,X.s_0.heap.get? b=some o->b≠X.env.locals:=λb o e=>aF (aE (aj e) I.ok.above);have acK:∀b o,X.s_0.heap.get? b=some o->b∉X.ex->b∉ch:=λb o e hx hb=>by
  rcases (Zs b hb).1 with z|z
  .exact hx z
  .exact absurd (aE (aj e) z) (a0 _)
 have cellK:∀x c,X.env.cells.lookup x=some c->∀v,s.heap.IsCell c v->h'.IsCell c v:=λx c e v ⟨o,ho,hd⟩=>by
  have abM:c∉ch:=λz=>(Zs c z).2.2.1 x c e rfl;by_cases hc:c∈X.fs
  .obtain⟨sl,q⟩:=slot c o (I.cne x c e) hc abM ho (I.freeC x c e);exact⟨_,q,hd⟩
  .exact⟨o,keep c o (I.cne x c e) hc abM ho (I.freeC x c e),hd⟩
 refine⟨I.ok,I.os,hg,⟨λb o e n hb hx=>?_,λb o e n hb hx=>?_,λb o e n hx=>?_,λb o e hx=>?_,λb xs e=>tups b xs (I.base.tups b xs e),λb o xs e=>frzs b o xs (I.base.frzs b o xs e),λb ps e=>?_⟩,?_,λx c e=>?_,?_,λx c e=>?_,λp hp=>?_,hok,I.len⟩
 .exact keep b o (afq b o e) hb (acK b o e hx) (I.base.keep b o e n hb hx) (I.base.free b o e n hx)
 .obtain⟨sl,e1⟩:=I.base.slot b o e n hb hx;obtain⟨adr,e2⟩:=slot b _ (afq b o e) hb (acK b o e hx) e1 (I.base.free b o e n hx);exact⟨adr,e2⟩
 .obtain⟨o',e1⟩:=I.base.there b o e hx;exact free b o' (acK b o e hx) e1 (I.base.free b o e n hx)
 .obtain⟨o',e1⟩:=I.base.there b o e hx;exact there b o' (acK b o e hx) e1
 .obtain⟨m1,e1⟩:=I.base.tbls b ps e;obtain⟨m2,e2⟩:=tbls b _ e1;exact⟨m1++m2,by rw[e2,Array.append_assoc]⟩
 .obtain⟨m,hn,hl⟩:=I.loc;refine⟨m,ns m hn,λi x v e1 e2 e3=>?_⟩;obtain⟨u,r,l⟩:=hl i x v e1 e2 e3;refine⟨u,r,?_⟩;rcases l with l|⟨k,c,e,z⟩
  .exact .inl l
  .exact .inr ⟨k,c,e,cellK x c e _ z⟩
 .obtain⟨v,z⟩:=I.cell x c e;exact⟨v,cellK x c e v z⟩
 .obtain⟨m,⟨o,_,_,ho,_⟩,_⟩:=I.loc;exact free _ o (λz=>(Zs _ z).2.1 rfl) ho I.free
 .obtain⟨v,o,ho,hd⟩:=I.cell x c e;exact free c o (λz=>(Zs c z).2.2.1 x c e rfl) ho (I.freeC x c e)
 .obtain⟨e,n,ne,nf,d⟩:=I.pin p hp;have abM:p.1∉ch:=λz=>(Zs p.1 z).2.2.2 p hp rfl;exact⟨keep p.1 p.2 ne nf abM e n,free p.1 p.2 abM e n,ne,nf,d⟩
theorem cY.un{t':Nat}(I:cY X pins U H s)(u:Un X.fs [] H H' s.heap h')(hok:gF X.prog X.w H' h'):cY X pins U H' {s with heap:=h',toks:=t'}:=by
 obtain⟨m,⟨o,es,ep,ho,r⟩,_⟩:=id I.loc;obtain⟨sl,hL⟩:=u.any ho I.free (by simp)
 exact I.step (g':=s.gens) (d':=s.drawn) (ch:=[]) (λ_ z=>nomatch z) (λb o _ hb _ e n=>u.keep b o e n hb (by simp)) (λb o _ hb _ e n=>u.slot b o e n hb (by simp)) (λb o _ e n=>u.free b o e n (by simp)) (λb o _ e=>u.there b o e (by simp)) u.tups u.frzs u.tbls (λm' hm=>by
  obtain⟨o',ads,adt,X8,r'⟩:=hm;rw[ho] at X8;cases X8
  exact⟨_,ads,adt,hL,r'⟩) hok I.bare
theorem cY.call{g':Array GenState}{t':Nat}{d':Drawn}{ch:List cS}(I:cY X pins U H s)(u:Un (YJ X.stack) ch H H' s.heap h')(hok:gF X.prog X.w H' h')(hg:AllBare g')(Zs:∀b∈ch,(b∈X.ex∨X.s_0.heap.objs.size<=b)/\b≠X.env.locals/\(∀x c,X.env.cells.lookup x=some c->c≠b)/\∀p∈X.pn++pins,p.1≠b):cY X pins U H' {s with heap:=h',gens:=g',drawn:=d',toks:=t'}:=by
 obtain⟨m,⟨o,es,ep,ho,r⟩,_⟩:=id I.loc;obtain⟨sl,hL⟩:=u.any ho I.free λz=>(Zs _ z).2.1 rfl
 exact I.step (ch:=ch) Zs (λb o hL hb hc e n=>u.keep b o e n (λz=>(aw.mp (I.stkSub b z)).elim hL hb) hc) (λb o _ _ hc e n=>u.any e n hc) (λb o hc e n=>u.free b o e n hc) (λb o hc e=>u.there b o e hc) u.tups u.frzs u.tbls (λm' hm=>by
  obtain⟨o',ads,adt,X8,r'⟩:=hm;rw[ho] at X8;cases X8
  exact⟨_,ads,adt,hL,r'⟩) hok hg
theorem cY.turned{t':Nat}{it:cS}(I:cY X pins U H s)(k:∀b o,b≠it->s.heap.get? b=some o->h'.get? b=some o)(hn:H it=none)(hL:it≠X.env.locals)(h1:it∈X.ex∨X.s_0.heap.objs.size<=it)(h2:∀x c,X.env.cells.lookup x=some c->c≠it)(h3:∀p∈X.pn++pins,p.1≠it):cY X pins U H {s with heap:=h',toks:=t'}:=by
 have Z5:∀b u,H b=some u->b≠it:=λb u e z=>by rw[z,hn] at e;cases e
 refine I.step (g':=s.gens) (d':=s.drawn) (ch:=[it]) (λb hb=>?_) (λb o _ _ hc e _=>k b o (λz=>hc (by simp[z])) e) (λb o _ _ hc e _=>⟨o.slots,k b o (λz=>hc (by simp[z])) e⟩) (λ_ _ _ _ n=>n)
  (λb o hc e=>⟨o,k b o (λz=>hc (by simp[z])) e⟩) (λ_ _ e=>e) (λ_ _ _ e=>e) (λb ps e=>⟨#[],by rw[e];simp⟩) (λm hm=>?_) (λb u e=>?_) I.bare
 .have e:b=it:=by simpa using hb
  subst e;exact⟨h1,hL,h2,h3⟩
 .obtain⟨o,es,ep,ho,r⟩:=hm;exact⟨o,es,ep,k _ o (Ne.symm hL) ho,r⟩
 .refine(I.hok b u e).stay (λc v hc q=>k c v ?_ q) (λ_ q=>q) λ_ _ q=>q;rcases hc with z|z
  .rw[z];exact Z5 b u e
  .exact Z5 c _ z
theorem cY.tok(I:cY X pins U H s)(t:Nat):cY X pins U H {s with toks:=t}:=I.un (h':=s.heap) (t':=t) Un.refl I.hok
theorem cY.kept(I:cY X pins U H s)(k:∀b u,s.heap.get? b=some u->h'.get? b=some u):cY X pins U H {s with heap:=h',toks:=t'}:=I.un (Un.kept k) (I.hok.kept k)
theorem cY.laid(I:cY X pins U H s)(k:∀b u,s.heap.get? b=some u->h'.get? b=some u)(hp:s.heap.objs.size<=a)(new:eR X.prog X.w (upd H a o) h' a o):cY X pins U (upd H a o) {s with heap:=h',toks:=t'}:=I.un (Un.laid k hp (I.hok.fresh hp)) (I.hok.laid k hp new)
theorem cY.write(I:cY X pins U H s)(mu:Mn (H x))(he:e=x∨H e=some (.own x))(k:∀b u,b≠e->s.heap.get? b=some u->h'.get? b=some u)(aa0:∃u,h'.get? e=some u)(new:eR X.prog X.w (upd H x o) h' x o):cY X pins U (upd H x o) {s with heap:=h',toks:=t'}:=I.un (Un.write mu he k aa0) (I.hok.write mu he k aa0 new)
theorem cY.weak(I:cY X pins U H s)(hl:U'.length=U.length)(w:∀(i:Nat) v,U'[i]?=some (some v)->U[i]?=some (some v)):cY X pins U' H s:=
 ⟨I.ok,I.os,I.bare,I.base,let ⟨m,hn,XY⟩:=I.loc;⟨m,hn,λi x v e1 e2 e3=>XY i x v e1 (w i v e2) e3⟩,I.cell,I.free,I.freeC,I.pin,I.hok,hl.trans I.len⟩
theorem cY.pins_of(I:cY X pins U H s)(h:∀p∈XS,s.heap.get? p.1=some p.2/\H p.1=none/\p.1≠X.env.locals/\p.1∉X.fs/\∀v,p.2.data≠.cell v):cY X XS U H s:=
 ⟨I.ok,I.os,I.bare,I.base,I.loc,I.cell,I.free,I.freeC,λp hp=>(bq.mp hp).elim (λz=>I.pin p (cf _ z)) (h p),I.hok,I.len⟩
theorem zL{N:List Str}(hN:N.Nodup){i j:Nat}{x:Str}(a:N[i]?=some x)(b:N[j]?=some x):i=j:=by
 obtain⟨h1,e1⟩:=ax.mp a;obtain⟨h2,e2⟩:=ax.mp b;exact(List.getElem_inj hN).mp (e1.trans e2.symm)
theorem DR{M:Model}{A:Around}{E:Value->cU->Prop}{i:Nat}{x:Str}{v:V}{u:Value}{Q:Unit->cU->Prop}(I:cY X pins U H s)(hN:X.N.Nodup)(hi:X.N[i]?=some x)(hx:Az X.env.scope x)(r:dR v u)(h:∀s',cY X pins (U.set i (some v)) H s'->(∃a,Heap.SameBut a s.heap s'.heap/\(a=X.env.locals∨X.env.cells.lookup x=some a))->Q () s')(hf:X.fn x=true∨X.env.scope.names.lookup x=some .local :=by first|exact .inl rfl|exact .inr rfl|assumption):wpAny M A (storeName X.env x u) Q E s:=by
 obtain⟨m,hn,hl⟩:=id I.loc;have agv:(X.env.scope.kind == .class||(X.env.scope.kind == .module&&X.env.locals != X.env.globals))=false:=by rw[I.ok.kind];rfl
 have afr:i<U.length:=by rw[I.len];exact(ax.mp hi).1
 have Z4:=I.cne;have tracked:∀{a:cS} {h':Heap},(∃o,s.heap.get? a=some o/\H a=none)->Heap.SameBut a s.heap h'->gF X.prog X.w H h':=λ{a h'} ha hs b ob e=>by
  obtain⟨_,_,Zq⟩:=ha;refine(I.hok b ob e).stay (λc w' hc q=>(hs.2 c ?_).trans q) (λ_ q=>q) λ_ _ q=>q;rintro rfl;rcases hc with rfl|hc
  .rw[Zq] at e;cases e
  .rw[Zq] at hc;cases hc
 rcases hx with hk|hk
 .refine wpAny_storeName_local hk hn (λh' Zg hs=>?_) agv;obtain⟨oL,_,_,aaA,_⟩:=id hn;refine h _ ⟨I.ok,I.os,I.bare,⟨λb o e n hb hx=>?_,λb o e n hb hx=>?_,I.base.free,λb o e hx=>?_,I.base.tups,I.base.frzs,I.base.tbls⟩,⟨_,Zg,λj y v' e1 e2 e3=>?_⟩,λy c e=>?_,I.free,I.freeC,λp hp=>?_,tracked ⟨oL,aaA,I.free⟩ hs,by simpa using I.len⟩ ⟨_,hs,.inl rfl⟩
  .exact(hs.2 b (aF (aE (aj e) I.ok.above))).trans (I.base.keep b o e n hb hx)
  .obtain⟨sl,e1⟩:=I.base.slot b o e n hb hx;exact⟨sl,(hs.2 b (aF (aE (aj e) I.ok.above))).trans e1⟩
  .obtain⟨o',e1⟩:=I.base.there b o e hx;exact⟨o',(hs.2 b (aF (aE (aj e) I.ok.above))).trans e1⟩
  .by_cases hj:j=i
   .subst hj;rw[hi] at e1;cases e1;rw[cz afr] at e2;cases e2;exact⟨u,r,.inl ⟨hk,by simp⟩⟩
   .rw[List.getElem?_set_ne (Ne.symm hj)] at e2;obtain⟨u',r',q⟩:=hl j y v' e1 e2 e3;refine⟨u',r',?_⟩;rcases q with ⟨k,e⟩|⟨k,c,e,z⟩
    .refine .inl ⟨k,?_⟩;have:y≠x:=λe=>hj (zL hN e1 (e▸hi));simp[this,e]
    .exact .inr ⟨k,c,e,z.sameBut hs (Z4 y c e)⟩
  .obtain⟨w',z⟩:=I.cell y c e;exact⟨w',z.sameBut hs (Z4 y c e)⟩
  .obtain⟨e,n,ne,nf,d⟩:=I.pin p hp;exact⟨(hs.2 p.1 ne).trans e,n,ne,nf,d⟩
 .have adu:X.fn x=true:=by
   rcases hf with z|z
   .exact z
   .rw[z] at hk;cases hk
  obtain⟨c,hc⟩:=I.ok.has x (.inl hk);obtain⟨w',z⟩:=I.cell x c hc;refine wpAny_storeName_cell I.ok.kind hk hc z (λh' XZ hs=>?_);obtain⟨oc,afs,agw⟩:=id z;refine h {s with heap:=h'} ⟨I.ok,I.os,I.bare,⟨λb o e n hb hx=>?_,λb o e n hb hx=>?_,I.base.free,λb o e hx=>?_,I.base.tups,I.base.frzs,I.base.tbls⟩,⟨m,hn.sameBut hs (Ne.symm (Z4 x c hc)),λj y v' e1 e2 e3=>?_⟩,λy c' e=>?_,I.free,I.freeC,λp hp=>?_,tracked ⟨oc,afs,I.freeC x c hc⟩ hs,by simpa using I.len⟩ ⟨c,hs,.inr hc⟩
  .exact(hs.2 b (aF (aE (aj e) (I.ok.cab x c adu hc)))).trans (I.base.keep b o e n hb hx)
  .obtain⟨sl,e1⟩:=I.base.slot b o e n hb hx;exact⟨sl,(hs.2 b (aF (aE (aj e) (I.ok.cab x c adu hc)))).trans e1⟩
  .obtain⟨o',e1⟩:=I.base.there b o e hx;exact⟨o',(hs.2 b (aF (aE (aj e) (I.ok.cab x c adu hc)))).trans e1⟩
  .by_cases hj:j=i
   .subst hj;rw[hi] at e1;cases e1;rw[cz afr] at e2;cases e2;exact⟨u,r,.inr ⟨.inl hk,c,hc,XZ⟩⟩
   .rw[List.getElem?_set_ne (Ne.symm hj)] at e2;obtain⟨u',r',q⟩:=hl j y v' e1 e2 e3;refine⟨u',r',?_⟩;rcases q with q|⟨k,c',e,z'⟩
    .exact .inl q
    .refine .inr ⟨k,c',e,z'.sameBut hs ?_⟩;rintro rfl;exact hj (zL hN e1 (I.ok.inj _ _ _ e hc▸hi))
  .by_cases aft:c'=c
   .subst aft;exact⟨_,XZ⟩
   .obtain⟨w2,z2⟩:=I.cell y c' e;exact⟨w2,z2.sameBut hs aft⟩
  .obtain⟨e,n,ne,nf,d⟩:=I.pin p hp;refine⟨(hs.2 p.1 ?_).trans e,n,ne,nf,d⟩;intro q;rw[q,afs] at e;have q':oc=p.2:=aH e;exact d w' (by rw[←q'];exact agw)
theorem pG(I:cY X pins U H s)(hN:X.N.Nodup)(hi:X.N[i]?=some x)(hx:Az X.env.scope x)(r:dR v u)(h:∀s',cY X pins (U.set i (some v)) H s'->Q () s')(hf:X.fn x=true∨X.env.scope.names.lookup x=some .local :=by first|exact .inl rfl|exact .inr rfl|assumption):wpAny M A (storeName X.env x u) Q E s:=
 DR I hN hi hx r (λs' I' _=>h s' I') hf
theorem cY.call'(I:cY X pins U H s)(ho:s'.os=s.os)(u:Un (YJ X.stack) ch H H' s.heap s'.heap)(hok:gF X.prog X.w H' s'.heap)(hg:AllBare s'.gens)(Zs:∀b∈ch,(b∈X.ex∨X.s_0.heap.objs.size<=b)/\b≠X.env.locals/\(∀x c,X.env.cells.lookup x=some c->c≠b)/\∀p∈X.pn++pins,p.1≠b):cY X pins U H' s':=by
 obtain⟨h',g',d',t',o'⟩:=s';have e:o'=s.os:=ho;subst e;exact I.call (g':=g') (t':=t') (d':=d') u hok hg Zs
end
abbrev XK:=Value->Option cS->Hp->Prop
abbrev St:=List (Option V)
abbrev VK:=V->Hp->Prop
abbrev TE:=St->Hp->VK->Prop
abbrev TT:=St->Hp->(Bool->Hp->Prop)->Prop
abbrev TA:=St->Hp->(List V->Hp->Prop)->Prop
structure mK where
 nx:St->Hp->Prop
 rt:VK
 bk:St->Hp->Prop:=λ_ _=>False
 ct:St->Hp->Prop:=λ_ _=>False
abbrev TS:=mK->St->Hp->Prop
def EP(X:Cx)(pins:List (cS×Obj))(U:St)(Q:VK)(u:Value)(s':cU):Prop:=∃v H',cY X pins U H' s'/\dR v u/\Q v H'
def TP(X:Cx)(pins:List (cS×Obj))(U:St)(Q:Bool->Hp->Prop)(b:Bool)(s':cU):Prop:=∃H',cY X pins U H' s'/\Q b H'
def AP(X:Cx)(pins:List (cS×Obj))(U:St)(Q:List V->Hp->Prop)(us:List Value)(s':cU):Prop:=∃vs H',cY X pins U H' s'/\dM vs us/\Q vs H'
def SP(X:Cx)(pins:List (cS×Obj))(D:mK)(f:Flow)(s':cU):Prop:=
 match f with
 | .next=>∃U' H',cY X pins U' H' s'/\D.nx U' H'
 | .brk=>∃U' H',cY X pins U' H' s'/\D.bk U' H'
 | .cont=>∃U' H',cY X pins U' H' s'/\D.ct U' H'
 | .ret u=>∃v U' H',cY X pins U' H' s'/\dR v u/\D.rt v H'
namespace Z
@[scoped irreducible]def _root_.L2.PE(X:Cx)(e:Expr)(t:TE):Prop:=
 ∀(pins:List (cS×Obj))(s:cU)(U:St)(H:Hp)(Q:VK),cY X pins U H s->t U H Q->wpAny (model X.prog X.w) X.A (eval e X.env) (EP X pins U Q) X.xe s
@[scoped irreducible]def _root_.L2.PT(X:Cx)(e:Expr)(t:TT):Prop:=
 ∀(pins:List (cS×Obj))(s:cU)(U:St)(H:Hp)(Q:Bool->Hp->Prop),cY X pins U H s->t U H Q->wpAny (model X.prog X.w) X.A (isTrue e X.env (eval e X.env)) (TP X pins U Q) X.xe s
@[scoped irreducible]def _root_.L2.PW(X:Cx)(e:Expr)(t:TT):Prop:=
 ∀(whole:Sem Value)(pins:List (cS×Obj))(s:cU)(U:St)(H:Hp)(Q:Bool->Hp->Prop),cY X pins U H s->t U H Q->wpAny (model X.prog X.w) X.A (isTrue e X.env whole) (TP X pins U Q) X.xe s
end Z
theorem PW.pt(h:PW X e t):PT X e t:=h _
namespace Z
@[scoped irreducible]def _root_.L2.PA(X:Cx)(es:List Expr)(t:TA):Prop:=
 ∀(pos:Pos)(pins:List (cS×Obj))(s:cU)(U:St)(H:Hp)(Q:List V->Hp->Prop),cY X pins U H s->t U H Q->wpAny (model X.prog X.w) X.A (spliced (backTo pos (starEach es X.env))) (AP X pins U Q) X.xe s
@[scoped irreducible]def _root_.L2.PS(X:Cx)(st:Stmt)(t:TS):Prop:=
 ∀(pins:List (cS×Obj))(s:cU)(U:St)(H:Hp)(D:mK),cY X pins U H s->t D U H->wpAny (model X.prog X.w) X.A (exec st X.env) (SP X pins D) X.xe s
@[scoped irreducible]def _root_.L2.kK(X:Cx)(st:List Stmt)(t:TS):Prop:=
 ∀(pins:List (cS×Obj))(s:cU)(U:St)(H:Hp)(D:mK),cY X pins U H s->t D U H->wpAny (model X.prog X.w) X.A (execs st X.env) (SP X pins D) X.xe s
end Z
theorem dJ(h:wpAny M A t Q E s)(hQ:∀a s,Q a s->Q' a s):wpAny M A t Q' E s:=aK h hQ λ_ _ x=>x
section
variable{X:Cx}
def gD(i:Nat):TE:=λU H Q=>∃v,U[i]?=some (some v)/\Q v H
def tC(v:V):TE:=λ_ H Q=>Q v H
theorem Rl(hN:X.N[i]?=some x)(hv:JJ X.env.scope x)(hd:(x==("__debug__":Str))=false:=by decide)(YU:(x==("__classdict__":Str))=false:=by decide):PE X (.Name x pos) (gD i):=by
 intro pins s U H Q I h;obtain⟨v,e,h⟩:=h;obtain⟨m,hn,hl⟩:=I.loc;obtain⟨u,r,l⟩:=hl i x v hN e hv;have fin:EP X pins U Q u s:=⟨v,H,I,r,h⟩;rcases l with ⟨hk,hm⟩|⟨hk,c,hc,aaq⟩
 .exact wpAny_Name (wpAny_loadName_local I.ok.kind hk hn hm fin) hd
 .rcases hk with hk|hk
  .exact wpAny_Name (wpAny_loadName_cell I.ok.kind hk hc aaq fin) hd
  .exact wpAny_Name (wpAny_loadName_free I.ok.kind hk hc aaq fin YU) hd
theorem cr{i j pos}:PE X (.Constant (.int i) j pos) (tC (.int i)):=λ_ _ _ H _ I h=>wpAny_Constant_int ⟨.int i,H,I.tok _,⟨_,rfl⟩,h⟩
theorem xX{b j pos}:PE X (.Constant (.bool b) j pos) (tC (.bl b)):=λ_ _ _ H _ I h=>Constant_bool ⟨.bl b,H,I,rfl,h⟩
theorem wc{j pos}:PE X (.Constant .none j pos) (tC .non):=λ_ _ _ H _ I h=>Constant_none ⟨.non,H,I,rfl,h⟩
theorem dO{x j pos}:PE X (.Constant (.str x) j pos) (tC (.str x)):=λ_ _ _ H _ I h=>Calls.Constant_str ⟨.str x,H,I.tok _,⟨_,rfl⟩,h⟩
def Gl(X:Cx)(x:Str):Prop:=X.env.kindOf x=some .globalImplicit
theorem jP(I:cY X pins U H s)(hg:Gl X x)(hm:X.mg x=some u)(h:Q u s)(hd:(x==("__debug__":Str))=false:=by decide):wpAny (model X.prog X.w) X.A (eval (.Name x pos) X.env) Q E s:=
 Calls.Name_function_global I.ok.kind hg (Calls.loadGlobal_global (by rw[I.ok.glob];exact I.mod.glob.keeps I.bk) hm h) hd
theorem kL(I:cY X pins U H s)(hg:Gl X x)(hm:X.mg x=none)(hv:bootBuiltins x=some u)(h:Q u s)(hn:x≠"__name__":=by decide)(hd:(x==("__debug__":Str))=false:=by decide):wpAny (model X.prog X.w) X.A (eval (.Name x pos) X.env) Q E s:=by
 obtain⟨mb,h1,h2⟩:=I.mod.blt;exact Calls.Name_function_global I.ok.kind hg (Calls.loadGlobal_builtin (by rw[I.ok.glob];exact I.mod.glob.keeps I.bk) hm (by rw[I.ok.blt];exact h1.keeps I.bk) ((h2 x hn).trans hv) h) hd
theorem sX(hg:Gl X x)(hm:X.mg x=some u)(r:dR v u)(hd:(x==("__debug__":Str))=false:=by decide):PE X (.Name x pos) (tC v):=
 λ_ _ _ H _ I h=>jP I hg hm ⟨v,H,I,r,h⟩ hd
variable{a b:Expr}{ta tb:TE}{pos:Pos}
namespace Z
@[scoped irreducible]def _root_.L2.PC(X:Cx)(op:CmpOp)(a b:Expr)(t:TE):Prop:=
 ∀(pins:List (cS×Obj))(s:cU)(U:St)(H:Hp)(Q:VK),cY X pins U H s->t U H Q->
  wpAny (model X.prog X.w) X.A (eval a X.env) (λv s₁=>wpAny (model X.prog X.w) X.A (eval b X.env) (λu s₂=>wpAny (model X.prog X.w) X.A (compareOp op v u) (EP X pins U Q) X.xe s₂) X.xe s₁) X.xe s
end Z
theorem N3(b:Expr)(h:op≠.In)(h2:op≠.NotIn):behindInMarks op b=false:=by
 have e1:(op==CmpOp.In)=false:=by cases op<;>first|rfl|exact absurd rfl h
 have e2:(op==CmpOp.NotIn)=false:=by cases op<;>first|rfl|exact absurd rfl h2
 cases b with|Set elts k p=>(show(k==0&&(op == .In||op == .NotIn)&&elts.all (constantsAlone 8))=false;rw[e1,e2,Bool.or_false,Bool.and_false,Bool.false_and])|_=>rfl
def Rm(ta:TE):TE:=λU H Q=>ta U H λx H1=>Q (.bl (decide (x=.non))) H1
theorem dR.none_iff(r:dR x v):(v==Value.none)=decide (x=.non):=by
 cases x with
 | non=>cases r;rfl
 | bl _=>cases r;rfl
 | int _=>obtain⟨t,rfl⟩:=r;rfl
 | str _=>obtain⟨t,rfl⟩:=r;rfl
 | byt _=>obtain⟨t,rfl⟩:=r;rfl
 | flt _=>obtain⟨t,rfl⟩:=r;rfl
 | ref _=>cases r;rfl
 | ty _=>cases r;rfl
theorem F0{j pos'}(ha:PE X a ta):PC X .Is a (.Constant .none j pos') (Rm ta):=by
 intro pins s U H Q I h;refine dJ (ha pins s U H _ I h) λv s1 hO=>?_;obtain⟨x,H1,I1,r1,q1⟩:=hO;exact Constant_none (is_none_gen ⟨.bl _,H1,I1,by rw[r1.none_iff];rfl,q1⟩)
def tB(t:TE):TT:=λU H Q=>t U H λx H1=>∃c,x=.bl c/\Q c H1
theorem we(h:PC X op a b t)(h1:behindInMarks op b=false:=by first|exact N3 _ (by decide) (by decide)|rfl):PT X (.Compare a [op] [b] pos) (tB t):=by
 intro pins s U H Q I hw;refine wpAny_isTrue_Compare1 (dJ (h pins s U H _ I hw) λv s1 h1=>dJ h1 λu s2 h2=>dJ h2 λc s3 ⟨x,H1,I1,r1,q1⟩=>?_) h1;obtain⟨d,rfl,q⟩:=q1;cases r1;exact wpAny_truthy_bool ⟨H1,I1,q⟩
theorem gm(h:PE X e t)(he:∀whole,isTrue e X.env whole=(do let v ←whole;standAt e.pos;holding [v] (truthy v)):=by intro _;rfl):PT X e (tB t):=by
 intro pins s U H Q I hw;refine isTrue_plain (dJ (h pins s U H _ I hw) λv s1 ⟨x,H1,I1,r1,q1⟩=>?_) (he _);obtain⟨d,rfl,q⟩:=q1;cases r1;exact wpAny_truthy_bool ⟨H1,I1,q⟩
variable{tA ZD:TT}{rest:List Expr}
def Rn(t u:TT):TT:=λU H Q=>t U H λc H1=>if c=true then u U H1 Q else Q false H1
def Ud(t u:TT):TT:=λU H Q=>t U H λc H1=>if c=true then Q true H1 else u U H1 Q
def Ro(t:TT):TT:=λU H Q=>t U H λc H1=>Q (!c) H1
theorem lM(ha:PT X a tA):PW X (.BoolOp .And [a] pos) tA:=by
 intro wh pins s U H Q I h;refine isTrue_and (dJ (ha pins s U H Q I h) λc s1 e=>?_);cases c with
 | true=>exact isTrue_and_nil e
 | false=>exact e
theorem jM(ha:PT X a tA):PW X (.BoolOp .Or [a] pos) tA:=by
 intro wh pins s U H Q I h;refine isTrue_or (dJ (ha pins s U H Q I h) λc s1 e=>?_);cases c with
 | false=>exact isTrue_or_nil e
 | true=>exact e
theorem l8(ha:PT X a tA)(hb:PW X (.BoolOp .And (b::rest) pos) ZD):PW X (.BoolOp .And (a::b::rest) pos) (Rn tA ZD):=by
 intro wh pins s U H Q I h;refine isTrue_and (dJ (ha pins s U H _ I h) λc s1 ⟨H1,I1,q1⟩=>?_);cases c with
 | true=>exact hb wh pins s1 U H1 Q I1 q1
 | false=>exact⟨H1,I1,q1⟩
theorem lc(ha:PT X a tA)(hb:PW X (.BoolOp .Or (b::rest) pos) ZD):PW X (.BoolOp .Or (a::b::rest) pos) (Ud tA ZD):=by
 intro wh pins s U H Q I h;refine isTrue_or (dJ (ha pins s U H _ I h) λc s1 ⟨H1,I1,q1⟩=>?_);cases c with
 | true=>exact⟨H1,I1,q1⟩
 | false=>exact hb wh pins s1 U H1 Q I1 q1
theorem j6(ha:PT X a tA):PT X (.UnaryOp .Not a pos) (Ro tA):=by
 intro pins s U H Q I h;exact isTrue_not (ha pins s U H (λc H1=>Q (!c) H1) I h)
def Ph(ta tb:TE):TE:=λU H Q=>ta U H λx H1=>∃c,x=.bl c/\if c=true then tb U H1 Q else Q (.bl false) H1
def KB(ta tb:TE):TE:=λU H Q=>ta U H λx H1=>∃c,x=.bl c/\if c=true then Q (.bl true) H1 else tb U H1 Q
def Pi(ta:TE):TE:=λU H Q=>ta U H λx H1=>∃c,x=.bl c/\Q (.bl (!c)) H1
theorem pH{op}(h:PE X a t):PE X (.BoolOp op [a] pos) t:=λpins s U H Q I hw=>BoolOp_one (h pins s U H Q I hw)
theorem Mp(ha:PE X a ta)(hb:PE X (.BoolOp .And (b::rest) pos) tb):PE X (.BoolOp .And (a::b::rest) pos) (Ph ta tb):=by
 intro pins s U H Q I h;refine BoolOp_and (dJ (ha pins s U H _ I h) λv s1 ⟨x,H1,I1,r1,q1⟩=>?_);obtain⟨c,rfl,q1⟩:=q1;cases r1;refine wpAny_truthy_bool ?_;cases c with
 | true=>exact hb pins s1 U H1 Q I1 q1
 | false=>exact⟨.bl false,H1,I1,rfl,q1⟩
theorem qI(ha:PE X a ta)(hb:PE X (.BoolOp .Or (b::rest) pos) tb):PE X (.BoolOp .Or (a::b::rest) pos) (KB ta tb):=by
 intro pins s U H Q I h;refine BoolOp_or (dJ (ha pins s U H _ I h) λv s1 ⟨x,H1,I1,r1,q1⟩=>?_);obtain⟨c,rfl,q1⟩:=q1;cases r1;refine wpAny_truthy_bool ?_;cases c with
 | false=>exact hb pins s1 U H1 Q I1 q1
 | true=>exact⟨.bl true,H1,I1,rfl,q1⟩
theorem Rp(ha:PE X a ta):PE X (.UnaryOp .Not a pos) (Pi ta):=by
 intro pins s U H Q I h;refine UnaryOp_ (dJ (ha pins s U H _ I h) λv s1 ⟨x,H1,I1,r1,q1⟩=>?_);obtain⟨c,rfl,q1⟩:=q1;cases r1;exact not_of (wpAny_truthy_bool ⟨.bl (!c),H1,I1,rfl,q1⟩)
def Ue(t:TT)(ta tb:TE):TE:=λU H Q=>t U H λc H1=>if c=true then ta U H1 Q else tb U H1 Q
theorem ut(hc:PT X c tA)(ha:PE X a ta)(hb:PE X b tb):PE X (.IfExp c a b pos) (Ue tA ta tb):=by
 intro pins s U H Q I h;refine wpAny_IfExp (dJ (hc pins s U H _ I h) λd s1 ⟨H1,I1,q1⟩=>?_);cases d with
 | true=>exact ha pins s1 U H1 Q I1 q1
 | false=>exact hb pins s1 U H1 Q I1 q1
end
def dU(K:cV)(H:Hp)(a:cS)(xs:List V):Prop:=
 Rd H a (.lst xs)∨
  ∃(o:Obj)(Xa:Array Value)(n:Nat),K.lookup a=some o/\o.cls=.type "list"/\o.dict=none/\o.data=.seq Xa n/\Xa.size<=sizeLine/\dM xs Xa.toList
def jk(K:cV)(H:Hp)(a:cS)(xs:List V):Prop:=
 Rd H a (.tup xs)∨
  ∃(o:Obj)(Xa:Array Value)(n:Nat),K.lookup a=some o/\o.cls=.type "tuple"/\o.data=.seq Xa n/\Xa.size<=sizeLine/\dM xs Xa.toList
noncomputable def Uw:Value->Option V
 | .none=>some .non
 | .bool b=>some (.bl b)
 | .int i _=>some (.int i)
 | .str x _=>some (.str x)
 | .bytes b _=>some (.byt b)
 | .float b _=>some (.flt b)
 | .ref a=>some (.ref a)
 | .type n=>some (.ty n)
 | _=>none
theorem dR.abs(r:dR x u):Uw u=some x:=by
 cases x with
 | non=>cases r;rfl
 | bl _=>cases r;rfl
 | int _=>obtain⟨t,rfl⟩:=r;rfl
 | str _=>obtain⟨t,rfl⟩:=r;rfl
 | byt _=>obtain⟨t,rfl⟩:=r;rfl
 | flt _=>obtain⟨t,rfl⟩:=r;rfl
 | ref _=>cases r;rfl
 | ty _=>cases r;rfl
theorem dR.inj(r:dR x u)(q:dR y u):x=y:=aH (r.abs.symm.trans q.abs)
theorem dM.inj:∀{xs ys:List V} {us:List Value},dM xs us->dM ys us->xs=ys
 | _,_,_,.nil,.nil=>rfl
 | _,_,_,.cons r t,.cons r' t'=>by rw[r.inj r',dM.inj t t']
section
variable{X:Cx}{pins:List (cS×Obj)}{U:St}{H:Hp}{s:cU}{a:cS}{xs ys:List V}
theorem dU.of{K:cV}(h:H a=some (.lst xs)):dU K H a xs:=.inl (.inl h)
theorem cY.list(I:cY X pins U H s)(h:dU X.K H a xs):∃Xa:List Value,dM xs Xa/\PlainL s.heap a Xa.toArray/\xs.length<=sizeLine:=by
 rcases h with h|⟨o,Xa,n,hk,hc,hd,hs,hz,r⟩
 .obtain⟨z,Xa,n,r,e⟩:=h.ok I.hok;exact⟨Xa,r,⟨_,n,e,rfl,rfl,rfl⟩,z⟩
 .refine⟨Xa.toList,r,⟨o,n,I.kIn a o hk,hc,hd,by simpa using hs⟩,?_⟩;have e:=r.length;simp only[cg] at e
  lia
theorem cY.tuple(I:cY X pins U H s)(h:jk X.K H a xs):∃Xa:List Value,dM xs Xa/\IsTup s.heap a Xa.toArray/\xs.length<=sizeLine:=by
 rcases h with h|⟨o,Xa,n,hk,hc,hs,hz,r⟩
 .obtain⟨z,Xa,r,p⟩:=h.ok I.hok;exact⟨Xa,r,p,z⟩
 .refine⟨Xa.toList,r,⟨o,I.kIn a o hk,hc,n,by simpa using hs⟩,?_⟩;have e:=r.length;simp only[cg] at e
  lia
theorem cY.list_inj(I:cY X pins U H s)(h:dU X.K H a xs)(h':dU X.K H a ys):xs=ys:=by
 obtain⟨Xa,r,⟨o,n,e,_,_,d⟩,_⟩:=I.list h;obtain⟨its',r',⟨o',n',e',_,_,d'⟩,_⟩:=I.list h';rw[e] at e';cases e';rw[d] at d';injection d' with d1 _;have:Xa=its':=by simpa using au Array.toList d1
 subst this;exact r.inj r'
theorem cY.tuple_inj(I:cY X pins U H s)(h:jk X.K H a xs)(h':jk X.K H a ys):xs=ys:=by
 obtain⟨Xa,r,⟨o,e,_,n,d⟩,_⟩:=I.tuple h;obtain⟨its',r',⟨o',e',_,n',d'⟩,_⟩:=I.tuple h';rw[e] at e';cases e';rw[d] at d';injection d' with d1 _;have:Xa=its':=by simpa using au Array.toList d1
 subst this;exact r.inj r'
end
abbrev Cx.wish(X:Cx)(E:Value->cU->Prop):Cx:={X with xe:=E}
abbrev Cx.nox(X:Cx):Cx:=X.wish λ_ _=>False
theorem Cx.Ok.wish{X:Cx}(ok:X.Ok)(E:Value->cU->Prop):(X.wish E).Ok:=
 ⟨ok.mod,ok.kind,ok.glob,ok.blt,ok.above,ok.inj,ok.has,ok.cab,ok.hd,ok.frames,ok.stk,ok.exf,ok.bs,ok.bsz,ok.noex,ok.exfs,ok.funs,ok.frf⟩
theorem Cx.Ok.unwish{X:Cx}{E:Value->cU->Prop}(ok:(X.wish E).Ok):X.Ok:=
 ⟨ok.mod,ok.kind,ok.glob,ok.blt,ok.above,ok.inj,ok.has,ok.cab,ok.hd,ok.frames,ok.stk,ok.exf,ok.bs,ok.bsz,ok.noex,ok.exfs,ok.funs,ok.frf⟩
section
variable{X:Cx}{pins:List (cS×Obj)}{U:St}{H:Hp}{s:cU}{E:Value->cU->Prop}
theorem cY.wish(I:cY X pins U H s)(E:Value->cU->Prop):cY (X.wish E) pins U H s:=⟨I.ok.wish E,I.os,I.bare,I.base,I.loc,I.cell,I.free,I.freeC,I.pin,I.hok,I.len⟩
theorem cY.unwish(I:cY (X.wish E) pins U H s):cY X pins U H s:=⟨I.ok.unwish,I.os,I.bare,I.base,I.loc,I.cell,I.free,I.freeC,I.pin,I.hok,I.len⟩
theorem SP.unwish(h:SP (X.wish E) pins D f s'):SP X pins D f s':=by
 cases f with
 | next=>obtain⟨U',H',I,q⟩:=h;exact⟨U',H',I.unwish,q⟩
 | brk=>obtain⟨U',H',I,q⟩:=h;exact⟨U',H',I.unwish,q⟩
 | cont=>obtain⟨U',H',I,q⟩:=h;exact⟨U',H',I.unwish,q⟩
 | ret u=>obtain⟨v,U',H',I,r,q⟩:=h;exact⟨v,U',H',I.unwish,r,q⟩
theorem kK.nox{st:List Stmt}{t:TS}(h:kK X.nox st t):kK X st t:=λpins s U H D I hw=>
 aK (h pins s U H D (I.wish _) hw) (λ_ _ q=>q.unwish) λ_ _ z=>False.elim z
end
section
variable{X:Cx}{st:Stmt}{rest:List Stmt}{t u:TS}{e:Expr}{te:TE}{pos:Pos}
def FP:TS:=λD U H=>D.nx U H
def zM(t u:TS):TS:=λD U H=>t {D with nx:=u D} U H
theorem cZ:kK X [] FP:=λ_ _ U H _ I h=>wpAny_execs_nil ⟨U,H,I,h⟩
theorem ad(h1:PS X st t)(h2:kK X rest u):kK X (st::rest) (zM t u):=by
 intro pins s U H D I h;refine wpAny_execs_cons (dJ (h1 pins s U H {D with nx:=u D} I h) λf s1 q=>?_);cases f with
 | next=>
  obtain⟨U',H',I',q⟩:=q;exact h2 pins s1 U' H' D I' q
 | ret v=>exact q
 | brk=>exact q
 | cont=>exact q
theorem am(h1:PS X st t):kK X [st] t:=by
 intro pins s U H D I h;refine wpAny_execs_cons (dJ (h1 pins s U H D I h) λf s1 q=>?_);cases f with
 | next=>exact wpAny_execs_nil q
 | ret v=>exact q
 | brk=>exact q
 | cont=>exact q
theorem cY.quiet(I:cY X pins U H s):interactive X.env=false:=by simp[interactive,I.ok.kind]
def KC(te:TE):TS:=λD U H=>te U H λ_ H1=>D.nx U H1
theorem dB(he:PE X e te)(hs:swapsWith e none pos.line X.env=pure false:=by rfl):PS X (.Expr e pos) (KC te):=by
 intro pins s U H D I h;exact wpAny_Expr_any (dJ (he pins s U H _ I h) λv s1 ⟨x,H1,I1,r1,q1⟩=>⟨U,H1,I1,q1⟩) I.quiet hs
def wg(te:TE):TS:=λD U H=>te U H D.rt
theorem bi(he:PE X e te):PS X (.Return (some e) pos) (wg te):=by
 intro pins s U H D I h;exact wpAny_Return_some (dJ (he pins s U H _ I h) λv s1 ⟨x,H1,I1,r1,q1⟩=>⟨x,U,H1,I1,r1,q1⟩)
def F1(c:TT)(t u:TS):TS:=λD U H=>c U H λb H1=>if b=true then t D U H1 else u D U H1
theorem de(hc:PT X c tc)(ha:kK X a t)(hb:kK X b u):PS X (.If c a b pos) (F1 tc t u):=by
 intro pins s U H D I h;refine wpAny_If (dJ (hc pins s U H _ I h) λd s1 ⟨H1,I1,q1⟩=>?_);cases d with
 | true=>exact ha pins s1 U H1 D I1 q1
 | false=>exact hb pins s1 U H1 D I1 q1
def Rq:TS:=λ_ _ _=>False
theorem N4:PS X st Rq:=λ_ _ _ _ _ _ h=>h.elim
end
abbrev TG:=V->St->Hp->(St->Hp->Prop)->Prop
abbrev JK:=List V->St->Hp->(St->Hp->Prop)->Prop
namespace Z
@[scoped irreducible]def _root_.L2.PG(X:Cx)(target:Expr)(t:TG):Prop:=
 ∀(pins:List (cS×Obj))(s:cU)(U:St)(H:Hp)(v:V)(u:Value)(Q:St->Hp->Prop),cY X pins U H s->dR v u->t v U H Q->
  wpAny (model X.prog X.w) X.A (assign target X.env u) (λ_ s'=>∃U' H',cY X pins U' H' s'/\Q U' H') X.xe s
@[scoped irreducible]def _root_.L2.Mq(X:Cx)(ts:List Expr)(t:JK):Prop:=
 ∀(pins:List (cS×Obj))(s:cU)(U:St)(H:Hp)(vs:List V)(us:List Value)(Q:St->Hp->Prop),cY X pins U H s->dM vs us->t vs U H Q->
  wpAny (model X.prog X.w) X.A (assignInOrder ((assignEach ts X.env).map (·.2)) us) (λ_ s'=>∃U' H',cY X pins U' H' s'/\Q U' H') X.xe s
end Z
abbrev Pj:=V->V->Hp->VK->Prop
def Uf(X:Cx)(op:Operator)(t:Pj):Prop:=
 ∀(pins:List (cS×Obj))(s:cU)(U:St)(H:Hp)(x y:V)(v u:Value)(Q:VK),cY X pins U H s->dR x v->dR y u->t x y H Q->
  wpAny (model X.prog X.w) X.A (inplaceOp op v u) (EP X pins U Q) X.xe s
section
variable{X:Cx}{pos:Pos}
def jU(i:Nat):TG:=λv U H Q=>Q (U.set i (some v)) H
theorem Qe(hN:X.N.Nodup)(hi:X.N[i]?=some x)(hx:Az X.env.scope x)(hf:X.fn x=true∨X.env.scope.names.lookup x=some .local :=by first|exact .inl rfl|exact .inr rfl|assumption):PG X (.Name x pos) (jU i):=by
 intro pins s U H v u Q I r h;exact wpAny_assign_Name (pG I hN hi hx r (λs' I'=>⟨_,H,I',h⟩) hf)
def Rs:JK:=λvs U H Q=>vs=[]/\Q U H
def KD(t:TG)(u:JK):JK:=λvs U H Q=>∃v r,vs=v::r/\t v U H λU' H'=>u r U' H' Q
theorem sY:Mq X [] Rs:=by
 intro pins s U H vs us Q I r h;obtain⟨e,h⟩:=h;subst e;cases r;exact assignInOrder_nil ⟨U,H,I,h⟩
theorem jd(h1:PG X e t)(h2:Mq X es u)(hs:(assignEach (e::es) X.env).map (·.2)=assign e X.env::(assignEach es X.env).map (·.2):=by rfl):Mq X (e::es) (KD t u):=by
 intro pins s U H vs us Q I r h;obtain⟨v,vr,e1,h⟩:=h;subst e1;cases r with
 | cons r rr=>
  rw[hs];refine assignInOrder_cons (dJ (h1 pins s U H _ _ _ I r h) λ_ s1 ⟨U1,H1,I1,q1⟩=>?_);exact h2 pins s1 U1 H1 _ _ Q I1 rr q1
def Rt(K:cV)(n:Nat)(t:JK):TG:=λv U H Q=>∃a xs,v=.ref a/\jk K H a xs/\xs.length=n/\t xs U H Q
theorem wj(hc:X.calm=true)(h:Mq X es t)(hn:(assignEach es X.env).length=n:=by rfl)(Xf:(assignEach es X.env).findIdx? (·.1)=none:=by rfl):PG X (.Tuple es k pos) (Rt X.K n t):=by
 intro pins s U H v u Q I r hw;obtain⟨a,xs,e1,hq,hl,hw⟩:=hw;subst e1;cases r;obtain⟨Xa,rv,ht,hz⟩:=I.tuple hq;refine assign_Tuple_tuple (I.ok.hd hc) ht (by simp[hn,←hl,rv.length]) Xf λh' hx=>?_;have I1:cY X pins U H {s with heap:=h'}:=I.kept (t':=s.toks) λb o e=>hx b o (aF (aj e)) e;exact h pins _ U H xs _ Q I1 (by simpa using rv) hw
def zN(te:TE)(g:TG):TS:=λD U H=>te U H λx H1=>g x U H1 D.nx
theorem AA(hN:X.N.Nodup)(hi:X.N[i]?=some x)(hx:Az X.env.scope x)(he:PE X e te)(hs:swapsWith e (some (.Name x pos')) pos.line X.env=pure false:=by rfl)(hf:X.fn x=true∨X.env.scope.names.lookup x=some .local :=by first|exact .inl rfl|exact .inr rfl|assumption):PS X (.Assign [.Name x pos'] e pos) (zN te (jU i)):=by
 intro pins s U H D I h;refine wpAny_Assign_Name (dJ (he pins s U H _ I h) λv s1 ⟨y,H1,I1,r1,q1⟩=>?_) hs;exact pG I1 hN hi hx r1 (λs2 I2=>⟨_,H1,I2,q1⟩) hf
def N5(i:Nat)(te:TE)(ti:Pj):TS:=λD U H=>∃x,U[i]?=some (some x)/\te U H λy H1=>ti x y H1 λz H2=>D.nx (U.set i (some z)) H2
theorem Ru(hN:X.N.Nodup)(hi:X.N[i]?=some x)(hx:Az X.env.scope x)(he:PE X e te)(ho:Uf X op ti)(hf:X.fn x=true∨X.env.scope.names.lookup x=some .local :=by first|exact .inl rfl|exact .inr rfl|assumption):PS X (.AugAssign (.Name x pos') op e pos) (N5 i te ti):=by
 intro pins s U H D I h;obtain⟨v,e1,h⟩:=h;obtain⟨m,hn,hl⟩:=I.loc;have vis:JJ X.env.scope x:=by rcases hx with k|k;exact .inl k;exact .inr (.inl k)
 obtain⟨u,r,l⟩:=hl i x v hi e1 vis;refine wpAny_AugAssign_Name ?_;have go:wpAny (model X.prog X.w) X.A (eval e X.env) (λw s₂=>wpAny (model X.prog X.w) X.A (inplaceOp op u w) (λr s₃=>wpAny (model X.prog X.w) X.A (storeName X.env x r) (λ_=>SP X pins D .next) X.xe s₃) X.xe s₂) X.xe s:=by
  refine dJ (he pins s U H _ I h) λw s1 hO=>?_;obtain⟨y,H1,I1,r1,q1⟩:=hO;refine dJ (ho pins s1 U H1 v y u w _ I1 r r1 q1) λz s2 hO=>?_;obtain⟨zv,H2,I2,r2,q2⟩:=hO;exact pG I2 hN hi hx r2 (λs3 I3=>⟨_,H2,I3,q2⟩) hf
 rcases l with ⟨hk,hm⟩|⟨hk,c,hc,aaq⟩
 .exact wpAny_loadName_local I.ok.kind hk hn hm go
 .rcases hk with hk|hk
  .exact wpAny_loadName_cell I.ok.kind hk hc aaq go
  .rcases hx with k|k
   .have:X.env.scope.names.lookup x=some .free:=hk;rw[k] at this;cases this
   .have:X.env.scope.names.lookup x=some .free:=hk;rw[k] at this;cases this
end
section
variable{X:Cx}{pos:Pos}
def F2(c:TT)(tb:TS):TS:=λD U H=>∃W:Nat->St->Hp->Prop,(∃m,W m U H)/\∀m U H,W m U H->
 c U H λb H1=>if b=true then ∃N:St->Hp->Prop,(∀U' H',N U' H'->∃m',m'<m/\W m' U' H')/\tb {D with nx:=N,ct:=N,bk:=D.nx} U H1 else D.nx U H1
theorem gI(hp:PassesOwn (model X.prog X.w) X.A X.env X.xe)(hc:PT X c tc)(hb:kK X body tb):PS X (.While c body [] pos) (F2 tc tb):=by
 intro pins s U H D I h;obtain⟨W,⟨m0,w0⟩,turn⟩:=h;refine wpAny_While (codeAny_whileLoop (λn s'=>∃U' H',cY X pins U' H' s'/\W n U' H') ?_ m0 ⟨U,H,I,w0⟩);rintro n s1 ⟨U1,H1,I1,w1⟩;refine wpAny_passesOwn hp (dJ (hc pins s1 U1 H1 _ I1 (turn n U1 H1 w1)) λb s2 ⟨H2,I2,q2⟩=>?_);cases b with
 | true=>
  obtain⟨N,hN,q2⟩:=q2;rw[ae rfl];refine wpAny_passesOwn hp (dJ (hb pins s2 U1 H2 _ I2 q2) λf s3 q3=>?_);cases f with
  | next=>
   obtain⟨U3,H3,I3,n3⟩:=q3;obtain⟨m',hm,w3⟩:=hN U3 H3 n3;exact⟨m',hm,U3,H3,I3,w3⟩
  | cont=>
   obtain⟨U3,H3,I3,n3⟩:=q3;obtain⟨m',hm,w3⟩:=hN U3 H3 n3;exact⟨m',hm,U3,H3,I3,w3⟩
  | brk=>exact q3
  | ret v=>exact q3
 | false=>
  rw[aa aq];exact wpAny_execs_nil ⟨U1,H2,I2,q2⟩
end
structure It where
 go:Nat->Hp->Prop
 yld:Nat->Hp->V->Hp->Prop
 stop:Nat->Hp->Prop
def iP(X:Cx)(pins:List (cS×Obj))(H:Hp)(b:cS):Prop:=
 H b=none/\b≠X.env.locals/\b∉X.fs/\(b∈X.ex∨X.s_0.heap.objs.size<=b)/\(∀x c,X.env.cells.lookup x=some c->c≠b)/\∀p∈X.pn++pins,p.1≠b
theorem cY.fpOk(I:cY X pins U H s)(hb:s.heap.objs.size<=b)(hn:H' b=none):iP X pins H' b:=by
 refine⟨hn,bA (aE I.lt hb),I.nofs hb,.inr (aA I.sz hb),λx c e z=>?_,λp hp z=>?_⟩
 .obtain⟨v,q⟩:=I.cell x c e;exact absurd (aE q.lt (by rw[z];exact hb)) (a0 _)
 .exact absurd (aE (aj (I.pin p hp).1) (by rw[z];exact hb)) (a0 _)
structure rL(P:Program)(w:World)(K:cV)(tg:Expr)(J:It)(fp:List cS)(it:cS)(tn:Nat->Heap->Prop):Prop where
 mem:it∈fp
 obj:∀i h,tn i h->∀b∈fp,∃o,h.get? b=some o/\∀v,o.data≠.cell v
 keep:∀i h h',tn i h->(∀b∈fp,∀o,h.get? b=some o->h'.get? b=some o)->tn i h'
 item:∀(X:Cx),X.prog=P->X.w=w->X.K=K->X.calm=true->∀(i:Nat)(pins:List (cS×Obj))(s:cU)(U:St)(H:Hp)(E:Value->cU->Prop),cY X pins U H s->(∀b∈fp,iP X pins H b)->tn i s.heap->J.go i H->
  wpAny (model P w) X.A (pyNext (.ref it)) (λr s1=>∃u,r=some u/\
   wpAny (model P w) X.A (letOwnedTupleGo tg (.ref it) u) (λ_ s2=>∃x H',cY X pins U H' s2/\dR x u/\J.yld i H x H'/\tn (i+1) s2.heap/\∀b∈fp,H' b=none) E s1) E s
 done:∀(X:Cx),X.prog=P->X.w=w->X.K=K->X.calm=true->∀(i:Nat)(pins:List (cS×Obj))(s:cU)(U:St)(H:Hp)(E:Value->cU->Prop),cY X pins U H s->(∀b∈fp,iP X pins H b)->tn i s.heap->J.stop i H->
  wpAny (model P w) X.A (pyNext (.ref it)) (λr s1=>r=none/\cY X pins U H s1) E s
 self:∀(A:Around)(i:Nat)(s:cU)(Q:Value->cU->Prop)(E:Value->cU->Prop),tn i s.heap->Q (.ref it) s->wpAny (model P w) A (pyIter (.ref it)) Q E s
abbrev TI:=St->Hp->(It->Hp->Prop)->Prop
def Rv(X:Cx)(pins:List (cS×Obj))(U:St)(tg:Expr)(R:It->Hp->Prop)(adv:Value)(s2:cU):Prop:=
 ∃(it:cS)(fp:List cS)(tn:Nat->Heap->Prop)(J:It)(H':Hp),adv=.ref it/\cY X pins U H' s2/\rL X.prog X.w X.K tg J fp it tn/\tn 0 s2.heap/\(∀b∈fp,iP X pins H' b)/\R J H'
namespace Z
@[scoped irreducible]def _root_.L2.PI(X:Cx)(tg iter:Expr)(wi:TI):Prop:=
 ∀(pins:List (cS×Obj))(s:cU)(U:St)(H:Hp)(R:It->Hp->Prop),cY X pins U H s->wi U H R->
  wpAny (model X.prog X.w) X.A (eval iter X.env) (λv s1=>wpAny (model X.prog X.w) X.A (pyIter v) (Rv X pins U tg R) X.xe s1) X.xe s
end Z
theorem xY(ho:s.heap.get? it=some o)(hc:o.cls=.type n)(hd:o.data=.fields vs)(hn:["enumerate","zip","dict_itemiterator","dict_reverseitemiterator","odict_iterator","itertools.zip_longest","itertools.pairwise"].contains n=false)(hQ:Q () s):wpAny M A (letOwnedTupleGo tg (.ref it) u) Q E s:=by
 unfold letOwnedTupleGo;cases tg<;>first
  | exact wpAny_pure hQ
  | (cases u<;>first
    | exact wpAny_pure hQ
    | (refine ag (wpAny_load ho ?_);rw[hc,hd];show wpAny M A (if(["enumerate","zip","dict_itemiterator","dict_reverseitemiterator","odict_iterator","itertools.zip_longest","itertools.pairwise"].contains n&&vs[0]? == some (rawInt _))=true then _ else _) Q E s;rw[aa (by intro h;rw[hn,Bool.false_and] at h;cases h)];exact wpAny_pure hQ))
def oP(K:cV)(a:cS):It:=
 ⟨λi H=>∃xs x,dU K H a xs/\xs[i]?=some x,λi H x H'=>H'=H/\∀xs,dU K H a xs->xs[i]?=some x,λi H=>∃xs,dU K H a xs/\xs.length<=i⟩
def yK(K:cV)(a:cS):It:=
 ⟨λi H=>∃xs x,jk K H a xs/\xs[i]?=some x,λi H x H'=>H'=H/\∀xs,jk K H a xs->xs[i]?=some x,λi H=>∃xs,jk K H a xs/\xs.length<=i⟩
def qJ(lo:Int)(n:Nat):It:=⟨λi _=>i<n,λi H x H'=>H'=H/\x=.int (lo+i),λi _=>n<=i⟩
theorem Mr{P:Program}{w:World}{K:cV}{tg:Expr}(a it:cS):rL P w K tg (oP K a) [it] it (λi h=>h.IsListIter it a i) where
 mem:=by simp
 obj:=λi h st b hb=>by
  have e:b=it:=by simpa using hb
  subst e;obtain⟨o,e,c,d⟩:=st;exact⟨o,e,λv z=>by rw[d] at z;cases z⟩
 keep:=λi h h' st k=>st.at λo e=>k it (by simp) o e
 item:=by
  intro X hP hw hK hc i pins s U H E I hf st hg;subst hP hw hK;obtain⟨xs,x,hq,hx⟩:=hg;obtain⟨Xa,rv,p,hz⟩:=I.list hq;obtain⟨u,hu,ru⟩:=rv.get hx;obtain⟨f0,f1,f2,f3,f4,f5⟩:=hf it (by simp);refine wpAny_pyNext_list_item st p.isList (x:=u) (by simpa using hu) λh' XT sb=>?_;have I1:cY X pins U H {s with heap:=h'}:=I.turned (t':=s.toks) (λb o hb e=>(sb.2 b hb).trans e) f0 f1 f3 f4 f5;obtain⟨o,e,c,d⟩:=id XT;exact⟨u,rfl,xY (s:={s with heap:=h'}) e c d (by decide) ⟨x,H,I1,ru,⟨rfl,λys hy=>by rw[I.list_inj hy hq];exact hx⟩,XT,λb hb=>(hf b hb).1⟩⟩
 done:=by
  intro X hP hw hK hc i pins s U H E I hf st hg;subst hP hw hK;obtain⟨xs,hq,hx⟩:=hg;obtain⟨Xa,rv,p,hz⟩:=I.list hq;obtain⟨f0,f1,f2,f3,f4,f5⟩:=hf it (by simp);have hl:=rv.length;exact wpAny_pyNext_list_end (I.ok.hd hc) st p.isList (by simp;lia) λh' eb=>⟨rfl,I.turned (t':=s.toks) (λb o hb e=>eb b o hb e) f0 f1 f3 f4 f5⟩
 self:=λ_ _ _ _ _ st h=>wpAny_pyIter_listiter st h
theorem KF{P:Program}{w:World}{K:cV}{tg:Expr}(a it:cS):rL P w K tg (yK K a) [it] it (λi h=>h.IsTupleIter it a i) where
 mem:=by simp
 obj:=λi h st b hb=>by
  have e:b=it:=by simpa using hb
  subst e;obtain⟨o,e,c,d⟩:=st;exact⟨o,e,λv z=>by rw[d] at z;cases z⟩
 keep:=λi h h' st k=>st.at λo e=>k it (by simp) o e
 item:=by
  intro X hP hw hK hc i pins s U H E I hf st hg;subst hP hw hK;obtain⟨xs,x,hq,hx⟩:=hg;obtain⟨Xa,rv,p,hz⟩:=I.tuple hq;obtain⟨u,hu,ru⟩:=rv.get hx;obtain⟨f0,f1,f2,f3,f4,f5⟩:=hf it (by simp);refine wpAny_pyNext_tuple_item st (show s.heap.IsTuple a Xa.toArray from p) (x:=u) (by simpa using hu) λh' XT sb=>?_;have I1:cY X pins U H {s with heap:=h'}:=I.turned (t':=s.toks) (λb o hb e=>(sb.2 b hb).trans e) f0 f1 f3 f4 f5;obtain⟨o,e,c,d⟩:=id XT;exact⟨u,rfl,xY (s:={s with heap:=h'}) e c d (by decide) ⟨x,H,I1,ru,⟨rfl,λys hy=>by rw[I.tuple_inj hy hq];exact hx⟩,XT,λb hb=>(hf b hb).1⟩⟩
 done:=by
  intro X hP hw hK hc i pins s U H E I hf st hg;subst hP hw hK;obtain⟨xs,hq,hx⟩:=hg;obtain⟨Xa,rv,p,hz⟩:=I.tuple hq;obtain⟨f0,f1,f2,f3,f4,f5⟩:=hf it (by simp);have hl:=rv.length;exact wpAny_pyNext_tuple_end (I.ok.hd hc) st (show s.heap.IsTuple a Xa.toArray from p) (by simp;lia) λh' eb=>⟨rfl,I.turned (t':=s.toks) (λb o hb e=>eb b o hb e) f0 f1 f3 f4 f5⟩
 self:=λ_ _ _ _ _ st h=>wpAny_pyIter_tupleiter st h
theorem KG{P:Program}{w:World}{K:cV}{tg:Expr}(it:cS)(lo:Int)(n:Nat):rL P w K tg (qJ lo n) [it] it (λi h=>IsRangeIter h it (lo+(i:Nat)*1) ((n:Int)-(i:Nat)) 1) where
 mem:=by simp
 obj:=λi h st b hb=>by
  have e:b=it:=by simpa using hb
  subst e
  exact⟨_,st,λv z=>by
   have z':Data.fields _=Data.cell v:=z
   cases z'⟩
 keep:=λi h h' st k=>k it (by simp) _ st
 item:=by
  intro X hP hw hK hc i pins s U H E I hf st hg;subst hP hw hK;obtain⟨f0,f1,f2,f3,f4,f5⟩:=hf it (by simp);have W:=Walks.range (prog:=X.prog) (w:=X.w) (I.ok.hd hc) it lo 1 n;refine W.item i s _ _ hg st λv h' tk hv XT kk=>?_;obtain⟨t,rfl⟩:=hv;have I1:cY X pins U H {s with heap:=h',toks:=tk}:=I.turned (λb o hb e=>kk b o (by simpa using hb) e) f0 f1 f3 f4 f5;refine⟨_,rfl,xY (s:={s with heap:=h',toks:=tk}) (n:="range_iterator") XT rfl rfl (by decide) ⟨.int (lo+i),H,I1,⟨t,?_⟩,⟨rfl,rfl⟩,XT,λb hb=>(hf b hb).1⟩⟩;rw[Int.mul_one]
 done:=by
  intro X hP hw hK hc i pins s U H E I hf st hg;subst hP hw hK;obtain⟨f0,f1,f2,f3,f4,f5⟩:=hf it (by simp);exact wpAny_pyNext_range_end (I.ok.hd hc) st (by have:n<=i:=hg;lia) λh' eb=>⟨rfl,I.turned (t':=s.toks) (λb o hb e=>eb b o hb e) f0 f1 f3 f4 f5⟩
 self:=λ_ _ _ _ _ st h=>wpAny_pyIter_rangeiter st h
section
variable{X:Cx}{tg:Expr}
def Pk(K:cV)(tl:TE):TI:=λU H R=>tl U H λx H1=>∃a,x=.ref a/\(∃xs,dU K H1 a xs)/\R (oP K a) H1
def Rw(K:cV)(tl:TE):TI:=λU H R=>tl U H λx H1=>∃a,x=.ref a/\(∃xs,jk K H1 a xs)/\R (yK K a) H1
theorem eW{l:Expr}{tl:TE}(hl:PE X l tl):PI X tg l (Pk X.K tl):=by
 intro pins s U H R I h;refine dJ (hl pins s U H _ I h) λv s1 hO=>?_;obtain⟨x,H1,I1,r1,q1⟩:=hO;obtain⟨a,e,⟨xs,hq⟩,q⟩:=q1;subst e;cases r1;obtain⟨Xa,rv,p,hz⟩:=I1.list hq;refine wpAny_pyIter_list p.isList ?_;refine⟨s1.heap.objs.size,[s1.heap.objs.size],_,_,H1,rfl,I1.kept (t':=s1.toks) λb o e=>aB _ e,Mr a _,⟨_,aM _ rfl,rfl,rfl⟩,λb hb=>?_,q⟩;have e:b=s1.heap.objs.size:=by simpa using hb
 subst e;exact I1.fpOk (ah _) (I1.hok.fresh (ah _))
theorem Ms{l:Expr}{tl:TE}(hl:PE X l tl):PI X tg l (Rw X.K tl):=by
 intro pins s U H R I h;refine dJ (hl pins s U H _ I h) λv s1 hO=>?_;obtain⟨x,H1,I1,r1,q1⟩:=hO;obtain⟨a,e,⟨xs,hq⟩,q⟩:=q1;subst e;cases r1;obtain⟨Xa,rv,p,hz⟩:=I1.tuple hq;refine wpAny_pyIter_tuple (show s1.heap.IsTuple a Xa.toArray from p) ?_;refine⟨s1.heap.objs.size,[s1.heap.objs.size],_,_,H1,rfl,I1.kept (t':=s1.toks) λb o e=>aB _ e,KF a _,⟨_,aM _ rfl,rfl,rfl⟩,λb hb=>?_,q⟩;have e:b=s1.heap.objs.size:=by simpa using hb
 subst e;exact I1.fpOk (ah _) (I1.hok.fresh (ah _))
theorem N6{pins:List (cS×Obj)}{U:St}{H:Hp}{s:cU}{R:It->Hp->Prop}{E:Value->cU->Prop}{lo hi:Int}{t u v:Tok}{tk:Nat}(I:cY X pins U H s)(h1:-(2^62)<=lo)(h2:lo<2^62)(h3:-(2^62)<=hi)(h4:hi<2^62)(q:R (qJ lo (hi-lo).toNat) H):wpAny (model X.prog X.w) X.A (pyIter (.ref s.heap.objs.size)) (Rv X pins U tg R) E {s with heap:=s.heap.push {cls:=.type "range",data:=.fields #[.int lo t,.int hi u,.int 1 v]},toks:=tk}:=by
 refine wpAny_pyIter_range (IsRange.new ..) (small_one h1 h2 h3 h4) ?_;have I1:cY X pins U H {s with heap:=s.heap.push {cls:=.type "range",data:=.fields #[.int lo t,.int hi u,.int 1 v]},toks:=tk}:=I.kept λb o e=>aB _ e
 refine⟨(s.heap.push {cls:=.type "range",data:=.fields #[.int lo t,.int hi u,.int 1 v]}).objs.size,[(s.heap.push {cls:=.type "range",data:=.fields #[.int lo t,.int hi u,.int 1 v]}).objs.size],_,_,H,rfl,
  I1.kept (t':=tk) λb o e=>aB _ e,KG _ lo (hi-lo).toNat,?_,λb hb=>?_,q⟩
 .have e1:lo+((0:Nat):Int)*1=lo:=by simp
  have e2:(((hi-lo).toNat:Nat):Int)-((0:Nat):Int)=Builtin.Range.rangeSize lo hi 1:=by rw[rangeSize_one];split<;>lia
  show IsRangeIter _ _ (lo+((0:Nat):Int)*1) ((((hi-lo).toNat:Nat):Int)-((0:Nat):Int)) 1;rw[e1,e2];exact aM _ rfl
 .have e:b=(s.heap.push {cls:=.type "range",data:=.fields #[.int lo t,.int hi u,.int 1 v]}).objs.size:=by simpa using hb
  subst e;exact I1.fpOk (ah _) (I1.hok.fresh (ah _))
def Pl(ta:TA):TI:=λU H R=>ta U H λvs H1=>∃j:Int,vs=[.int j]/\-(2^62)<=j/\j<2^62/\R (qJ 0 j.toNat) H1
theorem qK{a:Expr}{ta:TA}{p pos:Pos}(hg:Gl X "range")(hm:X.mg "range"=none)(ha:PA X [a] ta)(hs:starEach [a] X.env=[(false,eval a X.env)]:=by rfl):PI X tg (.Call (.Name "range" p) [a] [] pos) (Pl ta):=by
 intro pins s U H R I h;refine Call_ (kL I hg hm boot_range (bR (dJ (ha pos pins s U H _ I h) λus s1 ⟨vs,H1,I1,r1,q1⟩=>?_) hs rfl));obtain⟨j,e,q1,q2,q⟩:=q1;subst e;cases r1 with
 | cons r rr=>
  cases rr;obtain⟨t,rfl⟩:=r;exact call_range_1 (N6 I1 (by lia) (by lia) q1 q2 (by simpa using q))
def Rx(wi:TI)(g:TG)(tb:TS):TS:=λD U H=>wi U H λJ H1=>∃W:Nat->Nat->St->Hp->Prop,(∃m,W 0 m U H1)/\∀i m U H,W i m U H->
 (J.stop i H/\D.nx U H)∨(J.go i H/\∃N:St->Hp->Prop,(∀U' H',N U' H'->∃m',m'<m/\W (i+1) m' U' H')/\∀x H',J.yld i H x H'->g x U H' λU2 H2=>tb {D with nx:=N,ct:=N,bk:=D.nx} U2 H2)
noncomputable def wm(fp:List cS)(h:Heap):List (cS×Obj):=fp.filterMap λb=>(h.get? b).map λo=>(b,o)
theorem l9(hb:b∈fp)(e:h.get? b=some o):(b,o)∈wm fp h:=List.mem_filterMap.mpr ⟨b,hb,by rw[e];rfl⟩
theorem Mt(hp:p∈wm fp h):p.1∈fp/\h.get? p.1=some p.2:=by
 obtain⟨b,hb,e⟩:=List.mem_filterMap.mp hp;cases q:h.get? b with
 | none=>rw[q] at e;cases e
 | some o=>
  rw[q] at e;have e':(b,o)=p:=aH e;subst e';exact⟨hb,q⟩
theorem cY.pinned(I:cY X pins U H s)(hf:∀b∈fp,iP X pins H b)(ho:∀b∈fp,∃o,s.heap.get? b=some o/\∀v,o.data≠.cell v):cY X (pins++wm fp s.heap) U H s:=
 I.pins_of λp hp=>(bq.mp hp).elim (λz=>I.pin p (a7 _ z)) λz=>by
  obtain⟨hb,e⟩:=Mt z;obtain⟨f0,f1,f2,_⟩:=hf p.1 hb;obtain⟨o,e',d⟩:=ho p.1 hb;rw[e] at e';cases e';exact⟨e,f0,f1,f2,d⟩
theorem cY.unpinned(I:cY X (pins++pl) U H s):cY X pins U H s:=I.pins_of λp hp=>I.pin p (a7 _ (cf _ hp))
theorem fv(hp:PassesOwn (model X.prog X.w) X.A X.env X.xe)(hc:X.calm=true)(hi:PI X tg iter wi)(hg:PG X tg g)(hb:kK X body tb)(hs:∀x,foldedSetIterable iter X.env x=pure x:=by intro _;rfl):PS X (.For tg iter body [] pos) (Rx wi g tb):=by
 intro pins s U H D I h;refine wpAny_For (dJ (hi pins s U H _ I h) λv s1 h1=>dJ h1 λadv s2 h2=>?_) hs;obtain⟨it,fp,tn,J,H2,e,I2,T,acL,f2,W,⟨m0,w0⟩,turn⟩:=h2;subst e;have Zz:∀{H':Hp},(∀b∈fp,H' b=none)->∀b∈fp,iP X pins H' b:=λhn b hb=>⟨hn b hb,(f2 b hb).2⟩;refine codeAny_forLoop_any (λn s'=>∃i U' H',cY X pins U' H' s'/\tn i s'.heap/\(∀b∈fp,H' b=none)/\W i n U' H') ?_ m0 ⟨0,U,H2,I2,acL,λb hb=>(f2 b hb).1,w0⟩;rintro n s3 ⟨i,U3,H3,I3,acM,afu,w3⟩;rcases turn i n U3 H3 w3 with ⟨stop,qn⟩|⟨go,N,hN,step⟩
 .refine wpAny_passesOwn hp (dJ (T.done X rfl rfl rfl hc i pins s3 U3 H3 X.xe I3 (Zz afu) acM stop) λr s4 ⟨hr,I4⟩=>?_);subst hr;exact wpAny_execs_nil ⟨U3,H3,I4,qn⟩
 .refine wpAny_passesOwn hp (dJ (T.item X rfl rfl rfl hc i pins s3 U3 H3 X.xe I3 (Zz afu) acM go) λr s4 ⟨u,hr,h4⟩=>?_);subst hr;refine wpAny_passesOwn hp (dJ h4 λ_ s5 ⟨x,H5,I5,r5,y5,aa2,fr5⟩=>?_);have I5':=I5.pinned (Zz fr5) (T.obj _ _ aa2);refine wpAny_passesOwn hp (dJ (hg _ s5 U3 H5 x u _ I5' r5 (step x H5 y5)) λ_ s6 ⟨U6,H6,I6,q6⟩=>?_);refine wpAny_passesOwn hp (dJ (hb _ s6 U6 H6 _ I6 q6) λf s7 q7=>?_);have again:∀{U7:St} {H7:Hp},cY X (pins++wm fp s5.heap) U7 H7 s7->N U7 H7->∃m,m<n/\∃i U' H',cY X pins U' H' s7/\tn i s7.heap/\(∀b∈fp,H' b=none)/\W i m U' H':=λ{U7 H7} I7 n7=>by
   obtain⟨m',hm,w7⟩:=hN U7 H7 n7;refine⟨m',hm,i+1,U7,H7,I7.unpinned,T.keep _ _ _ aa2 λb hb o e=>(I7.pin (b,o) (a7 _ (a7 _ (l9 hb e)))).1,λb hb=>?_,w7⟩;obtain⟨o,e,d⟩:=T.obj _ _ aa2 b hb;exact(I7.pin (b,o) (a7 _ (a7 _ (l9 hb e)))).2.1
  cases f with
  | next=>obtain⟨U7,H7,I7,n7⟩:=q7;exact again I7 n7
  | cont=>obtain⟨U7,H7,I7,n7⟩:=q7;exact again I7 n7
  | brk=>obtain⟨U7,H7,I7,q7⟩:=q7;exact⟨U7,H7,I7.unpinned,q7⟩
  | ret v=>obtain⟨x7,U7,H7,I7,r7,q7⟩:=q7;exact⟨x7,U7,H7,I7.unpinned,r7,q7⟩
end
theorem N7{K:cV}{a:cS}{xs:List V}{g:TG}{tb:TS}{D:mK}{U:St}{H:Hp}(Pv:Nat->St->Hp->Prop)(h0:Pv 0 U H)(hl:∀i U H,i<=xs.length->Pv i U H->dU K H a xs)(hs:∀i x U H,xs[i]?=some x->Pv i U H->g x U H λU2 H2=>tb {D with nx:=Pv (i+1),ct:=Pv (i+1),bk:=D.nx} U2 H2)(hd:∀U H,Pv xs.length U H->D.nx U H):∃W:Nat->Nat->St->Hp->Prop,(∃m,W 0 m U H)/\∀i m U H,W i m U H->((oP K a).stop i H/\D.nx U H)∨((oP K a).go i H/\∃N:St->Hp->Prop,(∀U' H',N U' H'->∃m',m'<m/\W (i+1) m' U' H')/\∀x H',(oP K a).yld i H x H'->g x U H' λU2 H2=>tb {D with nx:=N,ct:=N,bk:=D.nx} U2 H2):=by
 refine⟨λi m U H=>m=xs.length-i/\i<=xs.length/\Pv i U H,⟨xs.length,by simp,aI _,h0⟩,?_⟩;rintro i m U H ⟨rfl,hi,p⟩;have q:=hl i U H hi p;by_cases Xg:i<xs.length
 .refine .inr ⟨⟨xs,xs[i],q,by simp[Xg]⟩,Pv (i+1),λU' H' p'=>⟨xs.length-(i+1),by lia,rfl,Xg,p'⟩,λx H' y=>?_⟩;obtain⟨e,y⟩:=y;subst e;exact hs i x U _ (y xs q) p
 .have e:i=xs.length:=by lia
  subst e;exact .inl ⟨⟨xs,q,ah _⟩,hd U H p⟩
theorem Qg{K:cV}{a:cS}{xs:List V}{g:TG}{tb:TS}{D:mK}{U:St}{H:Hp}(Pv:Nat->St->Hp->Prop)(h0:Pv 0 U H)(hl:∀i U H,i<=xs.length->Pv i U H->jk K H a xs)(hs:∀i x U H,xs[i]?=some x->Pv i U H->g x U H λU2 H2=>tb {D with nx:=Pv (i+1),ct:=Pv (i+1),bk:=D.nx} U2 H2)(hd:∀U H,Pv xs.length U H->D.nx U H):∃W:Nat->Nat->St->Hp->Prop,(∃m,W 0 m U H)/\∀i m U H,W i m U H->((yK K a).stop i H/\D.nx U H)∨((yK K a).go i H/\∃N:St->Hp->Prop,(∀U' H',N U' H'->∃m',m'<m/\W (i+1) m' U' H')/\∀x H',(yK K a).yld i H x H'->g x U H' λU2 H2=>tb {D with nx:=N,ct:=N,bk:=D.nx} U2 H2):=by
 refine⟨λi m U H=>m=xs.length-i/\i<=xs.length/\Pv i U H,⟨xs.length,by simp,aI _,h0⟩,?_⟩;rintro i m U H ⟨rfl,hi,p⟩;have q:=hl i U H hi p;by_cases Xg:i<xs.length
 .refine .inr ⟨⟨xs,xs[i],q,by simp[Xg]⟩,Pv (i+1),λU' H' p'=>⟨xs.length-(i+1),by lia,rfl,Xg,p'⟩,λx H' y=>?_⟩;obtain⟨e,y⟩:=y;subst e;exact hs i x U _ (y xs q) p
 .have e:i=xs.length:=by lia
  subst e;exact .inl ⟨⟨xs,q,ah _⟩,hd U H p⟩
theorem Mu{lo:Int}{n:Nat}{g:TG}{tb:TS}{D:mK}{U:St}{H:Hp}(Pv:Nat->St->Hp->Prop)(h0:Pv 0 U H)(hs:∀i U H,i<n->Pv i U H->g (.int (lo+i)) U H λU2 H2=>tb {D with nx:=Pv (i+1),ct:=Pv (i+1),bk:=D.nx} U2 H2)(hd:∀U H,Pv n U H->D.nx U H):∃W:Nat->Nat->St->Hp->Prop,(∃m,W 0 m U H)/\∀i m U H,W i m U H->((qJ lo n).stop i H/\D.nx U H)∨((qJ lo n).go i H/\∃N:St->Hp->Prop,(∀U' H',N U' H'->∃m',m'<m/\W (i+1) m' U' H')/\∀x H',(qJ lo n).yld i H x H'->g x U H' λU2 H2=>tb {D with nx:=N,ct:=N,bk:=D.nx} U2 H2):=by
 refine⟨λi m U H=>m=n-i/\i<=n/\Pv i U H,⟨n,by simp,aI _,h0⟩,?_⟩;rintro i m U H ⟨rfl,hi,p⟩;by_cases Xg:i<n
 .refine .inr ⟨Xg,Pv (i+1),λU' H' p'=>⟨n-(i+1),by lia,rfl,Xg,p'⟩,λx H' y=>?_⟩;obtain⟨e,y⟩:=y;subst e y;exact hs i U _ Xg p
 .have e:i=n:=by lia
  subst e;exact .inl ⟨ah _,hd U H p⟩
abbrev R2:=V->V->Hp->VK->Prop
def ii(X:Cx)(f:Value->Value->Sem Value)(r:R2):Prop:=
 ∀(pins:List (cS×Obj))(s:cU)(U:St)(H:Hp)(x y:V)(v u:Value)(Q:VK),cY X pins U H s->dR x v->dR y u->r x y H Q->
  wpAny (model X.prog X.w) X.A (f v u) (EP X pins U Q) X.xe s
def Ry(X:Cx)(f:Value->Sem Value)(r:V->Hp->VK->Prop):Prop:=
 ∀(pins:List (cS×Obj))(s:cU)(U:St)(H:Hp)(x:V)(v:Value)(Q:VK),cY X pins U H s->dR x v->r x H Q->
  wpAny (model X.prog X.w) X.A (f v) (EP X pins U Q) X.xe s
def lf(X:Cx)(f:Value)(r:List V->Hp->VK->Prop):Prop:=
 ∀(pins:List (cS×Obj))(s:cU)(U:St)(H:Hp)(xs:List V)(us:List Value)(Q:VK),cY X pins U H s->dM xs us->r xs H Q->
  wpAny (model X.prog X.w) X.A (call f us) (EP X pins U Q) X.xe s
def kM(r:R2)(ta tb:TE):TE:=λU H Q=>ta U H λx H1=>tb U H1 λy H2=>r x y H2 Q
def Ug(r:V->Hp->VK->Prop)(ta:TE):TE:=λU H Q=>ta U H λx H1=>r x H1 Q
def rI(C:Int->Int->Prop)(g:Int->Int->V):R2:=λx y H Q=>∃i j,x=.int i/\y=.int j/\C i j/\Q (g i j) H
def oQ(g:Int->Int->V):R2:=λx y H Q=>∃i j,x=.int i/\y=.int j/\Q (g i j) H
def rU(g:Int->V):V->Hp->VK->Prop:=λx H Q=>∃i,x=.int i/\Q (g i) H
section
variable{X:Cx}{a b c:Expr}{ta tb tc:TE}{pos:Pos}
theorem N8(ha:PE X a ta)(hb:PE X b tb){pins:List (cS×Obj)}{s:cU}{U:St}{H:Hp}{R:V->V->Hp->Prop}(I:cY X pins U H s)(h:ta U H λx H1=>tb U H1 λy H2=>R x y H2){Q:Value->cU->Prop}{f:Value->Value->Sem Value}(hf:∀v u s2 x y H2,cY X pins U H2 s2->dR x v->dR y u->R x y H2->wpAny (model X.prog X.w) X.A (f v u) Q X.xe s2):wpAny (model X.prog X.w) X.A (eval a X.env) (λv s₁=>wpAny (model X.prog X.w) X.A (eval b X.env) (λu s₂=>wpAny (model X.prog X.w) X.A (f v u) Q X.xe s₂) X.xe s₁) X.xe s:=by
 refine dJ (ha pins s U H _ I h) λv s1 hO=>?_;obtain⟨x,H1,I1,r1,q1⟩:=hO;refine dJ (hb pins s1 U H1 _ I1 q1) λu s2 hO=>?_;obtain⟨y,H2,I2,r2,q2⟩:=hO;exact hf v u s2 x y H2 I2 r1 r2 q2
theorem dF{op:Operator}{r:R2}(ho:ii X (binaryOp op) r)(ha:PE X a ta)(hb:PE X b tb):PE X (.BinOp a op b pos) (kM r ta tb):=by
 intro pins s U H Q I h;exact wpAny_BinOp (N8 ha hb I h λv u s2 x y H2 I2 rx ry q=>ho pins s2 U H2 x y v u Q I2 rx ry q)
theorem qL(ho:Ry X (unaryOp op) r)(ha:PE X a ta):PE X (.UnaryOp op a pos) (Ug r ta):=by
 intro pins s U H Q I h;exact UnaryOp_ (dJ (ha pins s U H _ I h) λv s1 ⟨x,H1,I1,r1,q1⟩=>ho pins s1 U H1 x v Q I1 r1 q1)
theorem Pn{f:Value->Value->Sem Value}{C:Int->Int->Prop}{g:Int->Int->Int}(rule:∀(i j:Int)(t u:Tok)(s:cU)(Q:Value->cU->Prop)(E:Value->cU->Prop),C i j->Q (.int (g i j) s.toks) {s with toks:=s.toks+1}->wpAny (model X.prog X.w) X.A (f (.int i t) (.int j u)) Q E s):ii X f (rI C λi j=>.int (g i j)):=by
 intro pins s U H x y v u Q I rx ry h;obtain⟨i,j,rfl,rfl,hc,q⟩:=h;obtain⟨t,rfl⟩:=rx;obtain⟨t',rfl⟩:=ry;exact rule i j t t' s _ _ hc ⟨.int (g i j),H,I.tok _,⟨_,rfl⟩,q⟩
theorem KH{f:Value->Value->Sem Value}{g:Int->Int->Int}(rule:∀(i j:Int)(t u:Tok)(s:cU)(Q:Value->cU->Prop)(E:Value->cU->Prop),Q (.int (g i j) s.toks) {s with toks:=s.toks+1}->wpAny (model X.prog X.w) X.A (f (.int i t) (.int j u)) Q E s):ii X f (oQ λi j=>.int (g i j)):=by
 intro pins s U H x y v u Q I rx ry h;obtain⟨i,j,rfl,rfl,q⟩:=h;obtain⟨t,rfl⟩:=rx;obtain⟨t',rfl⟩:=ry;exact rule i j t t' s _ _ ⟨.int (g i j),H,I.tok _,⟨_,rfl⟩,q⟩
theorem KI{f:Value->Value->Sem Value}{g:Int->Int->Bool}(rule:∀(i j:Int)(t u:Tok)(s:cU)(Q:Value->cU->Prop)(E:Value->cU->Prop),Q (.bool (g i j)) s->wpAny (model X.prog X.w) X.A (f (.int i t) (.int j u)) Q E s):ii X f (oQ λi j=>.bl (g i j)):=by
 intro pins s U H x y v u Q I rx ry h;obtain⟨i,j,rfl,rfl,q⟩:=h;obtain⟨t,rfl⟩:=rx;obtain⟨t',rfl⟩:=ry;exact rule i j t t' s _ _ ⟨.bl (g i j),H,I,rfl,q⟩
theorem fw:ii X (binaryOp .Add) (oQ λi j=>.int (i+j)):=KH λ_ _ _ _ _ _ _ q=>add_int q
theorem i0:ii X (binaryOp .Sub) (oQ λi j=>.int (i-j)):=KH λ_ _ _ _ _ _ _ q=>sub_int q
theorem AB:ii X (binaryOp .Mod) (rI (λ_ j=>0<j) λi j=>.int (i%j)):=Pn λi j _ _ _ _ _ hc q=>by
 have h1:(0:Int)<j:=hc;exact mod_int' (by lia) (by rw[Int.fmod_eq_emod_of_nonneg i (by lia)];exact q)
theorem ij:ii X (inplaceOp .Add) (oQ λi j=>.int (i+j)):=KH λ_ _ _ _ _ _ _ q=>iadd_int q
theorem xZ:ii X (inplaceOp .Sub) (oQ λi j=>.int (i-j)):=KH λ_ _ _ _ _ _ _ q=>isub_int q
theorem unI{f:Value->Sem Value}{g:Int->Int}(rule:∀(i:Int)(t:Tok)(s:cU)(Q:Value->cU->Prop)(E:Value->cU->Prop),Q (.int (g i) s.toks) {s with toks:=s.toks+1}->wpAny (model X.prog X.w) X.A (f (.int i t)) Q E s):Ry X f (rU λi=>.int (g i)):=by
 intro pins s U H x v Q I rx h;obtain⟨i,rfl,q⟩:=h;obtain⟨t,rfl⟩:=rx;exact rule i t s _ _ ⟨.int (g i),H,I.tok _,⟨_,rfl⟩,q⟩
theorem nI:Ry X (unaryOp .USub) (rU λi=>.int (-i)):=unI λ_ _ _ _ _ q=>neg_int q
end
noncomputable def KJ:V->V->Bool
 | .non,.non=>true|.non,.int _=>true|.int _,.non=>true|.non,.bl _=>true|.bl _,.non=>true|.non,.str _=>true|.str _,.non=>true
 | .int _,.int _=>true|.bl _,.bl _=>true|.str _,.str _=>true|.byt _,.byt _=>true
 | .int _,.str _=>true|.str _,.int _=>true|.bl _,.str _=>true|.str _,.bl _=>true
 | _,_=>false
def JL:R2:=λx y H Q=>KJ x y=true/\Q (.bl (decide (x=y))) H
def Rz:R2:=λx y H Q=>KJ x y=true/\Q (.bl (!decide (x=y))) H
theorem JM:decide (V.int i=V.int j)=(i==j):=by
 rw[bt];simp
theorem Mv:decide (V.bl i=V.bl j)=(i==j):=by
 rw[bt];simp
theorem JN:decide (V.str i=V.str j)=(i==j):=by
 rw[bt];simp
theorem JO:decide (V.byt i=V.byt j)=(i.toList==j.toList):=by
 rw[bt];cases i;cases j;simp
section
variable{X:Cx}{a b c:Expr}{ta tb tc:TE}{pos:Pos}
theorem eL(I:cY X pins U H s)(q:Q (.bl k) H)(e:k=k'):EP X pins U Q (.bool k') s:=by
 subst e;exact⟨.bl k,H,I,rfl,q⟩
theorem qM:ii X (compareOp .Eq) JL:=by
 intro pins s U H x y v u Q I rx ry h;obtain⟨hs,q⟩:=h;cases x with
 | non=>
  cases rx;cases y with
  | non=>cases ry;exact PySem.EqNone.eq_none_none (eL I q (by simp))
  | bl j=>cases ry;exact PySem.EqNone.eq_none_bool (eL I q (by simp))
  | int j=>obtain⟨t',rfl⟩:=ry;exact PySem.EqNone.eq_none_int (eL I q (by simp))
  | str j=>obtain⟨t',rfl⟩:=ry;exact PySem.EqNone.eq_none_str (eL I q (by simp))
  | _=>exact absurd (show false=true from hs) aq
 | bl i=>
  cases rx;cases y with
  | non=>cases ry;exact PySem.EqNone.eq_bool_none (eL I q (by simp))
  | bl j=>cases ry;exact eq_bool (eL I q Mv)
  | str j=>obtain⟨t',rfl⟩:=ry;exact PySem.EqMixed.eq_bool_str (eL I q (by simp))
  | _=>exact absurd (show false=true from hs) aq
 | int i=>
  obtain⟨t,rfl⟩:=rx;cases y with
  | non=>cases ry;exact PySem.EqNone.eq_int_none (eL I q (by simp))
  | int j=>obtain⟨t',rfl⟩:=ry;exact eq_int (eL I q JM)
  | str j=>obtain⟨t',rfl⟩:=ry;exact PySem.EqMixed.eq_int_str (eL I q (by simp))
  | _=>exact absurd (show false=true from hs) aq
 | str i=>
  obtain⟨t,rfl⟩:=rx;cases y with
  | non=>cases ry;exact PySem.EqNone.eq_str_none (eL I q (by simp))
  | bl j=>cases ry;exact PySem.EqMixed.eq_str_bool (eL I q (by simp))
  | int j=>obtain⟨t',rfl⟩:=ry;exact PySem.EqMixed.eq_str_int (eL I q (by simp))
  | str j=>obtain⟨t',rfl⟩:=ry;exact eq_str (eL I q JN)
  | _=>exact absurd (show false=true from hs) aq
 | byt i=>
  obtain⟨t,rfl⟩:=rx;cases y with
  | byt j=>obtain⟨t',rfl⟩:=ry;exact PySem.W.eq_bytes (eL I q JO)
  | _=>exact absurd (show false=true from hs) aq
 | _=>cases y<;>exact absurd (show false=true from hs) aq
theorem Tk:ii X (compareOp .NotEq) Rz:=by
 intro pins s U H x y v u Q I rx ry h;obtain⟨hs,q⟩:=h;cases x with
 | non=>
  cases rx;cases y with
  | non=>cases ry;exact PySem.EqNone.ne_none_none (eL I q (by simp))
  | bl j=>cases ry;exact PySem.EqNone.ne_none_bool (eL I q (by simp))
  | int j=>obtain⟨t',rfl⟩:=ry;exact PySem.EqNone.ne_none_int (eL I q (by simp))
  | str j=>obtain⟨t',rfl⟩:=ry;exact PySem.EqNone.ne_none_str (eL I q (by simp))
  | _=>exact absurd (show false=true from hs) aq
 | bl i=>
  cases rx;cases y with
  | non=>cases ry;exact PySem.EqNone.ne_bool_none (eL I q (by simp))
  | bl j=>cases ry;exact ne_bool (eL I q (au not Mv))
  | str j=>obtain⟨t',rfl⟩:=ry;exact PySem.EqMixed.ne_bool_str (eL I q (by simp))
  | _=>exact absurd (show false=true from hs) aq
 | int i=>
  obtain⟨t,rfl⟩:=rx;cases y with
  | non=>cases ry;exact PySem.EqNone.ne_int_none (eL I q (by simp))
  | int j=>obtain⟨t',rfl⟩:=ry;exact ne_int (eL I q (au not JM))
  | str j=>obtain⟨t',rfl⟩:=ry;exact PySem.EqMixed.ne_int_str (eL I q (by simp))
  | _=>exact absurd (show false=true from hs) aq
 | str i=>
  obtain⟨t,rfl⟩:=rx;cases y with
  | non=>cases ry;exact PySem.EqNone.ne_str_none (eL I q (by simp))
  | bl j=>cases ry;exact PySem.EqMixed.ne_str_bool (eL I q (by simp))
  | int j=>obtain⟨t',rfl⟩:=ry;exact PySem.EqMixed.ne_str_int (eL I q (by simp))
  | str j=>obtain⟨t',rfl⟩:=ry;exact ne_str (eL I q (au not JN))
  | _=>exact absurd (show false=true from hs) aq
 | byt i=>
  obtain⟨t,rfl⟩:=rx;cases y with
  | byt j=>obtain⟨t',rfl⟩:=ry;exact PySem.W.ne_bytes (eL I q (au not JO))
  | _=>exact absurd (show false=true from hs) aq
 | _=>cases y<;>exact absurd (show false=true from hs) aq
theorem Po:ii X (compareOp .Lt) (oQ λi j=>.bl (decide (i<j))):=KI λ_ _ _ _ _ _ _ q=>lt_int q
theorem jV:ii X (compareOp .LtE) (oQ λi j=>.bl (decide (i<=j))):=KI λ_ _ _ _ _ _ _ q=>le_int q
theorem Pp:ii X (compareOp .Gt) (oQ λi j=>.bl (decide (j<i))):=KI λ_ _ _ _ _ _ _ q=>gt_int q
theorem Pq:ii X (compareOp .GtE) (oQ λi j=>.bl (decide (j<=i))):=KI λ_ _ _ _ _ _ _ q=>ge_int q
theorem Mw:ii X (compareOp .Lt) (λx y H Q=>∃i j,x=.str i/\y=.str j/\Q (.bl (decide (i.cps.toList<j.cps.toList))) H):=by
 intro pins s U H x y v u Q I rx ry h;obtain⟨i,j,rfl,rfl,q⟩:=h;obtain⟨t,rfl⟩:=rx;obtain⟨t',rfl⟩:=ry;exact lt_str (eL I q rfl)
theorem gJ(b:Expr)(h:op≠.In:=by decide)(h2:op≠.NotIn:=by decide):behindInMarks op b=false:=by
 have e1:(op==CmpOp.In)=false:=by cases op<;>first|rfl|exact absurd rfl h
 have e2:(op==CmpOp.NotIn)=false:=by cases op<;>first|rfl|exact absurd rfl h2
 cases b with|Set elts k p=>(show(k==0&&(op == .In||op == .NotIn)&&elts.all (constantsAlone 8))=false;rw[e1,e2,Bool.or_false,Bool.and_false,Bool.false_and])|_=>rfl
theorem iY(ho:ii X (compareOp op) r)(ha:PE X a ta)(hb:PE X b tb)(hm:behindInMarks op b=false):PE X (.Compare a [op] [b] pos) (kM r ta tb):=by
 intro pins s U H Q I h;exact wpAny_Compare1 (N8 ha hb I h λv u s2 x y H2 I2 rx ry q=>ho pins s2 U H2 x y v u Q I2 rx ry q) hm
def m5(t:TE):TT:=λU H Q=>t U H λx H'=>∃k,x=.bl k/\Q k H'
theorem jl(ho:ii X (compareOp op) r)(ha:PE X a ta)(hb:PE X b tb)(hm:behindInMarks op b=false):PT X (.Compare a [op] [b] pos) (m5 (kM r ta tb)):=by
 intro pins s U H Q I h
 refine wpAny_isTrue_Compare1 (dJ (ha pins s U H _ I h) λv s1 ⟨x,H1,I1,r1,q1⟩=>dJ (hb pins s1 U H1 _ I1 q1) λu s2 ⟨y,H2,I2,r2,q2⟩=>
  dJ (ho pins s2 U H2 x y v u _ I2 r1 r2 q2) λc s3 ⟨z,H3,I3,r3,k,e,q3⟩=>?_) hm
 subst e;cases r3;exact wpAny_truthy_bool ⟨H3,I3,q3⟩
def AC(r r':R2)(ta tb tc:TE):TE:=λU H Q=>ta U H λx H1=>tb U H1 λy H2=>r x y H2 λz H3=>∃k,z=.bl k/\
 (if k=true then tc U H3 λw' H4=>r' y w' H4 Q else Q (.bl false) H3)
theorem pI(ho:ii X (compareOp op) r)(X8:ii X (compareOp abO) r')(ha:PE X a ta)(hb:PE X b tb)(hc:PE X c tc)(hm:lastMarks [op,abO] [b,c]=false:=by with_unfolding_all rfl):PE X (.Compare a [op,abO] [b,c] pos) (AC r r' ta tb tc):=by
 intro pins s U H Q I h
 refine Compare_chain (dJ (ha pins s U H _ I h) λv s1 ⟨x,H1,I1,r1,q1⟩=>chain_link (dJ (hb pins s1 U H1 _ I1 q1) λu s2 ⟨y,H2,I2,r2,q2⟩=>
  dJ (ho pins s2 U H2 x y v u _ I2 r1 r2 q2) λd s3 ⟨z,H3,I3,r3,k,e,q3⟩=>?_)) hm
 subst e;cases r3;refine wpAny_truthy_bool ?_;cases k with
 | false=>exact ite_ff ⟨.bl false,H3,I3,rfl,q3⟩
 | true=>exact ite_tt (chain_last (dJ (hc pins s3 U H3 _ I3 q3) λw' s4 ⟨z',H4,I4,r4,q4⟩=>X8 pins s4 U H4 y z' u w' Q I4 r2 r4 q4))
theorem N9(ho:ii X (compareOp op) r)(X8:ii X (compareOp abO) r')(ha:PE X a ta)(hb:PE X b tb)(hc:PE X c tc)(hm:lastMarks [op,abO] [b,c]=false:=by with_unfolding_all rfl):PT X (.Compare a [op,abO] [b,c] pos) (m5 (AC r r' ta tb tc)):=by
 intro pins s U H Q I h
 refine isTrue_chain (dJ (ha pins s U H _ I h) λv s1 ⟨x,H1,I1,r1,q1⟩=>test_link (dJ (hb pins s1 U H1 _ I1 q1) λu s2 ⟨y,H2,I2,r2,q2⟩=>
  dJ (ho pins s2 U H2 x y v u _ I2 r1 r2 q2) λd s3 ⟨z,H3,I3,r3,k,e,q3⟩=>?_)) hm
 subst e;cases r3;refine wpAny_truthy_bool ?_;cases k with
 | false=>
  obtain⟨k',e',q'⟩:=q3;cases e';exact ite_ff ⟨H3,I3,q'⟩
 | true=>
  refine ite_tt (test_last (dJ (hc pins s3 U H3 _ I3 q3) λw' s4 ⟨z',H4,I4,r4,q4⟩=>dJ (X8 pins s4 U H4 y z' u w' _ I4 r2 r4 q4) λd' s5 ⟨z2,H5,I5,r5,k2,e2,q5⟩=>?_));subst e2;cases r5;exact wpAny_truthy_bool ⟨H5,I5,q5⟩
theorem AD:(sizeLine:Nat)<2^63:=by rw[sizeLine_eq];decide
theorem KK:ii X (binaryOp .Add) (λx y H Q=>∃i j,x=.str i/\y=.str j/\i.length+j.length<=sizeLine/\Q (.str (i++j)) H):=by
 intro pins s U H x y v u Q I rx ry h;obtain⟨i,j,rfl,rfl,hz,q⟩:=h;obtain⟨t,rfl⟩:=rx;obtain⟨t',rfl⟩:=ry;exact add_str (λt' tk=>⟨.str (i++j),H,I.tok _,⟨_,rfl⟩,q⟩) hz
theorem FQ(r:dM [x] us):∃u,us=[u]/\dR x u:=by
 cases r with
 | cons r1 r2=>cases r2;exact⟨_,rfl,r1⟩
theorem Tm(r:dM [x,y] us):∃u w',us=[u,w']/\dR x u/\dR y w':=by
 cases r with
 | cons r1 r2=>
  cases r2 with
  | cons r3 r4=>cases r4;exact⟨_,_,rfl,r1,r3⟩
theorem Mx(hc:X.calm=true):lf X (.builtin "min") (λxs H Q=>∃i j,xs=[.int i,.int j]/\Q (.int (if j<i then j else i)) H):=by
 intro pins s U H xs us Q I r h;obtain⟨i,j,rfl,q⟩:=h;obtain⟨u,w',rfl,⟨t,rfl⟩,⟨t',rfl⟩⟩:=Tm r;refine min_two_ints (I.ok.hd hc) λh' tk k=>⟨_,H,I.kept k,?_,q⟩;by_cases hj:j<i
 .rw[ae hj,ae hj];exact⟨_,rfl⟩
 .rw[aa hj,aa hj];exact⟨_,rfl⟩
theorem F3:lf X (.type "str") (λxs H Q=>∃i,xs=[.int i]/\i.natAbs.log2<1920/\Q (.str (toString i)) H):=by
 intro pins s U H xs us Q I r h;obtain⟨i,rfl,hz,q⟩:=h;obtain⟨u,rfl,t,rfl⟩:=FQ r;exact PySem.P.str_of_int hz ⟨.str _,H,I.tok _,⟨_,rfl⟩,q⟩
theorem Oa:lf X (.builtin "ord") (λxs H Q=>∃x,xs=[.str x]/\x.length=1/\Q (.int (x.cps.getD 0 0:Nat)) H):=by
 intro pins s U H xs us Q I r h;obtain⟨x,rfl,hz,q⟩:=h;obtain⟨u,rfl,t,rfl⟩:=FQ r;exact ord_of_one hz ⟨.int _,H,I.tok _,⟨_,rfl⟩,q⟩
end
structure zO(h:Heap)(x dx C:cS)(mA:Str->Option Value):Prop where
 obj:h.get? x=some (PySem.W.instObj C dx)
 ns:h.Ns1 dx mA
 ne:dx≠x
theorem DS{h:Heap}{dx:cS}{mA:Str->Option Value}(n:h.Ns1 dx mA):∃od,h.get? dx=some od/\∀name,PySem.W.lookIn name od=some (mA name):=by
 obtain⟨o,es,ep,ho,hd,hk,_,hm⟩:=n;refine⟨o,ho,λname=>?_⟩;have e:=hm name;unfold nsFind findBy at e;rw[←Array.find?_toList] at e;unfold PySem.W.lookIn;rw[hd];dsimp only;split
 .rename_i y q;rw[q] at e;exact au some e
 .rename_i q;rw[q] at e;have a:es.toList.any (·.refKey)=false:=by
   rw[List.any_eq_false];intro y hy;obtain⟨z,t,acu⟩:=hk y (Array.mem_toList_iff.mp hy);simp[DictEntry.refKey,acu]
  have a':¬es.toList.any (·.refKey)=true:=by rw[a];exact aq
  rw[aa a'];exact au some e
theorem zO.look(I:zO h x dx C mA):∃od,PySem.W.InstAt h x (PySem.W.instObj C dx) C (some od)/\∀name,PySem.W.lookIn name od=some (mA name):=
 let ⟨od,ho,hl⟩:=DS I.ns
 ⟨od,⟨I.obj,rfl,rfl,ho⟩,hl⟩
section
variable{prog:Program}{w:World}{A:Around}{E:Value->cU->Prop}{s:cU}{K:cV}{x dx C f:cS}{mA:Str->Option Value}{name:Str}{v:Value}
theorem Qh(X:K.In s.heap)(I:zO s.heap x dx C mA)(hg:PySem.W.plainGet K C name=true)(hh:PySem.W.hasDictIn K C=true)(ha:PySem.W.findIn K (.ref C) name=some none)(hv:mA name=some v)(hv':PySem.W.handedIn v=true)(h:Q v {s with toks:=s.toks+1}):wpAny (model prog w) A (getAttr (.ref x) name expr) Q E s:=by
 obtain⟨od,J,hl⟩:=I.look;exact PySem.W.get_value X J (PySem.W.plainGet_of hg).1 (PySem.W.findObj_own hh ha rfl (by rw[hl,hv])) hv' h
theorem Ob(X:K.In s.heap)(I:zO s.heap x dx C mA)(hg:PySem.W.plainGet K C name=true)(hf:PySem.W.findIn K (.ref C) name=some (some (.ref f)))(ht:PySem.W.isFn K (.ref f)=true)(hv:mA name=none)(h:Q (.ref f,[.ref x]) s):wpAny (model prog w) A (getMethod (.ref x) name pl) Q E s:=by
 obtain⟨od,J,hl⟩:=I.look;exact PySem.W.method_fn X J (PySem.W.plainGet_of hg).1 (PySem.W.plainGet_of hg).2 hf (ba.mp ht) (by show(PySem.W.lookIn name od).map (·.isSome)=some false;rw[hl,hv];rfl) h
theorem Qi(X:K.In s.heap)(I:zO s.heap x dx C mA)(hs:PySem.W.findIn K (.ref C) "__setattr__"=some (some (.builtin "object.__setattr__")))(hp:PySem.W.plainOver K C=true)(ht:PySem.W.takerIn K C name=some none)(hh:PySem.W.hasDictIn K C=true)(hw:PySem.Within mA ns)(hsz:ns.length<=sizeLine)(h:∀h',zO h' x dx C (λy=>if y=name then some v else mA y)->Heap.SameBut dx s.heap h'->Q () {s with heap:=h',toks:=s.toks+2}):wpAny (model prog w) A (setAttr (.ref x) name v) Q E s:=by
 obtain⟨od,J,hl⟩:=I.look;refine PySem.W.set_plain X J hs (PySem.W.osa_open (s:={s with toks:=s.toks+1}) (r:=none) X J hp ht λb=>?_);obtain⟨cd,hc,XF⟩:=PySem.W.any_some hh;have hx:s.heap.get? x=some ⟨.ref C,some dx,.plain,#[]⟩:=I.obj;refine ag (wpAny_pure (ag (ag (wpAny_loadPart hx (ag (PySem.W.Looks.here (s:={s with toks:=s.toks+1}) (PySem.W.looks_clsIn X hc) ?_))))));rw[XF];refine wpAny_pure (a:=some dx) (ag (wpAny_pure (ag ?_)));refine wpAny_nsSet1 (s:={s with toks:=s.toks+1}) I.ns λh' ZE abP=>?_;obtain⟨oD,esD,epD,adw,adx,ady⟩:=ZE.count (PySem.Within.cons name v hw);refine ag (wpAny_lookBehind adw (by rw[adx];exact pastItsLine_dict (aA ady (by rw[az];lia))) ?_);exact wpAny_pure (h _ ⟨(abP.2 _ (Ne.symm I.ne)).trans I.obj,ZE,I.ne⟩ abP)
theorem F4(X:K.In s.heap)(hm:PySem.W.makesIn K C=true)(hi:PySem.W.findIn K (.ref C) "__init__"=some (some (.ref f)))(hf:PySem.W.typeIn K (.ref f)=some (.type "function"))(h:codeAny (model prog w) (A.under (.builtin "type.__call__" ⟨.ref C::vs,kw⟩)) (.call (.ref f) ⟨.ref (s.heap.objs.size+1)::vs,kw⟩) (PySem.W.InitBack (s.heap.objs.size+1) R) {s with heap:=(s.heap.push PySem.W.emptyDict).push (PySem.W.instObj C s.heap.objs.size)}):codeAny (model prog w) A (.call (.ref C) ⟨vs,kw⟩) R s:=by
 obtain⟨hh,g,d,t,os⟩:=s;exact PySem.W.make_core (PySem.W.makes_of X hm) (PySem.W.looks_findIn X hi) (λself=>PySem.W.bind_fn X self hf) (.inl rfl) h
end
noncomputable def gZ(f:Str)(v:V):List (Str×V)->List (Str×V)
 | []=>[(f,v)]
 | (g,x)::r=>if g=f then(g,v)::r else(g,x)::gZ f v r
theorem rM(f g:Str)(v:V):∀fs:List (Str×V),(gZ f v fs).lookup g=if g=f then some v else fs.lookup g
 | []=>by
  show List.lookup g [(f,v)]=_;by_cases h:g=f
  .have hb:(g==f)=true:=ba.mpr h;simp only[List.lookup,hb,ae h]
  .have hb:(g==f)=false:=beq_eq_false_iff_ne.mpr h;simp only[List.lookup,hb,aa h]
 | (k,x)::r=>by
  have ih:=rM f g v r;rw[show gZ f v ((k,x)::r)=(if k=f then(k,v)::r else(k,x)::gZ f v r) from rfl];by_cases hk:k=f
  .rw[ae hk];by_cases h:g=k
   .have hb:(g==k)=true:=ba.mpr h;simp only[List.lookup,hb,ae (h.trans hk)]
   .have hb:(g==k)=false:=beq_eq_false_iff_ne.mpr h;simp only[List.lookup,hb,aa (λe:g=f=>h (e.trans hk.symm))]
  .rw[aa hk];by_cases h:g=k
   .have hb:(g==k)=true:=ba.mpr h;simp only[List.lookup,hb,aa (λe:g=f=>hk (h.symm.trans e))]
   .have hb:(g==k)=false:=beq_eq_false_iff_ne.mpr h;simp only[List.lookup,hb];exact ih
theorem nJ(f:Str)(v:V):∀fs:List (Str×V),f∈(gZ f v fs).map (·.1)/\∀g,g∈fs.map (·.1)->g∈(gZ f v fs).map (·.1)
 | []=>⟨by simp[gZ],λg h=>by simp at h⟩
 | (k,x)::r=>by
  obtain⟨i1,i2⟩:=nJ f v r;rw[show gZ f v ((k,x)::r)=(if k=f then(k,v)::r else(k,x)::gZ f v r) from rfl];by_cases hk:k=f
  .rw[ae hk];subst hk;exact⟨by simp,λg h=>by simpa using h⟩
  .rw[aa hk];refine⟨?_,λg h=>?_⟩
   .rw[ay];exact aP _ i1
   .rw[ay] at h ⊢;rcases aw.mp h with e|e
    .exact aw.mpr (.inl e)
    .exact aP _ (i2 g e)
theorem yL(f:Str)(v:V):∀fs:List (Str×V),(gZ f v fs).length<=fs.length+1
 | []=>by simp[gZ]
 | (k,x)::r=>by
  have ih:=yL f v r;rw[show gZ f v ((k,x)::r)=(if k=f then(k,v)::r else(k,x)::gZ f v r) from rfl];by_cases hk:k=f
  .rw[ae hk,az,az];lia
  .rw[aa hk,az,az];lia
theorem iD.some_of(r:iD (some v) o):∃u,o=some u/\dR v u:=by
 cases o with
 | none=>exact(show False from r).elim
 | some u=>exact⟨u,rfl,r⟩
theorem iD.none_of(r:iD none o):o=none:=by
 cases o with
 | none=>rfl
 | some u=>exact(show False from r).elim
theorem DT(r:dR v u):PySem.W.handedIn u=true:=by
 cases v with
 | non=>cases (show u=Value.none from r);rfl
 | bl b=>cases (show u=Value.bool b from r);rfl
 | int i=>obtain⟨t,e⟩:=(show ∃t,u=Value.int i t from r);cases e;rfl
 | str x=>obtain⟨t,e⟩:=(show ∃t,u=Value.str x t from r);cases e;rfl
 | byt b=>obtain⟨t,e⟩:=(show ∃t,u=Value.bytes b t from r);cases e;rfl
 | flt b=>obtain⟨t,e⟩:=(show ∃t,u=Value.float b t from r);cases e;rfl
 | ref a=>cases (show u=Value.ref a from r);rfl
 | ty n=>cases (show u=Value.type n from r);rfl
section
variable{P:Program}{w:World}{H H':Hp}{h h':Heap}{a C dx:cS}{fs YI:List (Str×V)}
theorem Cd(hok:gF P w H h)(e:H a=some (.ins C dx fs)):∃mA,zO h a dx C mA/\(∀f,iD (fs.lookup f) (mA f))/\PySem.Within mA (fs.map (·.1))/\fs.length<=1000/\H dx=some (.own a):=by
 obtain⟨d,z,ne,ob,mA,n,r,q⟩:=(show eR P w H h a (.ins C dx fs) from hok a _ e);exact⟨mA,⟨ob,n,ne⟩,r,q,z,d⟩
end
structure sZ(K:cV)(C:cS):Prop where
 pg:PySem.W.plainGet K C Str.empty=true
 hd:PySem.W.hasDictIn K C=true
 po:PySem.W.plainOver K C=true
 sa:PySem.W.findIn K (.ref C) "__setattr__"=some (some (.builtin "object.__setattr__"))
theorem sZ.get{K:cV}{C:cS}(c:sZ K C)(f:Str):PySem.W.plainGet K C f=true:=c.pg
def iy(K:cV)(C:cS)(f:Str):Prop:=PySem.W.findIn K (.ref C) f=some none
theorem iy.taker{K:cV}{C:cS}{f:Str}(n:iy K C f):PySem.W.takerIn K C f=some none:=by
 unfold PySem.W.takerIn;rw[show PySem.W.findIn K (.ref C) f=some none from n];rfl
structure KL(K:cV)(C:cS)(m:Str)(f:cS):Prop where
 at_:PySem.W.findIn K (.ref C) m=some (some (.ref f))
 fn:PySem.W.isFn K (.ref f)=true
 kp:PySem.W.keepIn K (.ref f)=true
section
variable{X:Cx}{pins:List (cS×Obj)}{U:St}{H:Hp}{s:cU}{a C dx:cS}{fs:List (Str×V)}{f:Str}{v:V}{A:Around}{E:Value->cU->Prop}
theorem AE(I:cY X pins U H s)(e:H a=some (.ins C dx fs))(c:sZ X.K C)(n:iy X.K C f)(l:fs.lookup f=some v)(h:∀u s',cY X pins U H s'->dR v u->Q u s'):wpAny (model X.prog X.w) A (getAttr (.ref a) f b) Q E s:=by
 obtain⟨mA,O,r,_,_,_⟩:=Cd I.hok e;obtain⟨u,hu,ru⟩:=iD.some_of (v:=v) (o:=mA f) (by rw[←l];exact r f);exact Qh I.kIn O (c.get f) c.hd n hu (DT ru) (h u _ (I.tok _) ru)
theorem AF(I:cY X pins U H s)(e:H a=some (.ins C dx fs))(c:sZ X.K C)(k:KL X.K C m g)(l:fs.lookup m=none)(h:Q (.ref g,[.ref a]) s):wpAny (model X.prog X.w) A (getMethod (.ref a) m pl) Q E s:=by
 obtain⟨mA,O,r,_,_,_⟩:=Cd I.hok e;have hn:mA m=none:=iD.none_of (by rw[←l];exact r m);exact Ob I.kIn O (c.get m) k.at_ k.fn hn h
theorem AG(I:cY X pins U H s)(e:H a=some (.ins C dx fs))(c:sZ X.K C)(n:iy X.K C f)(hl:fs.length<1000)(ry:dR y u)(h:∀s',cY X pins U (upd H a (.ins C dx (gZ f y fs))) s'->Q () s'):wpAny (model X.prog X.w) A (setAttr (.ref a) f u) Q E s:=by
 obtain⟨mA,O,r,wi,_,ho⟩:=Cd I.hok e;have hz:(fs.map (·.1)).length<=sizeLine:=by rw[af,sizeLine_eq];lia
 refine Qi I.kIn O c.sa c.po n.taker c.hd wi hz λh' O' sb=>h _ ?_;have hd:∃o,h'.get? dx=some o:=let ⟨o,_,_,e',_⟩:=O'.ns;⟨o,e'⟩;refine I.write (x:=a) (e:=dx) (by rw[e];exact True.intro) (.inr ho) (λb q hb z=>(sb.2 b hb).trans z) hd ?_;refine⟨by rw[ap O.ne];exact ho,?_,O.ne,O'.obj,_,O'.ns,λg=>?_,λg hg=>?_⟩
 .have:=yL f y fs;lia
 .show iD ((gZ f y fs).lookup g) (if g=f then some u else mA g);rw[rM];by_cases q:g=f
  .rw[ae q,ae q];exact ry
  .rw[aa q,aa q];exact r g
 .by_cases q:g=f
  .rw[q];exact(nJ f y fs).1
  .refine(nJ f y fs).2 g (wi g λz=>hg ?_);show(if g=f then some u else mA g)=none;rw[aa q];exact z
theorem cY.made(I:cY X pins U H s):cY X pins U (upd (upd H s.heap.objs.size (.own (s.heap.objs.size+1))) (s.heap.objs.size+1) (.ins C s.heap.objs.size [])) {s with heap:=(s.heap.push PySem.W.emptyDict).push (PySem.W.instObj C s.heap.objs.size)}:=by
 have e1:(s.heap.push PySem.W.emptyDict).get? s.heap.objs.size=some PySem.W.emptyDict:=aM s.heap rfl;have e2:((s.heap.push PySem.W.emptyDict).push (PySem.W.instObj C s.heap.objs.size)).get? (s.heap.objs.size+1)=some (PySem.W.instObj C s.heap.objs.size):=by
  have:=aM (s.heap.push PySem.W.emptyDict) (o:=PySem.W.instObj C s.heap.objs.size) rfl
  rwa [a8] at this
 have e3:(s.heap.push PySem.W.emptyDict).Ns s.heap.objs.size (λ_=>none):=⟨PySem.W.emptyDict,#[],_,e1,rfl,(λe he=>absurd he (by simp)),λ_=>rfl⟩;have I1:=I.laid (a:=s.heap.objs.size) (o:=.own (s.heap.objs.size+1)) (h':=s.heap.push PySem.W.emptyDict) (t':=s.toks) (λb u q=>aB _ q) (ah _) ⟨_,e1⟩;refine I1.laid (a:=s.heap.objs.size+1) (o:=.ins C s.heap.objs.size []) (t':=s.toks) (λb u q=>aB _ q) (Nat.le_of_eq (a8 _ _)) ?_;have ne:s.heap.objs.size≠s.heap.objs.size+1:=aF (bj _);refine⟨by rw[ap ne,bv],aI _,ne,e2,λ_=>none,(Heap.Ns1.of_empty e3).at λo q=>aB _ q,λ_=>True.intro,λy hy=>absurd rfl hy⟩
theorem JP(hb:attributeBase e f env (eval e env)=eval e env)(h:wpAny (model prog w) A (eval e env) (λo s₁=>wpAny (model prog w) A (getAttr o f true) Q E s₁) E s):wpAny (model prog w) A (eval (.Attribute e f pos) env) Q E s:=
 Attribute_any_ h (by rw[arm_eval_Attribute,hb])
end
def F5(K:cV)(ta:TE)(f:Str):TE:=λU H Q=>ta U H λx H1=>∃a C dx fs v,x=.ref a/\H1 a=some (.ins C dx fs)/\sZ K C/\iy K C f/\fs.lookup f=some v/\Q v H1
def Oc(K:cV)(ta tv:TE)(f:Str):TS:=λD U H=>tv U H λy H1=>ta U H1 λx H2=>∃a C dx fs,x=.ref a/\H2 a=some (.ins C dx fs)/\sZ K C/\iy K C f/\fs.length<1000/\
 D.nx U (upd H2 a (.ins C dx (gZ f y fs)))
def Ux(X:Cx)(op:Operator)(rd:V->V->Hp->VK->Prop):Prop:=
 ∀(pins:List (cS×Obj))(s:cU)(U:St)(H:Hp)(x y:V)(u v:Value)(Q:VK),cY X pins U H s->dR x u->dR y v->rd x y H Q->wpAny (model X.prog X.w) X.A (inplaceOp op u v) (EP X pins U Q) X.xe s
def Qj(K:cV)(ta tv:TE)(rd:V->V->Hp->VK->Prop)(f:Str):TS:=λD U H=>ta U H λx H1=>∃a C dx fs v,x=.ref a/\H1 a=some (.ins C dx fs)/\sZ K C/\iy K C f/\fs.lookup f=some v/\
 tv U H1 λy H2=>rd v y H2 λz H3=>∃Yf YI,H3 a=some (.ins C Yf YI)/\YI.length<1000/\D.nx U (upd H3 a (.ins C Yf (gZ f z YI)))
section
variable{X:Cx}{o e value:Expr}{f:Str}{pos pos' YO:Pos}{ta tv:TE}
theorem My(he:PE X e ta)(hb:attributeBase e f X.env (eval e X.env)=eval e X.env):PE X (.Attribute e f pos) (F5 X.K ta f):=by
 intro pins s U H Q I h;refine JP hb (dJ (he pins s U H _ I h) λu s1 ⟨x,H1,I1,rx,a,C,dx,fs,v,ex,ea,c,n,l,q⟩=>?_);subst ex;obtain rfl:u=Value.ref a:=rx;exact AE I1 ea c n l λu' s2 I2 ru=>⟨v,H1,I2,ru,q⟩
theorem RA(ha:PE X o ta)(hv:PE X value tv)(hs:swapsWith value (some (.Attribute o f pos')) pos.line X.env=pure false):PS X (.Assign [.Attribute o f pos'] value pos) (Oc X.K ta tv f):=by
 intro pins s U H D I h;refine plainObj_wpAny_Assign_Attribute (dJ (hv pins s U H _ I h) λu s1 ⟨y,H1,I1,ry,q⟩=>dJ (ha pins s1 U H1 _ I1 q) λov s2 ⟨x,H2,I2,rx,a,C,dx,fs,ex,ea,c,n,l,q2⟩=>?_) hs;subst ex;obtain rfl:ov=Value.ref a:=rx;exact AG I2 ea c n l ry λs3 I3=>⟨U,_,I3,q2⟩
theorem wn(ha:PE X o ta)(hv:PE X value tv)(hop:Ux X op rd):PS X (.AugAssign (.Attribute o f YO) op value pos) (Qj X.K ta tv rd f):=by
 intro pins s U H D I h;refine wpAny_AugAssign_AttributeAny (dJ (ha pins s U H _ I h) λov s1 ⟨x,H1,I1,rx,a,C,dx,fs,v,ex,ea,c,n,l,q⟩=>?_);subst ex;obtain rfl:ov=Value.ref a:=rx;refine AE I1 ea c n l λu s2 I2 ru=>dJ (hv pins s2 U H1 _ I2 q) λw3 s3 ⟨y,H2,I3,ry,q3⟩=>dJ (hop pins s3 U H2 v y u w3 _ I3 ru ry q3) λw4 s4 hO=>?_;obtain⟨z,H3,I4,rz,Yf,YI,ea',l',q4⟩:=hO;exact AG I4 ea' c n l' rz λs5 I5=>⟨U,_,I5,q4⟩
end
structure eJ(k:Nat)(A:Around):Prop where
 hd:A.handled=none
 dp:A.depth+3*k+5<recursionLimit
 un:A.units+16*k+200<cLine
theorem eJ.mono(r:eJ k A)(h:j<=k):eJ j A:=⟨r.hd,by have:=r.dp;lia,by have:=r.un;lia⟩
theorem eJ.deeper(r:eJ (k+1) A)(env:Env):eJ k (A.deeper env):=
 ⟨r.hd,by have:=r.dp;show A.depth+1+3*k+5<_;lia,by have:=r.un;show A.units+3+16*k+200<_;lia⟩
theorem eJ.in1(r:eJ (k+1) A):eJ k A.in1:=
 ⟨r.hd,by have:=r.dp;show A.depth+3*k+5<_;lia,by have:=r.un;show A.units+1+16*k+200<_;lia⟩
theorem AH{A:Around}{C:cS}{us:List Value}{kw:List (Str×Value)}:(A.under (.builtin "type.__call__" ⟨.ref C::us,kw⟩)).depth=A.depth+1:=by
 first|rfl|simp[Around.under,Code.weight,Code.isCreation,Code.isGuard,Code.isCaller,Code.frames,Code.isFrame,guardIds]
theorem AI{A:Around}{C:cS}{us:List Value}{kw:List (Str×Value)}:(A.under (.builtin "type.__call__" ⟨.ref C::us,kw⟩)).units=A.units+1:=by
 first|rfl|simp[Around.under,Code.cUnits,Code.frames,Code.isFrame]
theorem eJ.make(r:eJ (k+1) A)(C:cS)(us:List Value)(kw:List (Str×Value)):eJ k (A.under (.builtin "type.__call__" ⟨.ref C::us,kw⟩)):=
 ⟨r.hd,by have:=r.dp;rw[AH];lia,by have:=r.un;rw[AI];lia⟩
theorem eJ.depth(r:eJ k A):A.depth<recursionLimit:=by have:=r.dp;lia
theorem eJ.units(r:eJ k A):A.units+64<cLine:=by have:=r.un;lia
def gv:TA:=λ_ H Q=>Q [] H
def fF(ta:TE)(tr:TA):TA:=λU H Q=>ta U H λx H1=>tr U H1 λxs H2=>Q (x::xs) H2
section
variable{X:Cx}{e:Expr}{es:List Expr}{te:TE}{t:TA}{pos:Pos}
theorem eA:PA X [] gv:=λ_ _ _ _ H Q I h=>Calls.spliced_nil ⟨[],H,I,.nil,h⟩
theorem db(ha:PE X e te)(hr:PA X es t)(hs:starEach (e::es) X.env=(false,eval e X.env)::starEach es X.env:=by rfl):PA X (e::es) (fF te t):=by
 intro pos pins s U H Q I h;rw[hs];show wpAny _ _ (spliced ((false,eval e X.env)::backTo pos (starEach es X.env))) _ _ s;refine cA (dJ (ha pins s U H _ I h) λu s1 ⟨x,H1,I1,r1,q1⟩=>?_);exact dJ (hr pos pins s1 U H1 _ I1 q1) λus s2 ⟨xs,H2,I2,r2,q2⟩=>⟨x::xs,H2,I2,.cons r1 r2,q2⟩
def F6(t:TA):TE:=λU H Q=>t U H λxs H1=>xs.length<=sizeLine/\∀p,H1 p=none->Q (.ref p) (upd H1 p (.lst xs))
theorem dw(h:PA X es t):PE X (.List es pos) (F6 t):=by
 intro pins s U H Q I hq;refine wpAny_List_spliced (dJ (h pos pins s U H _ I hq) λus s1 ⟨xs,H1,I1,r,z,q⟩=>⟨by rw[←r.length];exact z,?_⟩);have hf:H1 s1.heap.objs.size=none:=I1.hok.fresh (ah _);refine⟨.ref s1.heap.objs.size,upd H1 s1.heap.objs.size (.lst xs),I1.laid (t':=s1.toks) (λb u e=>aB _ e) (ah _) ?_,rfl,q _ hf⟩;exact⟨z,us,0,r,aM _ rfl⟩
end
abbrev Sp:=List V->Hp->VK->XK->Prop
abbrev pJ:=List Env->Hp->cU->XK->Value->cU->Prop
structure mL(P:Program)(w:World)(K:cV)(mg:Str->Option Value)(base:Heap)(A:Around)(outer:List Env)(s:cU)(H:Hp):Prop where
 frames:A.frames=some outer
 mod:Mod K mg base
 bs:∀b o,base.get? b=some o->s.heap.get? b=some o/\H b=none
 bsz:base.objs.size<=s.heap.objs.size
 funs:s.heap.FunFrames base outer
 frf:∀b∈YJ outer,H b=none
 hok:gF P w H s.heap
 bare:AllBare s.gens
def CE(outer:List Env)(P:Program)(w:World)(H:Hp)(s:cU)(Q:VK)(u:Value)(s':cU):Prop:=
 ∃v H',s'.os=s.os/\AllBare s'.gens/\Un (YJ outer) [] H H' s.heap s'.heap/\gF P w H' s'.heap/\dR v u/\Q v H'
def CR(CX:pJ)(outer:List Env)(P:Program)(w:World)(H:Hp)(s:cU)(Q:VK)(E:XK)(r:Result)(s':cU):Prop:=
 match r with
 | .ok (.ret u)=>CE outer P w H s Q u s'
 | .ok _=>False
 | .error e=>CX outer H s E e s'
structure eS(P:Program)(w:World)(K:cV)(mg:Str->Option Value)(base:Heap)(CX:pJ)(k:Nat)(f:cS)(fd:cT)(ps:List Str)(sp:Sp):Prop where
 len:∀vs H Q E,sp vs H Q E->vs.length=ps.length
 run:∀(A:Around)(outer:List Env)(s:cU)(H:Hp)(args:Args)(us:List Value)(vs:List V)(Q:VK)(E:XK),eJ k A->mL P w K mg base A outer s H->BindsTo s fd args (ps.zip us)->dM vs us->sp vs H Q E->
  codeAny (model P w) A (.call (.ref f) args) (CR CX outer P w H s Q E) s
theorem mL.make{P:Program}{w:World}{K:cV}{mg:Str->Option Value}{base:Heap}{A:Around}{outer:List Env}{s:cU}{H:Hp}(e:mL P w K mg base A outer s H)(C:cS)(us:List Value)(kw:List (Str×Value)):mL P w K mg base (A.under (.builtin "type.__call__" ⟨.ref C::us,kw⟩)) outer s H:=⟨by first|exact e.frames|(simpa [Around.under,Code.envs,Code.isFrame,pushEnvs] using e.frames),e.mod,e.bs,e.bsz,e.funs,e.frf,e.hok,e.bare⟩
theorem mL.in1{P:Program}{w:World}{K:cV}{mg:Str->Option Value}{base:Heap}{A:Around}{outer:List Env}{s:cU}{H:Hp}(e:mL P w K mg base A outer s H):mL P w K mg base A.in1 outer s H:=⟨e.frames,e.mod,e.bs,e.bsz,e.funs,e.frf,e.hok,e.bare⟩
section
variable{X:Cx}{pins:List (cS×Obj)}{U:St}{H:Hp}{s s':cU}
theorem cY.env0(I:cY X pins U H s):mL X.prog X.w X.K X.mg X.base X.A X.stack s H:=
 ⟨I.ok.frames,I.ok.mod,I.bs,aA I.ok.bsz I.sz,I.stack,I.stkFree,I.hok,I.bare⟩
theorem cY.after(I:cY X pins U H s)(h:CE X.stack X.prog X.w H s Q u s'):EP X pins U Q u s':=by
 obtain⟨v,H',os,bare,un,hok,r,q⟩:=h;obtain⟨hh,g,d,t,os'⟩:=s';obtain rfl:os'=s.os:=os;exact⟨v,H',I.call (h':=hh) (g':=g) (d':=d) (t':=t) (ch:=[]) un hok bare (λb z=>absurd z (by simp)),r,q⟩
end
def ma(sp:Sp)(dvs:List V)(E:XK)(t:TA):TE:=λU H Q=>t U H λvs H1=>sp (vs++dvs) H1 Q E
def m6(C:cS)(m:Str)(sp:Sp)(dvs:List V)(E:XK)(ta:TE)(t:TA):TE:=λU H Q=>ta U H λx H1=>∃a dx fs,x=.ref a/\H1 a=some (.ins C dx fs)/\fs.lookup m=none/\
 t U H1 λvs H2=>sp (x::(vs++dvs)) H2 Q E
def qN(C:cS)(sp:Sp)(dvs:List V)(E:XK)(t:TA):TE:=λU H Q=>t U H λvs H1=>∀x dx,H1 x=none->H1 dx=none->dx≠x->
 sp (.ref x::(vs++dvs)) (upd (upd H1 dx (.own x)) x (.ins C dx [])) (λv H2=>v=.non/\Q (.ref x) H2) E
def gW(K:cV)(fd:cT)(ps:List Str)(ds:List Value):Prop:=
 ∀(s:cU)(us:List Value),K.In s.heap->(us++ds).length=ps.length->BindsTo s fd ⟨us,[]⟩ (ps.zip (us++ds))
theorem gW.all{K:cV}{fd:cT}{ps:List Str}(h:∀us:List Value,us.length=ps.length->bindArgs fd ⟨us,[]⟩=pure (ps.zip us)):gW K fd ps []:=λs us _ hl=>by
 rw[aZ] at hl ⊢;exact .of_eq (h us hl)
def g0(CX:pJ)(X:Cx)(E:XK):Prop:=∀(pins:List (cS×Obj))(U:St)(H:Hp)(s:cU)(e:Value)(s':cU),cY X pins U H s->CX X.stack H s E e s'->X.xe e s'
section
variable{X:Cx}{CX:pJ}{k:Nat}{f C:cS}{fd:cT}{ps:List Str}{sp:Sp}{dvs:List V}{ds:List Value}{E:XK}{x m:Str}{p pos apos:Pos}{e o:Expr}{es:List Expr}{ta:TE}{t:TA}
theorem wo(F:eS X.prog X.w X.K X.mg X.base CX k f fd ps sp)(hr:eJ k X.A)(hb:gW X.K fd ps ds)(hd:dM dvs ds)(hx:g0 CX X E)(I:cY X pins U H s)(r:dM vs us)(h:sp (vs++dvs) H Q E):wpAny (model X.prog X.w) X.A (call (.ref f) us) (EP X pins U Q) X.xe s:=by
 have r2:dM (vs++dvs) (us++ds):=r.append hd;have hl:(us++ds).length=ps.length:=by rw[←r2.length];exact F.len _ _ _ _ h
 refine wpAny_call (bu (F.run X.A X.stack s H ⟨us,[]⟩ (us++ds) (vs++dvs) Q E hr I.env0 (hb s us I.kIn hl) r2 h) λr s' hq=>?_);cases r with
 | error e=>exact hx pins U H s e s' I hq
 | ok fl=>
  cases fl with
  | ret u=>exact I.after hq
  | next=>exact False.elim hq
  | brk=>exact False.elim hq
  | cont=>exact False.elim hq
theorem Qk(F:eS X.prog X.w X.K X.mg X.base CX k f fd ps sp)(hr:eJ k X.A)(hg:Gl X x)(hm:X.mg x=some (.ref f))(hk:PySem.W.keepIn X.K (.ref f)=true)(hb:gW X.K fd ps ds)(hd:dM dvs ds)(hx:g0 CX X E)(ha:PA X (e::es) t)(XI:(x==("__debug__":Str))=false:=by decide)(he:starEach (e::es) X.env=(false,eval e X.env)::starEach es X.env:=by rfl)(Xj:(backTo pos (starEach es X.env)).any (·.1)=false:=by rfl):PE X (.Call (.Name x p) (e::es) [] pos) (ma sp dvs E t):=by
 intro pins s U H Q I h;refine wpAny_Call_Name_kw (jP I hg hm ?_ XI);refine bK (h₀:=X.base) I.ok.mod.kin hk (dJ (ha pos pins s U H _ I h) λus s1 ⟨vs,H1,I1,r,q⟩=>⟨I1.kIn,?_⟩) he Xj;exact wo F hr hb hd hx I1 r q
theorem Od(F:eS X.prog X.w X.K X.mg X.base CX k f fd ps sp)(hr:eJ k X.A)(hg:Gl X x)(hm:X.mg x=some (.ref f))(hk:PySem.W.keepIn X.K (.ref f)=true)(hb:gW X.K fd ps ds)(hd:dM dvs ds)(hx:g0 CX X E)(XI:(x==("__debug__":Str))=false:=by decide):PE X (.Call (.Name x p) [] [] pos) (ma sp dvs E gv):=by
 intro pins s U H Q I h;refine wpAny_Call_Name_kw (jP I hg hm ?_ XI);exact PySem.W.callWith_K0 I.kIn hk (wo (us:=[]) F hr hb hd hx I .nil h)
theorem Ql(he:PE X o ta)(c:sZ X.K C)(hm:KL X.K C m f)(F:eS X.prog X.w X.K X.mg X.base CX k f fd ps sp)(hr:eJ k X.A)(hb:gW X.K fd ps ds)(hd:dM dvs ds)(hx:g0 CX X E)(ha:PA X (e::es) t)(Xf:starEach (e::es) X.env=(false,eval e X.env)::starEach es X.env:=by rfl)(Xj:(backTo pos (starEach es X.env)).any (·.1)=false:=by rfl)(ht:eval (.Call (.Attribute o m apos) (e::es) [] pos) X.env=(do let ov ←eval o X.env;standAt apos.atName;let (f,first) ←holding [ov] (getMethod ov m pl);callWith pos f first (backTo pos (starEach (e::es) X.env)) (backToKw pos (keywordEach [] X.env))):=by rfl):PE X (.Call (.Attribute o m apos) (e::es) [] pos) (m6 C m sp dvs E ta t):=by
 intro pins s U H Q I h;refine PySem.W.methodCall_KW (pl:=pl) (dJ (he pins s U H _ I h) λu s1 ⟨x,H1,I1,rx,a,dx,fs,ex,ea,l,q⟩=>?_) ht;subst ex;obtain rfl:u=Value.ref a:=rx;refine AF I1 ea c hm l ?_;refine bK (first:=[.ref a]) (h₀:=X.base) I.ok.mod.kin hm.kp (dJ (ha pos pins s1 U H1 _ I1 q) λus s2 ⟨vs,H2,I2,r,q2⟩=>⟨I2.kIn,?_⟩) Xf Xj;exact wo (us:=.ref a::us) (vs:=.ref a::vs) F hr hb hd hx I2 (.cons rfl r) q2
theorem Oe(he:PE X o ta)(c:sZ X.K C)(hm:KL X.K C m f)(F:eS X.prog X.w X.K X.mg X.base CX k f fd ps sp)(hr:eJ k X.A)(hb:gW X.K fd ps ds)(hd:dM dvs ds)(hx:g0 CX X E)(ht:eval (.Call (.Attribute o m apos) [] [] pos) X.env=(do let ov ←eval o X.env;standAt apos.atName;let (f,first) ←holding [ov] (getMethod ov m pl);callWith pos f first (backTo pos (starEach [] X.env)) (backToKw pos (keywordEach [] X.env))):=by rfl):PE X (.Call (.Attribute o m apos) [] [] pos) (m6 C m sp dvs E ta gv):=by
 intro pins s U H Q I h;refine PySem.W.methodCall_KW (pl:=pl) (dJ (he pins s U H _ I h) λu s1 ⟨x,H1,I1,rx,a,dx,fs,ex,ea,l,q⟩=>?_) ht;subst ex;obtain rfl:u=Value.ref a:=rx;refine AF I1 ea c hm l ?_;exact PySem.W.callWith_K0 (first:=[.ref a]) I1.kIn hm.kp (wo (us:=[.ref a]) (vs:=[.ref a]) F hr hb hd hx I1 (.cons rfl .nil) q)
structure Mk(K:cV)(C f:cS):Prop where
 makes:PySem.W.makesIn K C=true
 init:PySem.W.findIn K (.ref C) "__init__"=some (some (.ref f))
 fn:PySem.W.isFn K (.ref f)=true
 kp:PySem.W.keepIn K (.ref C)=true
theorem F7(M:Mk X.K C f)(F:eS X.prog X.w X.K X.mg X.base CX k f fd ps sp)(hr:eJ (k+1) X.A)(hb:gW X.K fd ps ds)(hd:dM dvs ds)(hx:g0 CX X E)(I:cY X pins U H s)(r:dM vs us)(h:∀x dx,H x=none->H dx=none->dx≠x->sp (.ref x::(vs++dvs)) (upd (upd H dx (.own x)) x (.ins C dx [])) (λv H2=>v=.non/\Q (.ref x) H2) E):wpAny (model X.prog X.w) X.A (call (.ref C) us) (EP X pins U Q) X.xe s:=by
 have hq:=h (s.heap.objs.size+1) s.heap.objs.size (I.hok.fresh (Nat.le_succ _)) (I.hok.fresh (ah _)) (aF (bj _));have I2:=cY.made (C:=C) I;have r2:dM (V.ref (s.heap.objs.size+1)::(vs++dvs)) (Value.ref (s.heap.objs.size+1)::(us++ds)):=.cons rfl (r.append hd);have hl:(Value.ref (s.heap.objs.size+1)::us++ds).length=ps.length:=by
  have e:=r2.length;rw[F.len _ _ _ _ hq] at e;exact e.symm
 refine wpAny_call (F4 (f:=f) I.kIn M.makes M.init (ba.mp M.fn) (bu (F.run _ X.stack _ _ ⟨Value.ref (s.heap.objs.size+1)::us,[]⟩ (Value.ref (s.heap.objs.size+1)::(us++ds)) _ _ E (hr.make C us [])
  (I2.env0.make C us []) (hb _ (Value.ref (s.heap.objs.size+1)::us) I2.kIn hl) r2 hq) λr s' YV=>?_))
 cases r with
 | error e=>exact hx pins U _ _ e s' I2 YV
 | ok fl=>
  cases fl with
  | ret u=>
   obtain⟨v,H',I3,rv,ev,q3⟩:=I2.after YV;subst ev;exact⟨rv,⟨V.ref (s.heap.objs.size+1),H',I3,rfl,q3⟩⟩
  | next=>exact False.elim YV
  | brk=>exact False.elim YV
  | cont=>exact False.elim YV
theorem Qm(M:Mk X.K C f)(F:eS X.prog X.w X.K X.mg X.base CX k f fd ps sp)(hr:eJ (k+1) X.A)(hg:Gl X x)(hm:X.mg x=some (.ref C))(hb:gW X.K fd ps ds)(hd:dM dvs ds)(hx:g0 CX X E)(ha:PA X (e::es) t)(XI:(x==("__debug__":Str))=false:=by decide)(he:starEach (e::es) X.env=(false,eval e X.env)::starEach es X.env:=by rfl)(Xj:(backTo pos (starEach es X.env)).any (·.1)=false:=by rfl):PE X (.Call (.Name x p) (e::es) [] pos) (qN C sp dvs E t):=by
 intro pins s U H Q I h;refine wpAny_Call_Name_kw (jP I hg hm ?_ XI);refine bK (h₀:=X.base) I.ok.mod.kin M.kp (dJ (ha pos pins s U H _ I h) λus s1 ⟨vs,H1,I1,r,q⟩=>⟨I1.kIn,?_⟩) he Xj;exact F7 M F hr hb hd hx I1 r q
theorem Of(M:Mk X.K C f)(F:eS X.prog X.w X.K X.mg X.base CX k f fd ps sp)(hr:eJ (k+1) X.A)(hg:Gl X x)(hm:X.mg x=some (.ref C))(hb:gW X.K fd ps ds)(hd:dM dvs ds)(hx:g0 CX X E)(XI:(x==("__debug__":Str))=false:=by decide):PE X (.Call (.Name x p) [] [] pos) (qN C sp dvs E gv):=by
 intro pins s U H Q I h;refine wpAny_Call_Name_kw (jP I hg hm ?_ XI);exact PySem.W.callWith_K0 I.kIn M.kp (F7 (us:=[]) M F hr hb hd hx I .nil h)
end
def PK(X:Cx)(kws:List Keyword)(t:TA):Prop:=
 ∀(pos:Pos)(pins:List (cS×Obj))(s:cU)(U:St)(H:Hp)(Q:List V->Hp->Prop),cY X pins U H s->t U H Q->wpAny (model X.prog X.w) X.A (evalAll ((backToKw pos (keywordEach kws X.env)).map (·.2))) (AP X pins U Q) X.xe s
section
variable{X:Cx}{CX:pJ}{k:Nat}{f C:cS}{fd:cT}{ps ks:List Str}{sp:Sp}{E:XK}{x m:Str}{p pos apos kpos:Pos}{e o:Expr}{es:List Expr}{kws:List Keyword}{te ta:TE}{t tk:TA}{nm:Option Str}
theorem RB:PK X [] gv:=λ_ _ _ _ H Q I h=>wpAny_evalAll_nil ⟨[],H,I,.nil,h⟩
theorem Qn(ha:PE X e te)(hr:PK X kws t):PK X (⟨nm,e,kpos⟩::kws) (fF te t):=by
 intro pos pins s U H Q I h;show wpAny _ _ (evalAll ((do let v ←eval e X.env;standAt pos;pure v)::(backToKw pos (keywordEach kws X.env)).map (·.2))) _ _ s;refine wpAny_evalAll_cons (ag (dJ (ha pins s U H _ I h) λu s1 ⟨x,H1,I1,r1,q1⟩=>ag (wpAny_standAt (wpAny_pure ?_))));exact dJ (hr pos pins s1 U H1 _ I1 q1) λus s2 ⟨xs,H2,I2,r2,q2⟩=>⟨x::xs,H2,I2,.cons r1 r2,q2⟩
variable{g:List Value->List Value->List Value}{gV:List V->List V->List V}
end
structure jm(N P:List Str)(sc:Scope):Prop where
 kind:sc.kind=.function
 co:sc.isCoroutine=false
 gen:sc.isGenerator=false
 nd:N.Nodup
 pre:N.take P.length=P
 par:∀x∈P,sc.names.lookup x=some .local ∨sc.names.lookup x=some .cell
 nofree:∀y∈sc.names,y.2≠.free
theorem DU{kindOf:Str->Option NameKind}{x:Str}:∀{binds:List (Str×Value)} {m:Str->Option Value},(∀v,(x,v)∉binds)->bindL kindOf binds m x=m x
 | [],_,_=>rfl
 | (n,v)::r,m,h=>by
  unfold bindL;rw[DU λw hw=>h w (aP _ hw)];split
  .have:x≠n:=by rintro rfl;exact h v aU
   simp[this]
  .rfl
theorem DV{kindOf:Str->Option NameKind}{x:Str}:∀{binds:List (Str×Value)} {m:Str->Option Value},(∀v,(x,v)∉binds)->bindC kindOf binds m x=m x
 | [],_,_=>rfl
 | (n,v)::r,m,h=>by
  unfold bindC;rw[DV λw hw=>h w (aP _ hw)];split
  .rfl
  .have:x≠n:=by rintro rfl;exact h v aU
   simp[this]
theorem DW{kindOf:Str->Option NameKind}{x:Str}{v:Value}:∀{P:List Str} {vs:List Value} {i:Nat} {m:Str->Option Value},P.Nodup->P[i]?=some x->vs[i]?=some v->kindOf x=some .local->bindL kindOf (P.zip vs) m x=some v
 | [],_,_,_,_,h,_,_=>by simp at h
 | _::_,[],_,_,_,_,h,_=>by simp at h
 | p::P,w::vs,0,m,nd,h1,h2,hk=>by
  simp at h1 h2;subst h1;subst h2;show bindL kindOf ((p,w)::P.zip vs) m p=_;unfold bindL;rw[DU λv hv=>(bL.mp nd).1 (bS hv).1,ae hk];simp
 | p::P,w::vs,i+1,m,nd,h1,h2,hk=>by
  show bindL kindOf ((p,w)::P.zip vs) m x=_;unfold bindL;exact DW (i:=i) (bL.mp nd).2 (by simpa using h1) (by simpa using h2) hk
theorem DX{kindOf:Str->Option NameKind}{x:Str}{v:Value}:∀{P:List Str} {vs:List Value} {i:Nat} {m:Str->Option Value},P.Nodup->P[i]?=some x->vs[i]?=some v->kindOf x≠some .local->bindC kindOf (P.zip vs) m x=some v
 | [],_,_,_,_,h,_,_=>by simp at h
 | _::_,[],_,_,_,_,h,_=>by simp at h
 | p::P,w::vs,0,m,nd,h1,h2,hk=>by
  simp at h1 h2;subst h1;subst h2;show bindC kindOf ((p,w)::P.zip vs) m p=_;unfold bindC;rw[DV λv hv=>(bL.mp nd).1 (bS hv).1,aa hk];simp
 | p::P,w::vs,i+1,m,nd,h1,h2,hk=>by
  show bindC kindOf ((p,w)::P.zip vs) m x=_;unfold bindC;exact DX (i:=i) (bL.mp nd).2 (by simpa using h1) (by simpa using h2) hk
noncomputable def start(N:List Str)(vs:List V):St:=vs.map some++List.replicate (N.length-vs.length) none
noncomputable def j7(CX:pJ)(P:Program)(w:World)(K:cV)(mg:Str->Option Value)(base:Heap)(N:List Str)(qual:Str)(scope:Scope)(f:cS)(cd:Value)(A:Around)(outer:List Env)(s:cU)(H:Hp)(E:XK):Cx where
 prog:=P
 w:=w
 K:=K
 mg:=mg
 base:=base
 A:=A.deeper (envOfC qual scope s.heap.objs.size f cd)
 N:=N
 s_0:=s
 H_0:=H
 env:=envOfC qual scope s.heap.objs.size f cd
 outer:=outer
 stack:=envOfC qual scope s.heap.objs.size f cd::outer
 ex:=[]
 calm:=true
 fn:=λ_=>true
 pn:=[]
 xe:=λe s'=>wpAny (model P w) (A.deeper (envOfC qual scope s.heap.objs.size f cd)) (leaving (envOfC qual scope s.heap.objs.size f cd) e) (λ_ Zt=>CX outer H s E e Zt) (λe' Zt=>CX outer H s E e' Zt) s'
theorem F8{sc:Scope}{n:Nat}{x:Str}(h:sc.names.lookup x=some .cell):∃c,(cellsFrom n sc.names []).lookup x=some c:=by
 have q:=PySem.W.cellsFrom_some sc.names n [] (.inl h);exact Option.isSome_iff_exists.mp q
theorem DY{CX:pJ}{P:Program}{w:World}{K:cV}{mg:Str->Option Value}{base:Heap}{N ps:List Str}{qual:Str}{scope:Scope}{f:cS}{cd:Value}{A:Around}{outer:List Env}{s s1:cU}{H:Hp}{E:XK}{us:List Value}{vs:List V}(S:jm N ps scope)(hd:A.handled=none)(e0:mL P w K mg base A outer s H)(hl:vs.length=ps.length)(r:dM vs us)(x:InCallC s s.heap.objs.size (bindL (envOfC qual scope s.heap.objs.size f cd).kindOf (ps.zip us) λ_=>none) (cellsFrom (s.heap.objs.size+1) scope.names []) (bindC (envOfC qual scope s.heap.objs.size f cd).kindOf (ps.zip us) λ_=>none) s1):cY (j7 CX P w K mg base N qual scope f cd A outer s H E) [] (start N vs) H s1:=by
 have Xj:ps.length<=N.length:=by have:=au List.length S.pre;rw[aL] at this;lia
 obtain⟨h1,tk,rfl,hk⟩:=x.done;have aa3:∀b:cS,b∉(j7 CX P w K mg base N qual scope f cd A outer s H E).ex:=λb z=>absurd (show b∈([]:List cS) from z) (by simp)
 refine⟨⟨e0.mod,S.kind,rfl,rfl,ah _,λy z c h1 h2=>?_,λy hy=>?_,λy c _ h=>?_,λ_=>hd,Around.frames_deeper e0.frames,.inr ⟨rfl,rfl⟩,λb z=>absurd z (aa3 b),e0.bs,e0.bsz,λb _ _=>aa3 b,λb z=>absurd z (aa3 b),e0.funs,e0.frf⟩,
  rfl,e0.bare,Un.kept hk,⟨_,x.toInCall.ns,λi y v h1 h2 h3=>?_⟩,λy c h=>⟨_,x.cell y c h⟩,e0.hok.fresh (ah _),λy c h=>?_,λp hp=>absurd (show p∈([]:List (cS×Obj)) from hp) (by simp),e0.hok.kept hk,?_⟩
 .exact name_of_addr x.apart (aV h1) (aV h2)
 .have hy:scope.names.lookup y=some .cell∨scope.names.lookup y=some .free:=hy;rcases hy with hy|hy
  .exact F8 hy
  .exact absurd rfl (S.nofree _ (aV hy))
 .exact a9 (x.above y c (aV h))
 .have hi:i<vs.length:=by
   unfold start at h2;by_cases hi:i<vs.length
   .exact hi
   .rw[cj (by simpa using hi)] at h2;rw[List.getElem?_replicate] at h2;split at h2<;>cases h2
  have ha:vs[i]?=some v:=by
   unfold start at h2;rw[cK (by simpa using hi),ak] at h2;cases e:vs[i]? with
   | none=>rw[e] at h2;cases h2
   | some a=>rw[e] at h2;cases h2;rfl
  obtain⟨u,hu,rv⟩:=r.get ha;have hp:ps[i]?=some y:=by
   rw[←S.pre,List.getElem?_take_of_lt (by lia)];exact h1
  have afv:ps.Nodup:=by rw[←S.pre];exact S.nd.sublist (List.take_sublist _ _)
  refine⟨u,rv,?_⟩;rcases S.par y (aJ hp) with k|k
  .exact .inl ⟨k,DW afv hp hu k⟩
  .obtain⟨c,e⟩:=F8 (n:=s.heap.objs.size+1) k;refine .inr ⟨.inl k,c,e,?_⟩;have q:=x.cell y c e;rw[DX afv hp hu (by show scope.names.lookup y≠_;rw[k];decide)] at q;exact q
 .exact e0.hok.fresh (a9 (x.above y c (aV h)))
 .unfold start;show _=N.length;rw[aC,af,List.length_replicate]
  lia
theorem Pr{CX:pJ}{P:Program}{w:World}{K:cV}{mg:Str->Option Value}{base:Heap}{k:Nat}{f:cS}{name qual:Str}{params:Arguments}{body:List Stmt}{scope:Scope}{dV kV doc pm W8 ct oc:Value}{an od:Option cS}{XU:Array (Option Value)}{N ps:List Str}{sp:Sp}(lk:K.lookup f=some ⟨oc,od,.func (PySem.W.fnOf name qual params body scope dV kV doc pm an W8 ct),XU⟩)(YU:PySem.W.codeIn K W8 qual=true)(S:jm N ps scope)(len:∀vs H Q E,sp vs H Q E->vs.length=ps.length)(Yg:∀(A:Around)(outer:List Env)(s:cU)(H:Hp)(vs:List V)(Q:VK)(E:XK),eJ k (A.deeper (envOfC qual scope s.heap.objs.size f W8))->sp vs H Q E->∃t,kK (j7 CX P w K mg base N qual scope f W8 A outer s H E) body t/\t {nx:=λ_ H'=>Q .non H',rt:=Q} (start N vs) H):eS P w K mg base CX (k+1) f (PySem.W.fnOf name qual params body scope dV kV doc pm an W8 ct) ps sp:=by
 refine⟨len,λA outer s H args us vs Q E hr e0 hb r Xn=>?_⟩;have hl:=len _ _ _ _ Xn;have KX:K.In s.heap:=e0.mod.kin.keeps λb o e=>(e0.bs b o e).1;have lim:s.heap.NoLimit:=e0.mod.nolimit.keeps λb o e=>(e0.bs b o e).1;have abw:∀y∈ps.zip us,scope.names.lookup y.1=some .local ∨(scope.names.lookup y.1=some .cell/\((cellsFrom (s.heap.objs.size+1) scope.names []).lookup y.1).isSome=true):=λ⟨n,v⟩ hy=>by
  rcases S.par n (bS hy).1 with q|q
  .exact .inl q
  .exact .inr ⟨q,PySem.W.cellsFrom_some _ _ _ (.inl q)⟩
 refine codeAny_call_function hr.depth (KX _ _ lk) rfl S.co S.gen rfl (PySem.W.codeRec_of KX YU) (hb _ _ _ _ ?_);refine wpAny_newFunctionEnv_cells S.kind abw λenv he s1 x=>?_;subst he;refine⟨lim.keeps x.toInCall.keep,codeAny_func ?_⟩;obtain⟨t,ht,hq⟩:=Yg A outer s H vs Q E (hr.deeper _) Xn;have I:cY (j7 CX P w K mg base N qual scope f W8 A outer s H E) [] (start N vs) H s1:=DY S hr.hd e0 hl r x;refine aK (ht [] s1 (start N vs) H _ I hq) (λfl s' hs=>?_) λe s' hs=>hs;have fin:∀{U':St} {H':Hp} {v:V} {u:Value},cY (j7 CX P w K mg base N qual scope f W8 A outer s H E) [] U' H' s'->dR v u->Q v H'->CE outer P w H s Q u s':=
  λ{U' H' v u} J rv q=>⟨v,H',J.os,J.bare,J.base,J.hok,rv,q⟩
 cases fl with
 | ret u=>
  obtain⟨v,U',H',J,rv,q⟩:=hs;exact fin J rv q
 | next=>
  obtain⟨U',H',J,q⟩:=hs;exact fin (v:=V.non) (u:=Value.none) J rfl q
 | brk=>
  obtain⟨_,_,_,q⟩:=hs;exact False.elim q
 | cont=>
  obtain⟨_,_,_,q⟩:=hs;exact False.elim q
section
variable{X:Cx}{x:Str}{p pos:Pos}{e:Expr}{es:List Expr}{t:TA}{id T:String}{r:List V->Hp->VK->Prop}
def Ps(r:List V->Hp->VK->Prop)(t:TA):TE:=λU H Q=>t U H λvs H1=>r vs H1 Q
theorem uu(hc:lf X (.builtin id) r)(hg:Gl X x)(hm:X.mg x=none)(hv:bootBuiltins x=some (.builtin id))(ha:PA X (e::es) t)(hn:x≠"__name__":=by decide)(XI:(x==("__debug__":Str))=false:=by decide)(he:starEach (e::es) X.env=(false,eval e X.env)::starEach es X.env:=by rfl)(Xj:(backTo pos (starEach es X.env)).any (·.1)=false:=by rfl):PE X (.Call (.Name x p) (e::es) [] pos) (Ps r t):=by
 intro pins s U H Q I h;refine wpAny_Call_Name_kw (kL I hg hm hv ?_ hn XI);exact PyProof.Rows.callWith_builtin1 (dJ (ha pos pins s U H _ I h) λus s1 ⟨vs,H1,I1,r1,q1⟩=>hc pins s1 U H1 vs us Q I1 r1 q1) he Xj
theorem j8(hc:lf X (.type T) r)(hg:Gl X x)(hm:X.mg x=none)(hv:bootBuiltins x=some (.type T))(ha:PA X (e::es) t)(hn:x≠"__name__":=by decide)(XI:(x==("__debug__":Str))=false:=by decide)(he:starEach (e::es) X.env=(false,eval e X.env)::starEach es X.env:=by rfl)(Xj:(backTo pos (starEach es X.env)).any (·.1)=false:=by rfl):PE X (.Call (.Name x p) (e::es) [] pos) (Ps r t):=by
 intro pins s U H Q I h;refine wpAny_Call_Name_kw (kL I hg hm hv ?_ hn XI);exact bR (dJ (ha pos pins s U H _ I h) λus s1 ⟨vs,H1,I1,r1,q1⟩=>hc pins s1 U H1 vs us Q I1 r1 q1) he Xj
end
end L2
namespace HT
open PySem PyProof.Rows
section
variable{prog:Program}{w:World}{A:Around}{E:Value->cU->Prop}{s:cU}
noncomputable def oR(n d:Nat):Option Int->Nat
 | none=>d
 | some v=>if v<0 then(v+(n:Int)).toNat else min v.toNat n
theorem x5(n d k:Nat):oR n d (some (k:Int))=min k n:=by
 show(if(k:Int)<0 then((k:Int)+(n:Int)).toNat else min (k:Int).toNat n)=min k n;rw[aa (by lia),bM]
end
end HT
namespace L2
open PySem PySem.Spec PyProof.Rows
abbrev TO:=St->Hp->(Option Int->Hp->Prop)->Prop
namespace Z
@[scoped irreducible]def _root_.L2.PO(X:Cx)(e:Option Expr)(t:TO):Prop:=
 ∀(pins:List (cS×Obj))(s:cU)(U:St)(H:Hp)(Q:Option Int->Hp->Prop),cY X pins U H s->t U H Q->
  wpAny (model X.prog X.w) X.A (evalPart e X.env) (λu s'=>∃o H',cY X pins U H' s'/\IsPart u o/\Q o H') X.xe s
end Z
def Pt(t:TE):TO:=λU H Q=>t U H λx H1=>∃i,x=.int i/\Q (some i) H1
section
variable{X:Cx}{e:Expr}{te:TE}{lo hi:Option Expr}{tl th:TO}{pos p2:Pos}
theorem lO(h:PE X e te):PO X (some e) (Pt te):=by
 intro pins s U H Q I hw;rw[evalPart_some];refine dJ (h pins s U H _ I hw) λu s1 hO=>?_;obtain⟨x,H1,I1,r1,q1⟩:=hO;obtain⟨i,rfl,q⟩:=q1;obtain⟨t,rfl⟩:=r1;exact⟨some i,H1,I1,.int i t,q⟩
def Uh(X:Cx)(r:V->Option Int->Option Int->Hp->VK->Prop):Prop:=
 ∀(pins:List (cS×Obj))(s:cU)(U:St)(H:Hp)(x:V)(v vl vu:Value)(lo hi:Option Int)(sl:cS)(Q:VK),cY X pins U H s->dR x v->s.heap.IsSliceOf sl vl vu .none->IsPart vl lo->IsPart vu hi->r x lo hi H Q->
  ∃T id,typeLookup (.type T) "__getitem__"=pure (some (.builtin id))/\s.TypeIs v T/\wpAny (model X.prog X.w) X.A (getItem v (.ref sl)) (EP X pins U Q) X.xe s
def Ui(r:V->Option Int->Option Int->Hp->VK->Prop)(te:TE)(tl th:TO):TE:=λU H Q=>te U H λx H1=>tl U H1 λl H2=>th U H2 λu H3=>r x l u H3 Q
theorem uv(hr:Uh X r)(he:PE X e te)(hl:PO X lo tl)(hu:PO X hi th):PE X (.Subscript e (.Slice lo hi none p2) pos) (Ui r te tl th):=by
 intro pins s U H Q I h;refine Subscript_ (dJ (he pins s U H _ I h) λv s1 ⟨x,H1,I1,r1,q1⟩=>?_);refine wpAny_Slice (dJ (hl pins s1 U H1 _ I1 q1) λvl s2 ⟨l,H2,I2,pl,q2⟩=>dJ (hu pins s2 U H2 _ I2 q2) λvu s3 ⟨u,H3,I3,pu,q3⟩=>?_);rw[evalPart_none];refine wpAny_pure ?_;have I4:cY X pins U H3 {s3 with heap:=s3.heap.push {cls:=.type "slice",data:=.fields #[vl,vu,.none]}}:=I3.kept (t':=s3.toks) λb ob q=>aB _ q;obtain⟨T,id,hT,ht,hg⟩:=hr pins {s3 with heap:=s3.heap.push {cls:=.type "slice",data:=.fields #[vl,vu,.none]}} U H3 x v vl vu l u s3.heap.objs.size Q I4 r1 (Heap.IsSliceOf.new ..) pl pu q3;show wpAny (model X.prog X.w) X.A (subscriptTail e (.Slice lo hi none p2) v (.ref s3.heap.objs.size)) (EP X pins U Q) X.xe {s3 with heap:=s3.heap.push {cls:=.type "slice",data:=.fields #[vl,vu,.none]}};exact tail_any (ops:=[.ref s3.heap.objs.size,v]) ht hT hg (by with_unfolding_all rfl)
def wq(xs:List V)(lo hi:Option Int):List V:=(xs.drop (HT.oR xs.length 0 lo)).take (HT.oR xs.length xs.length hi-HT.oR xs.length 0 lo)
theorem Iw(xs:List V)(lo hi:Option Int):(wq xs lo hi).length<=xs.length:=by
 unfold wq;rw[aL,aT]
 lia
end
noncomputable def JQ(n:Nat)(i:Int):Option Nat:=if 0<=i then(if i<n then some i.toNat else none) else if -(n:Int)<=i then some (i+n).toNat else none
def DZ{α:Type}(xs:List α)(i:Int):Option α:=(JQ xs.length i).bind λj=>xs[j]?
theorem Qo(h:JQ n i=some j):seqIndex? i n=some j/\j<n/\-(n:Int)<=i/\i<n:=by
 unfold JQ at h;by_cases h0:0<=i
 .rw[ae h0] at h;by_cases h1:i<n
  .rw[ae h1] at h;have e:i.toNat=j:=aH h;exact⟨by rw[seqIndex_of h0 h1,e],by lia,by lia,h1⟩
  .rw[aa h1] at h;cases h
 .rw[aa h0] at h;by_cases h1:-(n:Int)<=i
  .rw[ae h1] at h;have e:(i+n).toNat=j:=aH h;exact⟨by rw[seqIndex_neg (by lia) h1,e],by lia,h1,by lia⟩
  .rw[aa h1] at h;cases h
theorem Ce(h:DZ xs i=some v):∃j,seqIndex? i xs.length=some j/\xs[j]?=some v/\j<xs.length/\-(xs.length:Int)<=i/\i<xs.length:=by
 unfold DZ at h;cases e:JQ xs.length i with
 | none=>rw[e] at h;cases h
 | some j=>
  rw[e] at h;obtain⟨h1,h2,h3,h4⟩:=Qo e;exact⟨j,h1,h,h2,h3,h4⟩
theorem JR{α:Type}{xs:List α}{j:Nat}{v:α}(h:xs[j]?=some v):DZ xs (j:Int)=some v:=by
 have hj:j<xs.length:=(ax.mp h).1;have e:JQ xs.length (j:Int)=some j:=by
  unfold JQ;rw[ae (by lia),ae (by lia)];simp
 unfold DZ;rw[e];exact h
def JS(b:Expr):Prop:=∀o i,subscripted b false o i=operate [o,i] (getItem o i)
def Pu(X:Cx)(r:R2):Prop:=
 ∀(value slice:Expr)(pins:List (cS×Obj))(s:cU)(U:St)(H:Hp)(x y:V)(v u:Value)(Q:VK),cY X pins U H s->dR x v->dR y u->r x y H Q->
  subscripted slice false v u=operate [v,u] (getItem v u)->wpAny (model X.prog X.w) X.A (subscriptTail value slice v u) (EP X pins U Q) X.xe s
def RC(X:Cx)(id:String)(r:V->List V->Hp->VK->Prop):Prop:=
 ∀(pins:List (cS×Obj))(s:cU)(U:St)(H:Hp)(x:V)(xs:List V)(v:Value)(us:List Value)(Q:VK),cY X pins U H s->dR x v->dM xs us->r x xs H Q->
  wpAny (model X.prog X.w) X.A (call (.builtin id) (v::us)) (EP X pins U Q) X.xe s
section
variable{X:Cx}{a b:Expr}{ta tb:TE}{pos:Pos}
theorem qO(hr:Pu X r)(ha:PE X a ta)(hb:PE X b tb)(hs:JS b):PE X (.Subscript a b pos) (kM r ta tb):=by
 intro pins s U H Q I h;exact Subscript_ (N8 ha hb I h λv u s2 x y H2 I2 rx ry q=>hr a b pins s2 U H2 x y v u Q I2 rx ry q (hs _ _))
def KM(K:cV):R2:=λx y H Q=>∃p xs i v,x=.ref p/\y=.int i/\dU K H p xs/\DZ xs i=some v/\Q v H
def RD(K:cV):R2:=λx y H Q=>∃p xs i v,x=.ref p/\y=.int i/\jk K H p xs/\DZ xs i=some v/\Q v H
def KN:R2:=λx y H Q=>∃z i c,x=.str z/\y=.int i/\z.length<=sizeLine/\DZ z.cps.toList i=some c/\Q (.str ⟨#[c]⟩) H
theorem Qp:Pu X (KM X.K):=by
 intro value slice pins s U H x y v u Q I rx ry h hs;obtain⟨p,xs,i,z,rfl,rfl,hq,he,q⟩:=h;cases rx;obtain⟨t,rfl⟩:=ry;obtain⟨Xa,r,pl,hz⟩:=I.list hq;obtain⟨j,h1,h2,h3,h4,h5⟩:=Ce he;obtain⟨w,ew,YW⟩:=r.get h2;have hl:=r.length;have hn:=AD;have fin:EP X pins U Q w s:=⟨z,H,I,YW,q⟩;by_cases h0:0<=i
 .have hj:i.toNat=j:=by
   rw[seqIndex_of h0 h5] at h1;exact aH h1
  exact item_listR pl.isList h0 (by lia) (by rw[hj];simpa using ew) fin hs
 .have hj:(i+(Xa.toArray.size:Int)).toNat=j:=by
   rw[seqIndex_neg (by lia) h4] at h1;rw[aG,←hl];exact aH h1
  exact subscriptTail_builtinR (x:=w) pl.isList.typeIs slot_list_getitem.lookup
   (wpAny_getItem_list_neg (Q:=λr s'=>r=w/\EP X pins U Q r s') pl.isList (by lia) (by rw[aG]<;>lia) (by lia) (by rw[hj];simpa using ew) ⟨rfl,fin⟩) hs
theorem Mz:Pu X (RD X.K):=by
 intro value slice pins s U H x y v u Q I rx ry h hs;obtain⟨p,xs,i,z,rfl,rfl,hq,he,q⟩:=h;cases rx;obtain⟨t,rfl⟩:=ry;obtain⟨Xa,r,pl,hz⟩:=I.tuple hq;obtain⟨j,h1,h2,h3,h4,h5⟩:=Ce he;obtain⟨w,ew,YW⟩:=r.get h2;have hl:=r.length;have hn:=AD;have fin:EP X pins U Q w s:=⟨z,H,I,YW,q⟩;exact subscriptTail_builtinR (x:=w) pl.typeIs slot_tuple_getitem.lookup
  (getItem_tuple (j:=j) (Q:=λr s'=>r=w/\EP X pins U Q r s') pl (by lia) (by lia) (by rw[aG,←hl];exact h1) (by simpa using ew) ⟨rfl,fin⟩) hs
theorem wt:Pu X KN:=by
 intro value slice pins s U H x y v u Q I rx ry h hs;obtain⟨z,i,c,rfl,rfl,hz,he,q⟩:=h;obtain⟨t,rfl⟩:=rx;obtain⟨t',rfl⟩:=ry;obtain⟨j,h1,h2,h3,h4,h5⟩:=Ce he;have hl:z.cps.toList.length=z.length:=by simp[Str.length]
 rw[hl] at h1 h4 h5;have hn:=AD
 exact tail_any (typeIs_str s z t) slot_str_getitem.lookup (getItem_str (c:=c) (by
  have e1:decide (i< -(2^63:Int))=false:=a6 (by lia);have e2:decide (i≥2^63)=false:=a6 (by lia)
  rw[e1,e2,Bool.or_false]) (by rw[h1];simpa using h2) ⟨.str ⟨#[c]⟩,H,I.tok _,⟨_,rfl⟩,q⟩) hs
theorem F9(lo hi:Option Int)(n:Nat):(sliceBounds lo hi none n).1=((HT.oR n 0 lo:Nat):Int)/\(sliceBounds lo hi none n).2.1=((HT.oR n n hi:Nat):Int)/\(sliceBounds lo hi none n).2.2=1:=by
 refine⟨?_,?_,rfl⟩
 .cases lo with
  | none=>simp[sliceBounds,HT.oR]
  | some i=>
   simp only[sliceBounds,HT.oR,Option.getD_none,show(1:Int)>0 by decide,if_true];by_cases h:i<0
   .simp only[h,if_true]<;>lia
   .simp only[h,if_false]<;>lia
 .cases hi with
  | none=>simp[sliceBounds,HT.oR]
  | some i=>
   simp only[sliceBounds,HT.oR,Option.getD_none,show(1:Int)>0 by decide,if_true];by_cases h:i<0
   .simp only[h,if_true]<;>lia
   .simp only[h,if_false]<;>lia
theorem EL(Xa:List Value)(lo hi:Option Int):slicePick Xa.toArray lo hi none=((Xa.drop (HT.oR Xa.length 0 lo)).take (HT.oR Xa.length Xa.length hi-HT.oR Xa.length 0 lo)).toArray:=by
 obtain⟨h1,h2,h3⟩:=F9 lo hi Xa.toArray.size;unfold slicePick;rw[h1,h2,h3];simp only[sliceRange_one,pick_run,aG]<;>rfl
def Og(K:cV):V->Option Int->Option Int->Hp->VK->Prop:=λx lo hi H Q=>∃a xs,x=.ref a/\dU K H a xs/\∀p,H p=none->Q (.ref p) (upd H p (.lst (wq xs lo hi)))
theorem ya:Uh X (Og X.K):=by
 intro pins s U H x v vl vu lo hi sl Q I rx hs pl pu h;obtain⟨a,xs,rfl,hx,q⟩:=h;cases rx;obtain⟨Xa,r,ht,hz⟩:=I.list hx;have hlen:=r.length;refine⟨"list",_,slot_list_getitem.lookup,ht.isList.typeIs,?_⟩;refine wpAny_getItem_list_slice ht.isList hs pl pu .none (by simp) ?_ (by rw[aG]<;>lia);rw[EL,←hlen];refine⟨.ref s.heap.objs.size,_,I.laid (t':=s.toks) (o:=.lst (wq xs lo hi)) (λb ob q=>aB _ q) (ah _) ?_,rfl,q _ (I.hok.fresh (ah _))⟩;exact⟨aA (Iw xs lo hi) hz,_,0,(r.drop (HT.oR xs.length 0 lo)).take (HT.oR xs.length xs.length hi-HT.oR xs.length 0 lo),aM _ rfl⟩
noncomputable def qP:V->Bool
 | .non=>true
 | .bl _=>true
 | .int _=>true
 | .str _=>true
 | _=>false
noncomputable def D5:V->V->Bool
 | .non,.non=>true
 | .bl a,.bl b=>a==b
 | .bl a,.int b=>(if a then 1 else 0)==b
 | .int a,.bl b=>a==(if b then 1 else 0)
 | .int a,.int b=>a==b
 | .str a,.str b=>a==b
 | _,_=>false
theorem RE(ry:dR y u)(rx:dR x v)(fy:qP y=true)(fx:qP x=true):SeqAt.EqAt A s u v (D5 y x):=by
 cases y with
 | non=>
  cases ry;cases x with
  | non=>cases rx;exact SeqAt.EqAt.same _
  | bl b=>cases rx;exact SeqAt.EqAt.none_bool b
  | int b=>obtain⟨t,rfl⟩:=rx;exact SeqAt.EqAt.none_int b t
  | str b=>obtain⟨t,rfl⟩:=rx;exact SeqAt.EqAt.none_str b t
  | _=>exact absurd (show false=true from fx) aq
 | bl a=>
  cases ry;cases x with
  | non=>cases rx;exact SeqAt.EqAt.bool_none a
  | bl b=>cases rx;exact SeqAt.EqAt.bool_bool a b
  | int b=>obtain⟨t,rfl⟩:=rx;exact SeqAt.EqAt.bool_int a b t
  | str b=>obtain⟨t,rfl⟩:=rx;exact SeqAt.EqAt.bool_str a b t
  | _=>exact absurd (show false=true from fx) aq
 | int a=>
  obtain⟨t',rfl⟩:=ry;cases x with
  | non=>cases rx;exact SeqAt.EqAt.int_none a t'
  | bl b=>cases rx;exact SeqAt.EqAt.int_bool a t' b
  | int b=>obtain⟨t,rfl⟩:=rx;exact SeqAt.EqAt.int_int a t' b t
  | str b=>obtain⟨t,rfl⟩:=rx;exact SeqAt.EqAt.int_str a t' b t
  | _=>exact absurd (show false=true from fx) aq
 | str a=>
  obtain⟨t',rfl⟩:=ry;cases x with
  | non=>cases rx;exact SeqAt.EqAt.str_none a t'
  | bl b=>cases rx;exact SeqAt.EqAt.str_bool a t' b
  | int b=>obtain⟨t,rfl⟩:=rx;exact SeqAt.EqAt.str_int a t' b t
  | str b=>obtain⟨t,rfl⟩:=rx;exact SeqAt.EqAt.str_str a t' b t
  | _=>exact absurd (show false=true from fx) aq
 | _=>exact absurd (show false=true from fy) aq
def pK(x:V)(u:Value):Bool:=match u with
 | .none=>D5 .non x
 | .bool b=>D5 (.bl b) x
 | .int i _=>D5 (.int i) x
 | .str z _=>D5 (.str z) x
 | _=>false
theorem MA(r:dR y u)(f:qP y=true):pK x u=D5 y x:=by
 cases y with
 | non=>cases r;rfl
 | bl b=>cases r;rfl
 | int i=>obtain⟨t,rfl⟩:=r;rfl
 | str z=>obtain⟨t,rfl⟩:=r;rfl
 | _=>exact absurd (show false=true from f) aq
theorem tj:∀{xs:List V} {us:List Value},dM xs us->xs.all qP=true->us.any (pK x)=xs.any λy=>D5 y x
 | _,_,.nil,_=>rfl
 | y::xs,u::us,.cons r t,f=>by
  rw[List.all_cons,aS] at f;rw[bT,bT,MA r f.1,tj t f.2]
theorem pL(rx:dR x v)(fx:qP x=true):∀{xs:List V} {us:List Value},dM xs us->xs.all qP=true->∀u∈us,SeqAt.EqAt A s u v (pK x u)
 | _,_,.nil,_=>λu hu=>by cases hu
 | y::xs,u::us,.cons r t,f=>λu' hu=>by
  rw[List.all_cons,aS] at f;rcases aw.mp hu with rfl|hu
  .rw[MA r f.1];exact RE r rx f.1 fx
  .exact pL rx fx t f.2 u' hu
def MB(x:V)(xs:List V):Bool:=xs.any λy=>D5 y x
def Uj(K:cV)(neg:Bool):R2:=λx y H Q=>∃p xs,y=.ref p/\(dU K H p xs∨jk K H p xs)/\qP x=true/\xs.all qP=true/\Q (.bl (if neg then !MB x xs else MB x xs)) H
theorem MC:ii X (compareOp .In) (Uj X.K false):=by
 intro pins s U H x y v u Q I rx ry h;obtain⟨p,xs,rfl,hq,fx,fs,q⟩:=h;cases ry;rcases hq with hq|hq
 .obtain⟨Xa,r,pl,hz⟩:=I.list hq;refine SeqAt.in_listAt (pK x) pl.isList (λw hw=>pL rx fx r fs w (by simpa using hw)) ⟨.bl _,H,I,rfl,?_⟩;rw[show Xa.toArray.any (pK x)=Xa.any (pK x) by simp,tj r fs];exact q
 .obtain⟨Xa,r,pl,hz⟩:=I.tuple hq;refine SeqAt.in_tupleAt (pK x) pl (λw hw=>pL rx fx r fs w (by simpa using hw)) ⟨.bl _,H,I,rfl,?_⟩;rw[show Xa.toArray.any (pK x)=Xa.any (pK x) by simp,tj r fs];exact q
theorem Ga:ii X (compareOp .NotIn) (Uj X.K true):=by
 intro pins s U H x y v u Q I rx ry h;obtain⟨p,xs,rfl,hq,fx,fs,q⟩:=h;cases ry;rcases hq with hq|hq
 .obtain⟨Xa,r,pl,hz⟩:=I.list hq;refine SeqAt.notIn_listAt (pK x) pl.isList (λw hw=>pL rx fx r fs w (by simpa using hw)) ⟨.bl _,H,I,rfl,?_⟩;rw[show Xa.toArray.any (pK x)=Xa.any (pK x) by simp,tj r fs];exact q
 .obtain⟨Xa,r,pl,hz⟩:=I.tuple hq;refine SeqAt.notIn_tupleAt (pK x) pl (λw hw=>pL rx fx r fs w (by simpa using hw)) ⟨.bl _,H,I,rfl,?_⟩;rw[show Xa.toArray.any (pK x)=Xa.any (pK x) by simp,tj r fs];exact q
theorem wu:lf X (.builtin "len") (λxs H Q=>∃p ys,xs=[.ref p]/\(dU X.K H p ys∨jk X.K H p ys)/\Q (.int ys.length) H):=by
 intro pins s U H xs us Q I r h;obtain⟨p,ys,rfl,hq,q⟩:=h;obtain⟨u,rfl,rx⟩:=FQ r;cases rx;have hn:=AD;rcases hq with hq|hq
 .obtain⟨Xa,r',pl,hz⟩:=I.list hq;have hlen:=r'.length;exact Calls.call_len_list pl.isList (by simp only[aG]<;>lia) ⟨.int ys.length,H,I.tok _,⟨s.toks+1,by rw[aG,hlen]⟩,q⟩
 .obtain⟨Xa,r',pl,hz⟩:=I.tuple hq;have hlen:=r'.length;exact len_tuple pl (by simp only[aG]<;>lia) ⟨.int ys.length,H,I.tok _,⟨s.toks+1,by rw[aG,hlen]⟩,q⟩
theorem EM:lf X (.type "tuple") (λxs H Q=>∃p ys,xs=[.ref p]/\((dU X.K H p ys/\∀l,H l=none->Q (.ref l) (upd H l (.tup ys)))∨(jk X.K H p ys/\Q (.ref p) H))):=by
 intro pins s U H xs us Q I r h;obtain⟨p,ys,rfl,h⟩:=h;obtain⟨u,rfl,rx⟩:=FQ r;cases rx;rcases h with ⟨hq,q⟩|⟨hq,q⟩
 .obtain⟨Xa,r',pl,hz⟩:=I.list hq;have hlen:=r'.length;refine call_tuple_list pl.isList (λh' kp=>?_) (by simp only[aG]<;>lia);have I1:cY X pins U H {s with heap:=h'}:=I.kept (t':=s.toks) kp;have I2:cY X pins U (upd H h'.objs.size (.tup ys)) {s with heap:=h'.push {cls:=.type "tuple",data:=.seq Xa.toArray}}:=
   I1.laid (t':=s.toks) (λb o e=>aB _ e) (ah _) (show eR X.prog X.w _ _ _ (.tup ys) from ⟨hz,Xa,r',IsTup.new _ _⟩)
  exact⟨.ref h'.objs.size,_,I2,rfl,q _ (I1.hok.fresh (ah _))⟩
 .obtain⟨Xa,r',pl,hz⟩:=I.tuple hq;exact call_tuple_same pl ⟨.ref p,H,I,rfl,q⟩
def Pw(K:cV)(T:String)(x:V)(H:Hp):Prop:=match x with
 | .str _=>T="str"
 | .int _=>T="int"
 | .ref p=>(T="list"/\∃xs,dU K H p xs)∨(T="tuple"/\∃o,K.lookup p=some o/\o.cls=.type "tuple"/\o.dict=none)∨
   (T="dict"/\((∃kvs,H p=some (.dK kvs))∨∃kvs,H p=some (.dT kvs)))∨(T="set"/\∃S n,H p=some (.set S n))
 | _=>False
theorem RF(I:cY X pins U H s)(r:dR x v)(ty:Pw X.K T x H):s.TypeIs v T/\∀a,v=.ref a->∃ob,s.heap.get? a=some ob/\ob.dict=none:=by
 cases x with
 | str z=>
  obtain⟨t,rfl⟩:=r;cases (show T="str" from ty);exact⟨typeIs_str s z t,λ_ e=>nomatch e⟩
 | int i=>
  obtain⟨t,rfl⟩:=r;cases (show T="int" from ty);exact⟨typeIs_int s i t,λ_ e=>nomatch e⟩
 | ref p=>
  cases r;rcases ty with ⟨rfl,xs,hq⟩|⟨rfl,o,hk,hc,hd⟩|⟨rfl,hk⟩|⟨rfl,S,n,hk⟩
  .obtain⟨Xa,_,pl,_⟩:=I.list hq;refine⟨pl.isList.typeIs,λa e=>?_⟩;cases e;obtain⟨o,n,e,c,hd,_⟩:=pl;exact⟨o,e,hd⟩
  .refine⟨⟨o,I.kIn p o hk,hc⟩,λa e=>?_⟩;cases e;exact⟨o,I.kIn _ o hk,hd⟩
  .have z:∃o,s.heap.get? p=some o/\o.ExactDict:=by
    rcases hk with ⟨kvs,hk⟩|⟨kvs,hk⟩
    .obtain⟨_,_,_,_,o,_,_,e,ex,_⟩:=I.hok p _ hk;exact⟨o,e,ex⟩
    .obtain⟨_,_,_,_,o,_,_,e,ex,_⟩:=I.hok p _ hk;exact⟨o,e,ex⟩
   obtain⟨o,e,ex⟩:=z;refine⟨⟨o,e,ex.1⟩,λa e2=>?_⟩;cases e2;exact⟨o,e,ex.2.1⟩
  .obtain⟨o,_,_,_,e,ex,_⟩:=I.hok p _ hk;refine⟨⟨o,e,ex.1⟩,λa e2=>?_⟩;cases e2;exact⟨o,e,ex.2.1⟩
 | _=>exact False.elim ty
def MD(K:cV)(T:String)(r:V->List V->Hp->VK->Prop)(to:TE)(t:TA):TE:=λU H Q=>to U H λx H1=>Pw K T x H1/\t U H1 λxs H2=>r x xs H2 Q
variable{o e:Expr}{es:List Expr}{to:TE}{t:TA}{name:Str}{apos Yz:Pos}{T id:String}{r:V->List V->Hp->VK->Prop}
theorem KO(pa:PlainAttrs T)(slot:Slot T name id)(aa4:typeOf (.builtin id)=pure (.type "method_descriptor"))(hm:RC X id r)(ho:PE X o to)(ha:PA X (e::es) t)(X0:attributeBase o name X.env (eval o X.env)=eval o X.env:=by rfl)(aaB:((backTo Yz (starEach (e::es) X.env)).all (λx=>!x.1)&&(backToKw Yz (keywordEach [] X.env)).all (λx=>x.1.isSome)&&decide ((e::es).length+([]:List Keyword).length+(if([]:List Keyword).isEmpty then 0 else 1)<30))=true:=by rfl)(Yh:(apos.endLine==Yz.line)=true:=by rfl)(hs:starEach (e::es) X.env=(false,eval e X.env)::starEach es X.env:=by rfl)(adz:(backTo Yz (starEach es X.env)).any (·.1)=false:=by rfl):PE X (.Call (.Attribute o name apos) (e::es) [] Yz) (MD X.K T r to t):=by
 intro pins s U H Q I h;refine wpAny_Call_method_late X0 aaB Yh rfl (dJ (ho pins s U H _ I h) λv s1 ⟨x,H1,I1,r1,ty,q1⟩=>?_);obtain⟨h1,h2⟩:=RF I1 r1 ty;refine⟨T,id,pa,slot,aa4,h1,h2,?_⟩;have hA:=ha Yz pins s1 U H1 _ I1 q1;rw[hs] at hA ⊢;refine Calls.callWith_builtin (by show(false||(backTo Yz (starEach es X.env)).any (·.1))=false;rw[adz]<;>rfl) (Calls.evalArgs_plain ?_);exact dJ hA λus s2 ⟨vs,H2,I2,r2,q2⟩=>hm pins s2 U H2 x vs v us Q I2 r1 r2 q2
end
def Uk(X:Cx)(id:String)(r:V->List V->Hp->VK->Prop):Prop:=
 ∀(pins:List (cS×Obj))(s:cU)(U:St)(H:Hp)(x:V)(xs:List V)(v:Value)(us:List Value)(Q:VK),cY X pins U H s->dR x v->dM xs us->r x xs H Q->
  wpAny (model X.prog X.w) X.A (call (.builtin id) (v::us)) (EP X pins U Q) X.xe s
theorem dM.one:∀{x:V} {us:List Value},dM [x] us->∃u,us=[u]/\dR x u
 | _,_,.cons r .nil=>⟨_,rfl,r⟩
theorem dM.reverse(h:dM xs us):dM xs.reverse us.reverse:=by
 induction h with
 | nil=>exact .nil
 | cons r t ih=>rw[ck,ck];exact dM.append ih (.cons r .nil)
section
variable{X:Cx}{pins:List (cS×Obj)}{U:St}{H:Hp}{s:cU}{l b:cS}{xs ys zs:List V}
theorem cY.lset{Xa its':List Value}{n:Nat}{f:Array Value->Array Value}{t':Nat}(I:cY X pins U H s)(hH:H l=some (.lst xs))(e:s.heap.get? l=some {cls:=.type "list",data:=.seq Xa.toArray n})(hf:f Xa.toArray=its'.toArray)(hv:dM ys its')(hz:ys.length<=sizeLine):cY X pins U (upd H l (.lst ys)) {s with heap:=s.heap.update l (Obj.mapSeq f),toks:=t'}:=by
 have q:=PySem.IsL.update e f;rw[hf] at q;refine I.write (x:=l) (e:=l) (by rw[hH];exact trivial) (.inl rfl) (λb' u hb hu=>(bB s.heap (Obj.mapSeq f) (Ne.symm hb)).trans hu) ⟨_,q⟩ ?_;exact⟨hz,its',_,hv,q⟩
theorem cY.lnew(I:cY X pins U H s)(hv:dM ys Xa)(hz:ys.length<=sizeLine):cY X pins U (upd H s.heap.objs.size (.lst ys)) {s with heap:=s.heap.push {cls:=.type "list",data:=.seq Xa.toArray},toks:=t'}:=
 I.laid (λ_ _ q=>aB _ q) (ah _) ⟨hz,Xa,0,hv,aM _ rfl⟩
theorem cY.fresh(I:cY X pins U H s):H s.heap.objs.size=none:=I.hok.fresh (ah _)
theorem cY.lstM(I:cY X pins U H s)(hH:H l=some (.lst xs)):xs.length<=sizeLine/\∃(Xa:List Value)(n:Nat),dM xs Xa/\xs.length=Xa.length/\s.heap.get? l=some {cls:=.type "list",data:=.seq Xa.toArray n}:=by
 obtain⟨z,Xa,n,r,e⟩:=I.hok l _ hH;exact⟨z,Xa,n,r,r.length,e⟩
theorem Oh(h:n<=sizeLine):Builtin.List.listTooLong n=false:=by
 unfold Builtin.List.listTooLong;exact a6 (by lia)
end
section
variable{X:Cx}
def Cf:V->List V->Hp->VK->Prop:=λx vs H Q=>∃l xs y,x=.ref l/\vs=[y]/\H l=some (.lst xs)/\xs.length<sizeLine/\Q .non (upd H l (.lst (xs++[y])))
theorem D9:Uk X "list.append" Cf:=by
 intro pins s U H x vs v us Q I rx rv h;obtain⟨l,xs,y,rfl,rfl,hH,hz,q⟩:=h;cases rx;obtain⟨u,rfl,ru⟩:=rv.one;obtain⟨z,Xa,n,r,hl,e⟩:=I.lstM hH;refine call_meets F.slot_list_append ⟨_,e,rfl⟩ F.entry_list_append (F.args_list_append_2 _ _) (PySem.list_append l Xa.toArray n u (by rw[aG];lia)) ⟨e,?_⟩;refine⟨.non,_,I.lset (its':=Xa++[u]) hH e (by simp) (r.append (.cons ru .nil)) ?_,rfl,q⟩;rw[aC,bN]
 lia
def yb:V->List V->Hp->VK->Prop:=λx vs H Q=>∃l b xs zs,x=.ref l/\vs=[.ref b]/\H l=some (.lst xs)/\H b=some (.lst zs)/\xs.length+zs.length<=sizeLine/\Q .non (upd H l (.lst (xs++zs)))
theorem ME:Uk X "list.extend" yb:=by
 intro pins s U H x vs v us Q I rx rv h;obtain⟨l,b,xs,zs,rfl,rfl,hH,hB,hz,q⟩:=h;cases rx;obtain⟨u,rfl,ru⟩:=rv.one;cases ru;obtain⟨z,Xa,n,r,hl,e⟩:=I.lstM hH;obtain⟨z2,YA,n2,r2,Y8,e2⟩:=I.lstM hB;have hsz:Xa.toArray.size+YA.toArray.size<=sizeLine:=by rw[aG,aG];lia
 have afg:¬(!Xa.toArray.isEmpty&&Builtin.List.listTooLong (Xa.toArray.size+YA.toArray.size))=true:=by
  rw[Oh hsz,Bool.and_false];exact aq
 refine call_meets F.slot_list_extend ⟨_,e,rfl⟩ F.entry_list_extend (F.args_list_extend_2 _ _)
  (AutoSeq1.list_extend_list_list_0 l Xa.toArray n b YA.toArray n2 afg (by rw[aG];lia) (by lia)) ⟨e,e2,?_⟩
 refine⟨.non,_,I.lset (its':=Xa++YA) hH e (by simp) (r.append r2) ?_,rfl,q⟩;rw[aC]
 lia
def RG:R2:=λx y H Q=>∃l b xs zs,x=.ref l/\y=.ref b/\H l=some (.lst xs)/\H b=some (.lst zs)/\xs.length+zs.length<=sizeLine/\∀p,H p=none->Q (.ref p) (upd H p (.lst (xs++zs)))
theorem RH:ii X (binaryOp .Add) RG:=by
 intro pins s U H x y v u Q I rx ry h;obtain⟨l,b,xs,zs,rfl,rfl,hH,hB,hz,q⟩:=h;cases rx;cases ry;obtain⟨z,Xa,n,r,hl,e⟩:=I.lstM hH;obtain⟨z2,YA,n2,r2,Y8,e2⟩:=I.lstM hB;refine PySem.P.add_list e e2 ?_ (by rw[aG,aG];lia);have ea:Xa.toArray++YA.toArray=(Xa++YA).toArray:=by simp
 rw[ea];exact⟨.ref _,_,I.lnew (t':=s.toks) (r.append r2) (by rw[aC];lia),rfl,q _ I.fresh⟩
end
section
theorem dM.ref1(r:dM [V.ref a] us):us=[Value.ref a]:=by
 cases r with
 | cons r t=>
  cases t;cases r;rfl
mutual
inductive Dp (K:cV) (H:Hp):V->PyData->Prop
 | non:Dp K H .non .none
 | bl (b:Bool):Dp K H (.bl b) (.bool b)
 | int (i:Int):Dp K H (.int i) (.int i)
 | str (x:Str):Dp K H (.str x) (.str x)
 | lst {a:cS} {xs:List V} {ds:List PyData}:dU K H a xs->uw K H xs ds->Dp K H (.ref a) (.list ds)
 | tup {a:cS} {xs:List V} {ds:List PyData}:jk K H a xs->uw K H xs ds->Dp K H (.ref a) (.tuple ds)
inductive uw (K:cV) (H:Hp):List V->List PyData->Prop
 | nil:uw K H [] []
 | cons {v:V} {vs:List V} {d:PyData} {ds:List PyData}:Dp K H v d->uw K H vs ds->uw K H (v::vs) (d::ds)
end
section
variable{X:Cx}{pins:List (cS×Obj)}{U:St}{H:Hp}{s:cU}
mutual
theorem Dp.reads(I:cY X pins U H s):∀(d:PyData)(v:V)(u:Value),Dp X.K H v d->dR v u->∃as,Reads s.heap u d as
 | .none,_,_,h,r=>by
  cases h;cases r;exact⟨_,Reads.none⟩
 | .bool b,_,_,h,r=>by
  cases h;cases r;exact⟨_,Reads.bool b⟩
 | .int i,_,_,h,r=>by
  cases h;obtain⟨t,rfl⟩:=r;exact⟨_,Reads.int i t⟩
 | .str x,_,_,h,r=>by
  cases h;obtain⟨t,rfl⟩:=r;exact⟨_,Reads.str x t⟩
 | .list ds,_,_,h,r=>by
  cases h with
  | lst hs ha=>
   cases r;obtain⟨Xa,rv,⟨o,n,ho,hc,_,hd⟩,_⟩:=I.list hs;obtain⟨as,hr⟩:=Dp.readsAll I ds _ Xa ha rv;exact⟨_,Reads.list ho hc hd hr⟩
 | .tuple ds,_,_,h,r=>by
  cases h with
  | tup hs ha=>
   cases r;obtain⟨Xa,rv,⟨o,ho,hc,n,hd⟩,_⟩:=I.tuple hs;obtain⟨as,hr⟩:=Dp.readsAll I ds _ Xa ha rv;exact⟨_,Reads.tuple ho hc hd hr⟩
 | .dict _,_,_,h,_=>by cases h
theorem Dp.readsAll(I:cY X pins U H s):∀(ds:List PyData)(vs:List V)(us:List Value),uw X.K H vs ds->dM vs us->∃as,ReadsAll s.heap us ds as
 | [],_,_,h,r=>by
  cases h;cases r;exact⟨_,ReadsAll.nil⟩
 | d::ds,_,_,h,r=>by
  cases h with
  | cons h1 h2=>
   cases r with
   | cons r1 r2=>
    obtain⟨as,q1⟩:=Dp.reads I d _ _ h1 r1;obtain⟨bs,q2⟩:=Dp.readsAll I ds _ _ h2 r2;exact⟨_,ReadsAll.cons q1 q2⟩
end
end
section
variable{X:Cx}
def Uy(K:cV):R2:=λx y H Q=>∃d e,Dp K H x d/\Dp K H y e/\SeqAt.shaped d=true/\SeqAt.shaped e=true/\Q (.bl (!PyData.eqv d e)) H
theorem RI(hu:X.A.units+64<cLine):ii X (compareOp .NotEq) (Uy X.K):=by
 intro pins s U H x y v u Q I rx ry h;obtain⟨d,e,hd,he,sd,se,q⟩:=h;obtain⟨as,r1⟩:=Dp.reads I d x v hd rx;obtain⟨bs,r2⟩:=Dp.reads I e y u he ry;exact SeqAt.compareNe_shaped r1 r2 sd se hu ⟨.bl _,H,I,rfl,q⟩
end
end
abbrev MF(h:Heap)(c:cS)(v:Option Value):Prop:=h.IsCell c v
noncomputable def Uz(scope sc:Scope):Scope:=
 {scope with names:=scope.names.map λ(n,k)=>if(k == .free&&sc.kind == .function&&sc.names.lookup n==some .cell) then(n,.cell) else(n,k)}
noncomputable def fG(cells:List (Str×cS)):List (Str×NameKind)->List (Str×cS)->List (Str×cS)
 | [],acc=>acc
 | (n,k)::r,acc=>if k == .free then fG cells r ((n,(cells.lookup n).getD 0)::acc) else fG cells r acc
theorem wv(env:Env)(f:Str×NameKind->List (Str×cS)->Sem (ForInStep (List (Str×cS))))(hf:∀n k c,f (n,k) c=if k == .free then(do let a ←cellOf env n;pure (.yield ((n,a)::c))) else pure (.yield c)):∀(names:List (Str×NameKind))(acc:List (Str×cS)),(∀y∈names,y.2=.free->∃c,env.cells.lookup y.1=some c)->forIn names acc f=pure (fG env.cells names acc)
 | [],acc,_=>by rw[List.forIn_nil];rfl
 | (n,k)::r,acc,h=>by
  rw[List.forIn_cons,hf];have ih:=λacc=>wv env f hf r acc λy hy=>h y (aP _ hy);unfold fG;by_cases hk:(k==NameKind.free)=true
  .rw[ae hk,ae hk];obtain⟨c,hc⟩:=h (n,k) aU (by simpa using hk);have e:cellOf env n=pure c:=by unfold cellOf;rw[hc]
   rw[e];have e2:(env.cells.lookup n).getD 0=c:=by rw[hc];rfl
   rw[e2];exact ih _
  .rw[aa hk,aa hk];exact ih _
theorem KP(h:∀y∈scope.names,y.2=.free->∃c,env.cells.lookup y.1=some c):closureFor scope env=pure (fG env.cells scope.names []):=by
 simp only[closureFor];rw[wv env _ (λn k c=>rfl) scope.names [] h];rfl
theorem ux:∀{l:List (Str×α)} {n:Str} {c:α},(n,c)∈l->∃c',l.lookup n=some c'
 | (k,v)::r,n,c,h=>by
  rw[bO];cases hb:n==k with
  | true=>exact⟨_,rfl⟩
  | false=>
   rcases aw.mp h with e|h
   .cases e;simp at hb
   .exact ux h
theorem m7:∀{names:List (Str×NameKind)} {acc:List (Str×cS)} {n:Str} {c:cS},(n,c)∈fG cells names acc->(n,c)∈acc∨((n,.free)∈names/\c=(cells.lookup n).getD 0)
 | [],_,_,_,h=>.inl h
 | (m,k)::r,acc,n,c,h=>by
  unfold fG at h;split at h
  .rename_i hk;have hk:k=.free:=by simpa using hk
   rcases m7 h with h|⟨h1,h2⟩
   .rcases aw.mp h with e|h
    .cases e;exact .inr ⟨hk▸aU,rfl⟩
    .exact .inl h
   .exact .inr ⟨aP _ h1,h2⟩
  .rcases m7 h with h|⟨h1,h2⟩
   .exact .inl h
   .exact .inr ⟨aP _ h1,h2⟩
theorem rO:∀{names:List (Str×NameKind)} {acc:List (Str×cS)} {p:Str×cS},p∈acc->p∈fG cells names acc
 | [],_,_,h=>h
 | (m,k)::r,acc,p,h=>by
  unfold fG;split
  .exact rO (aP _ h)
  .exact rO h
theorem rP:∀{names:List (Str×NameKind)} {acc:List (Str×cS)} {n:Str},(n,.free)∈names->(n,(cells.lookup n).getD 0)∈fG cells names acc
 | (m,k)::r,acc,n,h=>by
  unfold fG;rcases aw.mp h with e|h
  .cases e;exact rO aU
  .split
   .exact rP h
   .exact rP h
theorem nM:∀{names:List (Str×NameKind)} {h:Heap} {acc:List (Str×cS)} {x:Str} {c:cS},(x,c)∈cellsFrom h.objs.size names acc->(x,c)∈acc∨((x,.cell)∈names/\h.objs.size<=c/\MF (pushCells h names) c none)
 | [],_,_,_,_,h=>.inl h
 | (n,k)::r,h,acc,x,c,hm=>by
  unfold cellsFrom at hm;unfold pushCells;split at hm
  .rename_i hk;rw[ae hk];have hk:k=.cell:=by simpa using hk
   rw[←a8 h {cls:=.type "cell",data:=.cell none}] at hm;rcases nM hm with hm|⟨h1,h2,h3⟩
   .rcases aw.mp hm with e|hm
    .cases e;exact .inr ⟨hk▸aU,ah _,_,pushCells_keeps r _ _ _ (aM _ rfl),rfl⟩
    .exact .inl hm
   .rw[a8] at h2;exact .inr ⟨aP _ h1,Nat.le_of_succ_le h2,h3⟩
  .rename_i hk;rw[aa hk];rcases nM hm with hm|⟨h1,h2,h3⟩
   .exact .inl hm
   .exact .inr ⟨aP _ h1,h2,h3⟩
theorem qQ:∀{names:List (Str×NameKind)} {n:Nat} {acc:List (Str×cS)} {p:Str×cS},p∈acc->p∈cellsFrom n names acc
 | [],_,_,_,h=>h
 | (m,k)::r,n,acc,p,h=>by
  unfold cellsFrom;split
  .exact qQ (aP _ h)
  .exact qQ h
theorem ww:∀{names:List (Str×NameKind)} {n:Nat} {acc:List (Str×cS)} {x:Str},(x,.cell)∈names->∃c,(x,c)∈cellsFrom n names acc
 | (m,k)::r,n,acc,x,h=>by
  unfold cellsFrom;rcases aw.mp h with e|h
  .cases e;exact⟨n,qQ aU⟩
  .split
   .exact ww h
   .exact ww h
theorem wy:∀{names:List (Str×NameKind)} {h:Heap} {acc:List (Str×cS)} {x y:Str} {c:cS},(∀p∈acc,p.2<h.objs.size)->(∀x y c,(x,c)∈acc->(y,c)∈acc->x=y)->(x,c)∈cellsFrom h.objs.size names acc->(y,c)∈cellsFrom h.objs.size names acc->x=y
 | [],_,_,_,_,_,_,hi,h1,h2=>hi _ _ _ h1 h2
 | (n,k)::r,h,acc,x,y,c,hl,hi,h1,h2=>by
  unfold cellsFrom at h1 h2;split at h1
  .rename_i hk;rw[ae hk] at h2;rw[←a8 h {cls:=.type "cell",data:=.cell none}] at h1 h2;refine wy (h:=h.push _) (λp hp=>?_) (λx y c a b=>?_) h1 h2
   .rw[a8];rcases aw.mp hp with rfl|hp
    .exact bj _
    .exact cp (hl p hp)
   .rcases aw.mp a with e|a<;>rcases aw.mp b with e'|b
    .cases e;cases e';rfl
    .cases e;exact absurd (hl _ b) (a0 _)
    .cases e';exact absurd (hl _ a) (a0 _)
    .exact hi _ _ _ a b
  .rename_i hk;rw[aa hk] at h2;exact wy hl hi h1 h2
theorem Ix{M:Model}{A:Around}{E:Value->cU->Prop}{s:cU}{scope:Scope}{globals:cS}{closure:List (Str×cS)}{qual:Str}{func:Option cS}{code:Value}{around:Env}{builtins:cS}{Q:Env->cU->Prop}(h:Q (newEnv scope s.heap.objs.size globals (cellsFrom (s.heap.objs.size+1) scope.names closure) qual func code (some around) builtins) {s with heap:=pushCells (s.heap.push {cls:=.type "dict",data:=.dict #[]}) scope.names}):wpAny M A (newFunctionEnv scope globals closure [] qual func code (some around) builtins) Q E s:=by
 simp only[newFunctionEnv,Option.isSome_some,if_true];refine ag (wpAny_alloc ?_);refine ag (wpAny_layCells _ (λn k c=>rfl) scope.names closure _ _ ?_);rw[show({s with heap:=s.heap.push {cls:=.type "dict",data:=.dict #[]}}:cU).heap.objs.size=s.heap.objs.size+1 from a8 ..];rw[List.forIn_nil];exact ag (wpAny_pure (wpAny_pure h))
theorem rQ{sc:Scope}:∀{names:List (Str×NameKind)} {x:Str} {k:NameKind},(names.map λ(n,k)=>if(k==NameKind.free&&sc.kind == .function&&sc.names.lookup n==some .cell) then(n,NameKind.cell) else(n,k)).lookup x=some k->∃k',names.lookup x=some k'/\(k=k'∨(k'=.free/\k=.cell))
 | [],_,_,h=>by simp at h
 | (n,k₀)::r,x,k,h=>by
  have ih:=@rQ sc r x k;have h':List.lookup x ((if(k₀==NameKind.free&&sc.kind == .function&&sc.names.lookup n==some .cell)=true then(n,NameKind.cell) else(n,k₀))::(r.map _))=some k:=h;cases hx:x==n with
  | true=>
   simp only[bO,hx];by_cases hc:(k₀==NameKind.free&&sc.kind == .function&&sc.names.lookup n==some .cell)=true
   .rw[ae hc] at h';simp only[bO,hx] at h';cases h';simp only[aS,ba] at hc;exact⟨k₀,rfl,.inr ⟨hc.1.1,rfl⟩⟩
   .rw[aa hc] at h';simp only[bO,hx] at h';cases h';exact⟨_,rfl,.inl rfl⟩
  | false=>
   simp only[bO,hx];by_cases hc:(k₀==NameKind.free&&sc.kind == .function&&sc.names.lookup n==some .cell)=true
   .rw[ae hc] at h';simp only[bO,hx] at h';exact ih h'
   .rw[aa hc] at h';simp only[bO,hx] at h';exact ih h'
structure AJ(N:List Str)(sc scope:Scope)(own:List (Str×Nat)):Prop where
 kind:scope.kind=.function
 uniq:∀y∈scope.names,scope.names.lookup y.1=some y.2
 ix:∀p∈own,N[p.2]?=some p.1
 free:∀y∈scope.names,y.2=.free->sc.names.lookup y.1=some .cell∨sc.names.lookup y.1=some .free
 own:∀y∈scope.names,y.2=.local ∨y.2=.cell->y.1∈own.map (·.1)∨y.1∉N
noncomputable def fq(U:St):List Nat->St
 | []=>U
 | v::vs=>(fq U vs).set v none
theorem rR(U:St):∀vs:List Nat,(fq U vs).length=U.length
 | []=>rfl
 | v::vs=>by unfold fq;rw[List.length_set,rR U vs]
theorem wz:∀{vs:List Nat},(fq U vs)[i]?=some (some x)->U[i]?=some (some x)/\i∉vs
 | [],h=>⟨h,by simp⟩
 | v::vs,h=>by
  unfold fq at h;by_cases hi:v=i
  .subst hi;by_cases hv:v<(fq U vs).length
   .rw[cz hv] at h;cases h
   .rw[cq (by simpa using hv)] at h;cases h
  .rw[List.getElem?_set_ne hi] at h;obtain⟨h1,h2⟩:=wz h;exact⟨h1,by simp only[aw,not_or];exact⟨λe=>hi e.symm,h2⟩⟩
abbrev Cx.blk(X:Cx)(s:cU)(H:Hp)(scope:Scope)(Xo:Env)(fp:List cS):Cx:={X with s_0:=s,H_0:=H,env:=Xo,outer:=X.stack,ex:=fp,fn:=λx=>scope.names.lookup x==some .cell,pn:=[],xe:=λ_ _=>False}
section
variable{X:Cx}{pins:List (cS×Obj)}{U:St}{H:Hp}{s:cU}
theorem Iy{scope:Scope}{own:List (Str×Nat)}{fp:List cS}(I:cY X pins U H s)(ok:AJ X.N X.env.scope scope own)(hN:X.N.Nodup)(aa5:∀b∈fp,iP X pins H b/\b<s.heap.objs.size):cY (X.blk s H scope (compEnvC scope (cellsFrom (s.heap.objs.size+1) scope.names (fG X.env.cells scope.names [])) s.heap.objs.size X.env) fp) [] (fq U (own.map (·.2))) H {s with heap:=pushCells (s.heap.push {cls:=.type "dict",data:=.dict #[]}) scope.names}:=by
 have Zq:∀y∈scope.names,y.2=.free->∃c,X.env.cells.lookup y.1=some c:=λy hy e=>by
  rcases ok.free y hy e with k|k
  .exact I.ok.has _ (.inl k)
  .exact I.ok.has _ (.inr k)
 generalize ZF:compEnvC scope (cellsFrom (s.heap.objs.size+1) scope.names (fG X.env.cells scope.names [])) s.heap.objs.size X.env=Xo;have kp:∀b o,s.heap.get? b=some o->(pushCells (s.heap.push {cls:=.type "dict",data:=.dict #[]}) scope.names).get? b=some o:=λb o e=>pushCells_keeps _ _ _ _ (aB _ e);have hL:Xo.locals=s.heap.objs.size:=by rw[←ZF];rfl
 have aaD:Xo.cells=cellsFrom (s.heap.objs.size+1) scope.names (fG X.env.cells scope.names []):=by rw[←ZF];rfl
 have adC:Xo.scope=Uz scope X.env.scope:=by rw[←ZF];rfl
 rw[←a8 s.heap {cls:=.type "dict",data:=.dict #[]}] at aaD;have cm:∀{y c},(y,c)∈fG X.env.cells scope.names []->X.env.cells.lookup y=some c/\c<s.heap.objs.size:=λ{y c} hm=>by
  rcases m7 hm with hm|⟨h1,rfl⟩
  .cases hm
  .obtain⟨c,hc⟩:=Zq _ h1 rfl;rw[hc];obtain⟨w,z⟩:=I.cell _ _ hc;exact⟨rfl,z.lt⟩
 have mem:∀{y c},Xo.cells.lookup y=some c->(X.env.cells.lookup y=some c/\c<s.heap.objs.size)∨(s.heap.objs.size+1<=c/\MF (pushCells (s.heap.push {cls:=.type "dict",data:=.dict #[]}) scope.names) c none):=λ{y c} e=>by
  rw[aaD] at e;rcases nM (aV e) with hm|⟨_,h2,h3⟩
  .exact .inl (cm hm)
  .rw[a8] at h2;exact .inr ⟨h2,h3⟩
 have look:∀{y},scope.names.lookup y=some .free->∃c,Xo.cells.lookup y=some c/\X.env.cells.lookup y=some c:=λ{y} hl=>by
  have hy:(y,NameKind.free)∈scope.names:=aV hl;obtain⟨c',e'⟩:=ux (qQ (names:=scope.names) (n:=(s.heap.push {cls:=.type "dict",data:=.dict #[]}).objs.size) (rP (cells:=X.env.cells) (acc:=[]) hy));rw[←aaD] at e';refine⟨c',e',?_⟩;rw[aaD] at e';rcases nM (aV e') with hm|⟨h1,_,_⟩
  .exact(cm hm).1
  .have:=ok.uniq _ h1;rw[hl] at this;cases this
 have okB:(X.blk s H scope Xo fp).Ok:=by
  refine⟨I.ok.mod,by show Xo.scope.kind=_;rw[adC];exact ok.kind,by show Xo.globals=_;rw[←ZF];exact I.ok.glob,by show Xo.builtins=_;rw[←ZF];exact I.ok.blt,by show s.heap.objs.size<=Xo.locals;rw[hL];exact ah _,
   λy z c e1 e2=>?_,λy hy=>?_,λy c z e=>?_,I.ok.hd,I.ok.frames,.inl rfl,λb hb=>⟨?_,λy c e z=>?_⟩,I.bs,aA I.ok.bsz I.sz,λb o e hb=>?_,λb hb z=>?_,I.stack,I.stkFree⟩
  .have e1:Xo.cells.lookup y=some c:=e1;have e2:Xo.cells.lookup z=some c:=e2;rw[aaD] at e1 e2;refine wy (λp hp=>?_) (λy z c a b=>I.ok.inj y z c (cm a).1 (cm b).1) (aV e1) (aV e2);rw[a8];exact cp (cm (y:=p.1) (c:=p.2) hp).2
  .show ∃c,Xo.cells.lookup y=some c;have key:∀k,Xo.kindOf y=some k->(k=.cell∨k=.free)->∃c,Xo.cells.lookup y=some c:=λk hk X9=>by
    unfold Env.kindOf at hk;rw[adC] at hk;obtain⟨k',e,r⟩:=rQ hk;have:k'=.cell∨k'=.free:=by
     rcases r with rfl|⟨rfl,_⟩
     .exact X9
     .exact .inr rfl
    rcases this with rfl|rfl
    .obtain⟨c,hm⟩:=ww (n:=(s.heap.push {cls:=.type "dict",data:=.dict #[]}).objs.size) (acc:=fG X.env.cells scope.names []) (aV e);obtain⟨c',e'⟩:=ux hm;exact⟨c',by rw[aaD];exact e'⟩
    .obtain⟨c,h1,_⟩:=look e;exact⟨c,h1⟩
   rcases hy with hy|hy
   .exact key _ hy (.inl rfl)
   .exact key _ hy (.inr rfl)
  .have z:(scope.names.lookup y==some NameKind.cell)=true:=z;have z:scope.names.lookup y=some .cell:=by simpa using z
   have e:Xo.cells.lookup y=some c:=e;rw[aaD] at e;rcases nM (aV e) with hm|⟨_,h2,_⟩
   .rcases m7 hm with hm|⟨h1,_⟩
    .cases hm
    .have q:=ok.uniq _ h1;rw[z] at q;cases q
   .rw[a8] at h2;exact Nat.le_of_succ_le h2
  .show b≠Xo.locals;rw[hL];exact aF (aa5 b hb).2
  .have e:Xo.cells.lookup y=some c:=e;rcases mem e with ⟨h1,_⟩|⟨h1,_⟩
   .exact(aa5 b hb).1.2.2.2.2.1 y c h1 z
   .have h2:s.heap.objs.size+1<=b:=(by rw[←z];exact h1);exact absurd (aE (aa5 b hb).2 (Nat.le_of_succ_le h2)) (a0 _)
  .rcases (aa5 b hb).1.2.2.2.1 with z|z
   .exact I.ok.noex b o e z
   .exact absurd (aE (aj e) (aA I.ok.bsz z)) (a0 _)
  .rcases aw.mp (I.stkSub b z) with z|z
   .exact(aa5 b hb).1.2.1 z
   .exact(aa5 b hb).1.2.2.1 z
 refine⟨okB,rfl,I.bare,Un.kept kp,⟨λ_=>none,?_,λi y av e1 e2 e3=>?_⟩,λy c e=>?_,?_,λy c e=>?_,λp hp=>?_,I.hok.kept kp,by rw[rR];exact I.len⟩
 .show Heap.Ns _ Xo.locals _;rw[hL];exact Heap.Ns.keeps (Heap.Ns.new ..) λb o e=>pushCells_keeps _ _ _ _ e
 .obtain⟨e2,XV⟩:=wz e2;have Yl:scope.names.lookup y=some .free/\(Xo.kindOf y=some .cell∨Xo.kindOf y=some .free):=by
   have key:∀k,Xo.scope.names.lookup y=some k->k=.local ∨k=.cell∨k=.free->scope.names.lookup y=some .free/\(Xo.kindOf y=some .cell∨Xo.kindOf y=some .free):=λk hk X9=>by
    have afw:=hk;rw[adC] at hk;obtain⟨k',e,r⟩:=rQ hk;have no:¬(k'=.local ∨k'=.cell):=λhh=>by
     rcases ok.own _ (aV e) hh with e'|e'
     .obtain⟨p,hp,hpy⟩:=aW.mp e';have e3:=ok.ix p hp;have:p.1=y:=hpy;rw[this] at e3;exact XV (aW.mpr ⟨p,hp,zL hN e3 e1⟩)
     .exact e' (aJ e1)
    rcases r with rfl|⟨rfl,rfl⟩
    .rcases X9 with rfl|rfl|rfl
     .exact absurd (.inl rfl) no
     .exact absurd (.inr rfl) no
     .exact⟨e,.inr afw⟩
    .exact⟨e,.inl afw⟩
   have e3:JJ Xo.scope y:=e3;rcases e3 with e3|e3|e3
   .exact key _ e3 (.inl rfl)
   .exact key _ e3 (.inr (.inl rfl))
   .exact key _ e3 (.inr (.inr rfl))
  obtain⟨m,hn,hl⟩:=I.loc;have agy:JJ X.env.scope y:=(ok.free _ (aV Yl.1) rfl).elim (λk=>.inr (.inl k)) (λk=>.inr (.inr k));obtain⟨w,r,q⟩:=hl i y av e1 e2 agy;refine⟨w,r,.inr ⟨Yl.2,?_⟩⟩;obtain⟨c,h1,h2⟩:=look Yl.1;rcases q with ⟨k,_⟩|⟨_,c',e',z⟩
  .have k:X.env.scope.names.lookup y=some .local :=k;rcases ok.free _ (aV Yl.1) rfl with k'|k'<;>rw[show X.env.scope.names.lookup y=_ from k'] at k<;>cases k
  .rw[h2] at e';cases e';exact⟨c,h1,z.keeps kp⟩
 .have e:Xo.cells.lookup y=some c:=e;rcases mem e with ⟨h1,_⟩|⟨_,z⟩
  .obtain⟨w,z⟩:=I.cell y c h1;exact⟨w,z.keeps kp⟩
  .exact⟨_,z⟩
 .show H Xo.locals=none;rw[hL];exact I.hok.fresh (ah _)
 .have e:Xo.cells.lookup y=some c:=e;rcases mem e with ⟨h1,_⟩|⟨h1,_⟩
  .exact I.freeC y c h1
  .exact I.hok.fresh (Nat.le_of_succ_le h1)
 .exact absurd (show p∈([]:List (cS×Obj))++[] from hp) (by simp)
theorem RJ(I:cY X pins U H s)(hD:H D=some (.lst xs))(hz:xs.length<sizeLine)(r:dR y v)(h:∀s',cY X pins U (upd H D (.lst (xs++[y]))) s'->Q .none s'):wpAny (model X.prog X.w) X.A (call (.builtin "list.append") [.ref D,v]) Q E s:=by
 obtain⟨hz',Xa,n,ri,e⟩:=I.hok D _ hD;have hl:=ri.length;refine append_at (hsz:=by rw[aG];lia) e λh' sb X8=>?_;refine h {s with heap:=h'} (I.write (t':=s.toks) (by rw[hD];trivial) (.inl rfl) (λb u hb q=>(sb.2 b hb).trans q) ⟨_,X8⟩ ⟨by rw[aC];exact hz,Xa++[v],n+1,ri.append (.cons r .nil),?_⟩);rw[X8];simp
namespace Z
@[scoped irreducible]def _root_.L2.MG(X:Cx)(ifs:List Expr)(t:TT):Prop:=
 ∀(pins:List (cS×Obj))(s:cU)(U:St)(H:Hp)(Q:Bool->Hp->Prop),cY X pins U H s->t U H Q->
  wpAny (model X.prog X.w) X.A (forIn ifs true λc r=>if r=true then do let ok ←isTrue c X.env (eval c X.env);pure (ForInStep.yield ok) else pure (ForInStep.yield r)) (TP X pins U Q) X.xe s
end Z
def zP:TT:=λ_ H Q=>Q true H
theorem Cg:MG X [] zP:=λ_ _ _ H _ I h=>wpAny_tests_nil ⟨H,I,h⟩
end
theorem Ch(h:wpAny M A t Q (λ_ _=>False) s)(hQ:∀a s,Q a s->Q' a s):wpAny M A t Q' E s:=aK h hQ λ_ _ z=>False.elim z
theorem Gb(I:Nat->cU->Prop)(turn:∀n s,I n s->wpAny (model prog w) A (pyNext it) (λr s₁=>match r with
   | none=>R (.ok .next) s₁
   | some v=>wpAny (model prog w) A (letOwnedTupleGo target it v) (λ_ s₁'=>wpAny (model prog w) A (assign target env v) (λ_ s₂=>
     wpAny (model prog w) A (forIn ifs true λc r=>if r=true then do let ok ←isTrue c env (eval c env);pure (ForInStep.yield ok) else pure (ForInStep.yield r)) (λok s₃=>
      if ok=true then wpAny (model prog w) A (eval elt env) (λx s₄=>
       wpAny (model prog w) A (call (.builtin "list.append") [acc,x]) (λ_ s₅=>∃m,m<n/\I m s₅) (notedBy (model prog w) A env λe s'=>R (.error e) s') s₄) (notedBy (model prog w) A env λe s'=>R (.error e) s') s₃
      else ∃m,m<n/\I m s₃) (notedBy (model prog w) A env λe s'=>R (.error e) s') s₂) (notedBy (model prog w) A env λe s'=>R (.error e) s') s₁') (notedBy (model prog w) A env λe s'=>R (.error e) s') s₁) (notedBy (model prog w) A env λe s'=>R (.error e) s') s)
  (n:Nat) (h:I n s) :
  codeAny (model prog w) A (.compLoop (.ListComp elt [⟨target,iter,ifs,0⟩] scope pos) 0 it acc env) R s:=by
 refine codeAny_loop rfl I (λn s hI=>?_) n h;show wpAny _ A ((compTurn (.ListComp elt [⟨target,iter,ifs,0⟩] scope pos) 0 it acc env).onRaise (λx=>do noteFrame x env;theTreesLotGoes x)) _ _ s;refine wpAny_noted ?_;rw[compTurn_list];refine ag (wpAny_standAt (ag (aK (turn n s hI) (λr s₁ h₁=>?_) λ_ _ h'=>h')));cases r with
 | none=>exact wpAny_pure h₁
 | some v=>
  refine ag (aK h₁ (λ_ s₁' h₁'=>?_) λ_ _ h'=>h');refine ag (aK h₁' (λ_ s₂ h₂=>ag (aK h₂ (λok s₃ h₃=>?_) λ_ _ h'=>h')) λ_ _ h'=>h');cases ok with
  | false=>exact wpAny_pure ⟨rfl,h₃⟩
  | true=>
   exact ag (ag (aK h₃ (λx s₄ h₄=>ag (aK h₄ (λ_ s₅ h₅=>wpAny_pure (wpAny_pure ⟨rfl,h₅⟩)) λ_ _ h'=>h')) λ_ _ h'=>h'))
section
variable{X:Cx}
def JT(wi:TI)(g:TG)(tt:TT)(te:TE)(vs:List Nat):TE:=λU H Q=>wi U H λJ H1=>∀D,H1 D=none->∃W:Nat->Nat->Hp->Prop,(∃m,W 0 m (upd H1 D (.lst [])))/\∀i m H,W i m H->
 (J.stop i H/\Q (.ref D) H)∨(J.go i H/\∃Nx:Hp->Prop,(∀H',Nx H'->∃m',m'<m/\W (i+1) m' H')/\∀x H',J.yld i H x H'->g x (fq U vs) H' λU2 H2=>fq U2 vs=fq U vs/\tt U2 H2 λb H3=>
  if b=true then te U2 H3 λy H4=>∃acc,H4 D=some (.lst acc)/\acc.length<sizeLine/\Nx (upd H4 D (.lst (acc++[y]))) else Nx H3)
theorem JU{pins:List (cS×Obj)}{s:cU}{U:St}{H:Hp}{Q:VK}{elt tg iter:Expr}{ifs:List Expr}{scope:Scope}{own:List (Str×Nat)}{pos pos':Pos}{wi:TI}{g:TG}{tt:TT}{te:TE}{use:Option (Value->Sem Unit)}{Qf:Value->cU->Prop}(hc:X.calm=true)(hN:X.N.Nodup)(I:cY X pins U H s)(hi:PI X tg iter wi)(ok:AJ X.N X.env.scope scope own)(hg:∀(s:cU)(H:Hp)(C:cS)(cl:List (Str×cS))(fp:List cS),PG (X.blk s H scope (compEnvC scope cl C X.env) fp) tg g)(ht:∀(s:cU)(H:Hp)(C:cS)(cl:List (Str×cS))(fp:List cS),MG (X.blk s H scope (compEnvC scope cl C X.env) fp) ifs tt)(he:∀(s:cU)(H:Hp)(C:cS)(cl:List (Str×cS))(fp:List cS),PE (X.blk s H scope (compEnvC scope cl C X.env) fp) elt te)(hs:∀x,foldedSetIterable iter X.env x=pure x)(h:JT wi g tt te (own.map (·.2)) U H Q)(hRR:∀D C s' m H',cY X pins U H' s'->Q (.ref D) H'->s'.heap.Ns C m->iP X pins H' C->compPost (model X.prog X.w) X.A X.xe use Qf (.ref D) C (.ok .next) s'):wpAny (model X.prog X.w) X.A (comprehension (.ListComp elt [⟨tg,iter,ifs,0⟩] scope pos) scope X.env pos' (newList []) false (eval iter X.env) use) Qf X.xe s:=by
 have Zq:∀y∈scope.names,y.2=.free->∃c,X.env.cells.lookup y.1=some c:=λy hy e=>by
  rcases ok.free y hy e with k|k
  .exact I.ok.has _ (.inl k)
  .exact I.ok.has _ (.inr k)
 refine wpAny_comprehension_free (use:=use) rfl hs (KP Zq) ok.kind (λy hy e=>by rw[ok.uniq y hy,e])
  (dJ (hi pins s U H _ I h) λxv s1 hx=>dJ hx λadv s2 h2=>?_)
 obtain⟨it,fp,tn,J,H2,e,I2,T,acL,f2,q⟩:=h2;subst e;refine wpAny_newObj_type (Ix ?_) (by show 0<=sizeLine;decide);generalize hD:s2.heap.objs.size=D;have adD:H2 D=none:=I2.hok.fresh (Nat.le_of_eq hD);obtain⟨W,⟨m0,w0⟩,turn⟩:=q D adD;generalize afx:({s2 with heap:=s2.heap.push {cls:=.type "list",data:=.seq ([]:List Value).toArray}}:cU)=s3;have I3:cY X pins U (upd H2 D (.lst [])) s3:=by
  rw[←afx];refine I2.laid (t':=s2.toks) (λb o e=>aB _ e) (Nat.le_of_eq hD) ⟨aI _,[],0,.nil,?_⟩;rw[←hD];exact aM _ rfl
 have h3:s3.heap=s2.heap.push {cls:=.type "list",data:=.seq ([]:List Value).toArray}:=by rw[←afx]
 have sz:∀b∈fp,b<s2.heap.objs.size:=λb hb=>by
  obtain⟨o,e,_⟩:=T.obj _ _ acL b hb;exact aj e
 have f3:∀b∈fp,iP X pins (upd H2 D (.lst [])) b/\b<s3.heap.objs.size:=λb hb=>by
  have Xg:=sz b hb;refine⟨⟨?_,(f2 b hb).2⟩,by rw[h3,a8];exact cp Xg⟩;rw[ap (by rw[←hD];exact aF Xg)];exact(f2 b hb).1
 have acM:tn 0 s3.heap:=T.keep _ _ _ acL λb _ o e=>by rw[h3];exact aB _ e
 have I4:=Iy I3 ok hN f3;have pg:=hg s3 (upd H2 D (.lst [])) s3.heap.objs.size (cellsFrom (s3.heap.objs.size+1) scope.names (fG X.env.cells scope.names [])) fp;have pt:=ht s3 (upd H2 D (.lst [])) s3.heap.objs.size (cellsFrom (s3.heap.objs.size+1) scope.names (fG X.env.cells scope.names [])) fp;have pe:=he s3 (upd H2 D (.lst [])) s3.heap.objs.size (cellsFrom (s3.heap.objs.size+1) scope.names (fG X.env.cells scope.names [])) fp;show codeAny _ _ (.compStart (.ListComp elt [⟨tg,iter,ifs,0⟩] scope pos) 0 (.ref it) (.ref D) (compEnvC scope (cellsFrom (s3.heap.objs.size+1) scope.names (fG X.env.cells scope.names [])) s3.heap.objs.size X.env)) (compPost (model X.prog X.w) X.A X.xe use Qf (.ref D) s3.heap.objs.size) {s3 with heap:=pushCells (s3.heap.push {cls:=.type "dict",data:=.dict #[]}) scope.names};have aa6:∀b∈fp,(upd H2 D (.lst [])) b=none:=λb hb=>(f3 b hb).1.1;generalize hce:compEnvC scope (cellsFrom (s3.heap.objs.size+1) scope.names (fG X.env.cells scope.names [])) s3.heap.objs.size X.env=ce at I4 pg pt pe ⊢;have cL:ce.locals=s3.heap.objs.size:=by subst hce;rfl
 generalize hH3:upd H2 D (.lst [])=H3 at I3 I4 pg pt pe w0 aa6 f3;generalize hs4:({s3 with heap:=pushCells (s3.heap.push {cls:=.type "dict",data:=.dict #[]}) scope.names}:cU)=s4 at I4 ⊢;have afy:tn 0 s4.heap:=T.keep _ _ _ acM λb _ o e=>by rw[←hs4];exact pushCells_keeps _ _ _ _ (aB _ e)
 have Zz:∀{U':St} {H':Hp} {s':cU},cY (X.blk s3 H3 scope ce fp) [] U' H' s'->(∀b∈fp,H' b=none)->∀b∈fp,iP (X.blk s3 H3 scope ce fp) [] H' b:=λ{U' H' s'} I' hn b hb=>
  ⟨hn b hb,(I'.ok.exf b hb).1,I'.ok.exfs b hb,.inl hb,λx c e=>(I'.ok.exf b hb).2 x c e,λp hp=>absurd (show p∈([]:List (cS×Obj))++[] from hp) (by simp)⟩
 have loop:codeAny (model X.prog X.w) X.A (.compLoop (.ListComp elt [⟨tg,iter,ifs,0⟩] scope pos) 0 (.ref it) (.ref D) ce) (compPost (model X.prog X.w) X.A X.xe use Qf (.ref D) s3.heap.objs.size) s4:=by
  refine Gb (λn s'=>∃i H',cY (X.blk s3 H3 scope ce fp) [] (fq U (own.map (·.2))) H' s'/\tn i s'.heap/\(∀b∈fp,H' b=none)/\W i n H') ?_ m0 ⟨0,H3,I4,afy,aa6,w0⟩;rintro n s5 ⟨i,H5,I5,aa2,n5,w5⟩;rcases turn i n H5 w5 with ⟨stop,qq⟩|⟨go,Nx,hNx,step⟩
  .have td:=T.done (X.blk s3 H3 scope ce fp) rfl rfl rfl hc i [] s5 _ H5 (λ_ _=>False) I5 (Zz I5 n5) aa2 stop;refine Ch td λr s6 hO=>?_;obtain⟨hr,I6⟩:=hO;subst hr;have I7:cY X pins U H5 s6:=I3.call' (ch:=fp) I6.os I6.base I6.hok I6.bare λb hb=>⟨(f3 b hb).1.2.2.2.1,(f3 b hb).1.2.1,(f3 b hb).1.2.2.2.2.1,(f3 b hb).1.2.2.2.2.2⟩;have nC:H5 s3.heap.objs.size=none:=by
    have z:H5 ce.locals=none:=I6.free;rw[cL] at z;exact z
   obtain⟨m,hn,_⟩:=I6.loc;have hn:s6.heap.Ns ce.locals m:=hn;rw[cL] at hn;exact hRR D s3.heap.objs.size s6 m H5 I7 qq hn (I3.fpOk (ah _) nC)
  .have ti:=T.item (X.blk s3 H3 scope ce fp) rfl rfl rfl hc i [] s5 _ H5 (λ_ _=>False) I5 (Zz I5 n5) aa2 go;refine Ch ti λr s6 hO=>?_;obtain⟨u,hr,h6⟩:=hO;subst hr;refine Ch h6 λ_ s7 hO=>?_;obtain⟨x,H7,I7,r7,y7,adE,n7⟩:=hO;have I7':=I7.pinned (Zz I7 n7) (T.obj _ _ adE);refine Ch (pg _ s7 _ H7 x u _ I7' r7 (step x H7 y7)) λ_ s8 hO=>?_;obtain⟨U8,H8,I8,afz,q8⟩:=hO;refine Ch (pt _ s8 U8 H8 _ I8 q8) λb s9 hO=>?_;obtain⟨H9,I9,q9⟩:=hO;have fin:∀{s':cU} {H':Hp},cY (X.blk s3 H3 scope ce fp) ([]++wm fp s7.heap) U8 H' s'->Nx H'->∃m,m<n/\∃i H',cY (X.blk s3 H3 scope ce fp) [] (fq U (own.map (·.2))) H' s'/\tn i s'.heap/\(∀b∈fp,H' b=none)/\W i m H':=λ{s' H'} I' nx=>by
    obtain⟨m',hm,w'⟩:=hNx H' nx;have adF:∀b∈fp,∀o,s7.heap.get? b=some o->s'.heap.get? b=some o/\H' b=none:=λb hb o e=>
     let z:=I'.pin (b,o) (a7 _ (a7 _ (l9 hb e)))
     ⟨z.1,z.2.1⟩
    have hl:(fq U (own.map (·.2))).length=U8.length:=(by rw[←afz,rR]);refine⟨m',hm,i+1,H',(I'.unpinned (pins:=[])).weak hl (λj v e=>?_),T.keep _ _ _ adE λb hb o e=>(adF b hb o e).1,λb hb=>?_,w'⟩
    .rw[←afz] at e;exact(wz e).1
    .obtain⟨o,e,_⟩:=T.obj _ _ adE b hb;exact(adF b hb o e).2
   cases b with
   | false=>
    simp only[bo,if_false] at q9 ⊢;exact fin I9 q9
   | true=>
    simp only[if_true] at q9 ⊢;refine Ch (pe _ s9 U8 H9 _ I9 q9) λz s10 hO=>?_;obtain⟨yv,H10,I10,r10,acc,agz,agA,nx⟩:=hO;exact RJ (X:=X.blk s3 H3 scope ce fp) I10 agz agA r10 λs11 I11=>fin I11 nx
 exact codeAny_compStart_list loop (T.self X.A 0 _ _ _ afy loop)
theorem Tn(hc:X.calm=true)(hN:X.N.Nodup)(hi:PI X tg iter wi)(ok:AJ X.N X.env.scope scope own)(hg:∀(s:cU)(H:Hp)(C:cS)(cl:List (Str×cS))(fp:List cS),PG (X.blk s H scope (compEnvC scope cl C X.env) fp) tg g)(ht:∀(s:cU)(H:Hp)(C:cS)(cl:List (Str×cS))(fp:List cS),MG (X.blk s H scope (compEnvC scope cl C X.env) fp) ifs tt)(he:∀(s:cU)(H:Hp)(C:cS)(cl:List (Str×cS))(fp:List cS),PE (X.blk s H scope (compEnvC scope cl C X.env) fp) elt te)(hs:∀x,foldedSetIterable iter X.env x=pure x:=by intro _;rfl):PE X (.ListComp elt [⟨tg,iter,ifs,0⟩] scope pos) (JT wi g tt te (own.map (·.2))):=by
 intro pins s U H Q I h;rw[eval_ListComp];refine JU hc hN I hi ok hg ht he hs h λD C s' m H' I' q hn f=>⟨m,hn,λZ6 sb=>?_⟩;obtain⟨f0,f1,f2,f3,f4,f5⟩:=f;exact⟨.ref D,H',I'.turned (t':=s'.toks) (λb o hb e=>(sb.2 b hb).trans e) f0 f1 f3 f4 f5,rfl,q⟩
theorem Gc(hc:X.calm=true)(hN:X.N.Nodup)(hy:X.N[i]?=some y)(afA:X.env.scope.names.lookup y=some .local)(hsw:swapsWith (.ListComp elt [⟨tg,iter,ifs,0⟩] scope pos) (some (.Name y py)) agB.line X.env=pure true)(hi:PI X tg iter wi)(ok:AJ X.N X.env.scope scope own)(hg:∀(s:cU)(H:Hp)(C:cS)(cl:List (Str×cS))(fp:List cS),PG (X.blk s H scope (compEnvC scope cl C X.env) fp) tg g)(ht:∀(s:cU)(H:Hp)(C:cS)(cl:List (Str×cS))(fp:List cS),MG (X.blk s H scope (compEnvC scope cl C X.env) fp) ifs tt)(he:∀(s:cU)(H:Hp)(C:cS)(cl:List (Str×cS))(fp:List cS),PE (X.blk s H scope (compEnvC scope cl C X.env) fp) elt te)(hs:∀x,foldedSetIterable iter X.env x=pure x:=by intro _;rfl):PS X (.Assign [.Name y py] (.ListComp elt [⟨tg,iter,ifs,0⟩] scope pos) agB) (zN (JT wi g tt te (own.map (·.2))) (jU i)):=by
 intro pins s U H D I h;rw[exec_Assign_Name_used _ _ _ _ hsw];refine ag (wpAny_standAt (ag ?_));show wpAny _ X.A (do let _ ←comprehension (.ListComp elt [⟨tg,iter,ifs,0⟩] scope pos) scope X.env (firstIterPos [⟨tg,iter,ifs,0⟩] pos) (newList []) false (eval iter X.env) (some (assign (.Name y py) X.env))) _ _ s;have h:JT wi g tt te (own.map (·.2)) U H (λx H1=>jU i x U H1 D.nx):=h;refine ag (dJ (JU (Qf:=λ_ s'=>SP X pins D .next s') hc hN I hi ok hg ht he hs h λL C s' m H' I' q hn f=>?_) λ_ s' hq=>wpAny_pure (wpAny_pure hq));show wpAny _ _ (assign (.Name y py) X.env (.ref L)) _ _ _;refine wpAny_assign_Name (DR (v:=V.ref L) I' hN hy (.inl afA) rfl (λs2 I2 ⟨a,sb,ha⟩=>?_) (.inr afA));obtain⟨f0,f1,f2,f3,f4,f5⟩:=f;have haC:C≠a:=by
  rcases ha with z|z
  .rw[z];exact f1
  .exact λe=>f4 y a z e.symm
 refine⟨m,hn.sameBut sb haC,λh3 sb3=>?_⟩;exact⟨_,H',I2.turned (t':=s2.toks) (λb o hb e=>(sb3.2 b hb).trans e) f0 f1 f3 f4 f5,q⟩
theorem JV(hk:env.scope.kind=.function)(hy:env.scope.names.lookup y=some .local)(hl:(py.line==pos.line)=true)(ha:(scope.names.any λ(n,k)=>n==y&&(k == .local||k == .cell))=false):swapsWith (.ListComp elt gs scope pos) (some (.Name y py)) l env=pure true:=by
 have ky:env.kindOf y=some .local :=hy;have hb:env.blockKind=.function:=by unfold Env.blockKind;rw[hk];rfl
 show(pure (env.blockKind == .function&&env.kindOf y==some .local&&py.line==pos.line && !(scope.names.any λ(n,k)=>n==y&&(k == .local||k == .cell))):Sem Bool)=pure true;rw[hb,ky,hl,ha];rfl
end
theorem Gd{lo:Int}{n:Nat}{g:TG}{tt:TT}{te:TE}{vs:List Nat}{U:St}{H1:Hp}{D:cS}{Qd:Hp->Prop}(Pv:Nat->Hp->Prop)(h0:Pv 0 (upd H1 D (.lst [])))(hs:∀i H,i<n->Pv i H->g (.int (lo+i)) (fq U vs) H λU2 H2=>fq U2 vs=fq U vs/\tt U2 H2 λb H3=>if b=true then te U2 H3 λy H4=>∃acc,H4 D=some (.lst acc)/\acc.length<sizeLine/\Pv (i+1) (upd H4 D (.lst (acc++[y]))) else Pv (i+1) H3)(hd:∀H,Pv n H->Qd H):∃W:Nat->Nat->Hp->Prop,(∃m,W 0 m (upd H1 D (.lst [])))/\∀i m H,W i m H->((qJ lo n).stop i H/\Qd H)∨((qJ lo n).go i H/\∃Nx:Hp->Prop,(∀H',Nx H'->∃m',m'<m/\W (i+1) m' H')/\∀x H',(qJ lo n).yld i H x H'->g x (fq U vs) H' λU2 H2=>fq U2 vs=fq U vs/\tt U2 H2 λb H3=>if b=true then te U2 H3 λy H4=>∃acc,H4 D=some (.lst acc)/\acc.length<sizeLine/\Nx (upd H4 D (.lst (acc++[y]))) else Nx H3):=by
 refine⟨λi m H=>m=n-i/\i<=n/\Pv i H,⟨n,by simp,aI _,h0⟩,?_⟩;rintro i m H ⟨rfl,hi,p⟩;by_cases Xg:i<n
 .refine .inr ⟨Xg,Pv (i+1),λH' p'=>⟨n-(i+1),by lia,rfl,Xg,p'⟩,λx H' y=>?_⟩;obtain⟨e,y⟩:=y;subst e y;exact hs i _ Xg p
 .have e:i=n:=by lia
  subst e;exact .inl ⟨ah _,hd H p⟩
theorem Qq{K:cV}{a:cS}{xs:List V}{g:TG}{tt:TT}{te:TE}{vs:List Nat}{U:St}{H1:Hp}{D:cS}{Qd:Hp->Prop}(Pv:Nat->Hp->Prop)(h0:Pv 0 (upd H1 D (.lst [])))(hl:∀i H,i<=xs.length->Pv i H->dU K H a xs)(hs:∀i x H,xs[i]?=some x->Pv i H->g x (fq U vs) H λU2 H2=>fq U2 vs=fq U vs/\tt U2 H2 λb H3=>if b=true then te U2 H3 λy H4=>∃acc,H4 D=some (.lst acc)/\acc.length<sizeLine/\Pv (i+1) (upd H4 D (.lst (acc++[y]))) else Pv (i+1) H3)(hd:∀H,Pv xs.length H->Qd H):∃W:Nat->Nat->Hp->Prop,(∃m,W 0 m (upd H1 D (.lst [])))/\∀i m H,W i m H->((oP K a).stop i H/\Qd H)∨((oP K a).go i H/\∃Nx:Hp->Prop,(∀H',Nx H'->∃m',m'<m/\W (i+1) m' H')/\∀x H',(oP K a).yld i H x H'->g x (fq U vs) H' λU2 H2=>fq U2 vs=fq U vs/\tt U2 H2 λb H3=>if b=true then te U2 H3 λy H4=>∃acc,H4 D=some (.lst acc)/\acc.length<sizeLine/\Nx (upd H4 D (.lst (acc++[y]))) else Nx H3):=by
 refine⟨λi m H=>m=xs.length-i/\i<=xs.length/\Pv i H,⟨xs.length,by simp,aI _,h0⟩,?_⟩;rintro i m H ⟨rfl,hi,p⟩;have q:=hl i H hi p;by_cases Xg:i<xs.length
 .refine .inr ⟨⟨xs,xs[i],q,by simp[Xg]⟩,Pv (i+1),λH' p'=>⟨xs.length-(i+1),by lia,rfl,Xg,p'⟩,λx H' y=>?_⟩;obtain⟨e,y⟩:=y;subst e;exact hs i x _ (y xs q) p
 .have e:i=xs.length:=by lia
  subst e;exact .inl ⟨⟨xs,q,ah _⟩,hd H p⟩
noncomputable def Oi(N:List Str)(sc scope:Scope)(own:List (Str×Nat)):Bool:=
 (match scope.kind with|.function=>true|_=>false)&&(scope.names.all λy=>decide (scope.names.lookup y.1=some y.2))&&(own.all λp=>decide (N[p.2]?=some p.1)) &&
  (scope.names.all λy=>match y.2 with
   | .free=>(match sc.names.lookup y.1 with|some .cell=>true|some .free=>true|_=>false)
   | .local =>decide (y.1∈own.map (·.1))||decide (y.1∉N)
   | .cell=>decide (y.1∈own.map (·.1))||decide (y.1∉N)
   | _=>true)
theorem zQ(h:Oi N sc scope own=true):AJ N sc scope own:=by
 unfold Oi at h;simp only[aS,cu,decide_eq_true_eq] at h;obtain⟨⟨⟨h1,h2⟩,h3⟩,h4⟩:=h;refine⟨?_,h2,h3,λy hy e=>?_,λy hy e=>?_⟩
 .split at h1
  .assumption
  .cases h1
 .have q:=h4 y hy;simp only[e] at q;split at q<;>first|exact .inl (by assumption)|exact .inr (by assumption)|cases q
 .have q:=h4 y hy;rcases e with e|e<;>(simp only[e,Bool.or_eq_true,decide_eq_true_eq] at q;exact q)
section
variable{κ:Type}[DecidableEq κ]
def ft(kvs:List (κ×V))(k:κ):Option V:=(kvs.find? λkv=>decide (kv.1=k)).map (·.2)
def jS(kvs:List (κ×V))(k:κ)(v:V):List (κ×V):=
 if(kvs.any λkv=>decide (kv.1=k))=true then kvs.map (λkv=>if kv.1=k then(kv.1,v) else kv) else kvs++[(k,v)]
theorem iq{p:κ×V}{r:List (κ×V)}{k:κ}(e:p.1=k):ft (p::r) k=some p.2:=by simp[ft,bC,e]
theorem gf{p:κ×V}{r:List (κ×V)}{k:κ}(e:¬p.1=k):ft (p::r) k=ft r k:=by simp[ft,bC,e]
theorem uy(k:κ):∀kvs:List (κ×V),(kvs.any λkv=>decide (kv.1=k))=(ft kvs k).isSome
 | []=>rfl
 | p::r=>by
  rw[bT];by_cases e:p.1=k
  .simp only[iq e,ao e,Bool.true_or,Option.isSome_some]
  .rw[gf e,a6 e,Bool.false_or];exact uy k r
theorem Ge(k j:κ)(y:V):∀kvs:List (κ×V),ft (kvs.map λkv=>if kv.1=k then(kv.1,y) else kv) j=(ft kvs j).map λx=>if j=k then y else x
 | []=>rfl
 | p::r=>by
  have ih:=Ge k j y r;rw[ay];by_cases h:p.1=k
  .rw[ae h];by_cases e:p.1=j
   .rw[iq (p:=(p.1,y)) e,iq e,Option.map_some,ae (e.symm.trans h)]
   .rw[gf (p:=(p.1,y)) e,gf e,ih]
  .rw[aa h];by_cases e:p.1=j
   .rw[iq (p:=p) e,iq e,Option.map_some,aa (λz=>h (e.trans z))]
   .rw[gf (p:=p) e,gf e,ih]
theorem Ea(k j:κ)(y:V):∀kvs:List (κ×V),ft kvs k=none->ft (kvs++[(k,y)]) j=if j=k then some y else ft kvs j
 | [],_=>by
  by_cases e:k=j
  .rw[ae e.symm];exact iq (p:=(k,y)) e
  .rw[aa (λz=>e z.symm)];exact gf (p:=(k,y)) e
 | p::r,hn=>by
  rw[List.cons_append];have hk:¬p.1=k:=λz=>by rw[iq z] at hn;cases hn
  rw[gf hk] at hn;have ih:=Ea k j y r hn;by_cases e:p.1=j
  .rw[iq e,iq e,aa (λz=>hk (e.trans z))]
  .rw[gf e,gf e,ih]
theorem zR(kvs:List (κ×V))(k j:κ)(y:V):ft (jS kvs k y) j=if j=k then some y else ft kvs j:=by
 unfold jS;by_cases a:(kvs.any λkv=>decide (kv.1=k))=true
 .rw[ae a,Ge];rw[uy] at a;by_cases e:j=k
  .obtain⟨x,hx⟩:=Option.isSome_iff_exists.mp a;rw[ae e,e,hx,Option.map_some,ae rfl]
  .rw[aa e];cases ft kvs j with
   | none=>rfl
   | some x=>rw[Option.map_some,aa e]
 .rw[aa a];refine Ea k j y kvs ?_;rw[uy] at a;cases q:ft kvs k with
  | none=>rfl
  | some x=>rw[q] at a;exact(a rfl).elim
theorem yM(kvs:List (κ×V))(k:κ)(v:V):(jS kvs k v).length<=kvs.length+1:=by
 unfold jS;split
 .rw[af];lia
 .rw[aC,az,bc];lia
theorem iD.isSome_eq(r:iD o u):o.isSome=u.isSome:=by
 cases o with
 | none=>cases u with
  | none=>rfl
  | some _=>exact(show False from r).elim
 | some _=>cases u with
  | none=>exact(show False from r).elim
  | some _=>rfl
theorem KV.val(r:KV kvs vs)(k:κ):iD (ft kvs k) (valueAt vs k):=by
 unfold KV at r
 induction r with
 | nil=>exact True.intro
 | @cons p q ps qs h t ih=>
  obtain⟨h1,h2⟩:=h;by_cases e:p.1=k
  .have e':q.1=k:=h1.symm.trans e;have b:valueAt (q::qs) k=some q.2:=by simp[valueAt,bC,e']
   rw[iq e,b];exact h2
  .have e':¬q.1=k:=λz=>e (h1.trans z);have b:valueAt (q::qs) k=valueAt qs k:=by simp[valueAt,bC,e']
   rw[gf e,b];exact ih
theorem KV.any(r:KV kvs vs)(k:κ):(kvs.any λkv=>decide (kv.1=k))=vs.any λkv=>decide (kv.1=k):=by
 unfold KV at r
 induction r with
 | nil=>rfl
 | cons h t ih=>rw[bT,bT,ih,h.1]
theorem KV.repl(r:KV kvs vs)(k:κ)(ry:dR y u):KV (kvs.map λkv=>if kv.1=k then(kv.1,y) else kv) (vs.map λkv=>if kv.1=k then(kv.1,u) else kv):=by
 unfold KV at r ⊢
 induction r with
 | nil=>exact .nil
 | @cons p q ps qs h t ih=>
  rw[ay,ay];refine .cons ?_ ih;obtain⟨h1,h2⟩:=h;by_cases e:p.1=k
  .rw[ae e,ae (h1.symm.trans e)];exact⟨h1,ry⟩
  .rw[aa e,aa (λz=>e (h1.trans z))];exact⟨h1,h2⟩
theorem KV.put(r:KV kvs vs)(k:κ)(ry:dR y u):KV (jS kvs k y) (stored vs k u):=by
 unfold jS stored;rw[r.any k];by_cases e:(vs.any λkv=>decide (kv.1=k))=true
 .rw[ae e,ae e];exact r.repl k ry
 .rw[aa e,aa e];exact Paired.snoc r ⟨rfl,ry⟩
theorem KV.length(r:KV kvs vs):kvs.length=vs.length:=Paired.length r
end
theorem uz(r:dR (kV k) u):(fZ P w).is k u=true:=by
 cases k with
 | inl i=>obtain⟨t,e⟩:=(show ∃t,u=Value.int i t from r);subst e;exact Iu P w i t
 | inr x=>obtain⟨t,e⟩:=(show ∃t,u=Value.str x t from r);subst e;exact Iv P w x t
theorem Eb:∀{ks:List fb} {us:List Value},dM (ks.map kV) us->ItemsAre (fZ P w) ks us
 | [],_,r=>by rw[List.map_nil] at r;cases r;exact .nil
 | k::ks,_,r=>by
  rw[ay] at r;cases r with
  | cons h t=>exact .cons (uz h) (Eb t)
abbrev KT(H:Hp):List (List fb×V)->List (List fb×cS×Value)->Prop:=Paired λp q=>p.1=q.1/\H q.2.1=some (.tup (p.1.map kV))/\dR p.2 q.2.2
theorem KT.val(r:KT H kvs xs)(k:List fb):iD (ft kvs k) ((atKey xs k).map (·.2)):=by
 induction r with
 | nil=>exact True.intro
 | @cons p q ps qs h t ih=>
  obtain⟨h1,_,h2⟩:=h;by_cases e:p.1=k
  .have e':q.1=k:=h1.symm.trans e;have b:atKey (q::qs) k=some q.2:=by simp[atKey,bC,e']
   rw[iq e,b];exact h2
  .have e':¬q.1=k:=λz=>e (h1.trans z);have b:atKey (q::qs) k=atKey qs k:=by simp[atKey,bC,e']
   rw[gf e,b];exact ih
theorem KT.repl(r:KT H kvs xs)(k:List fb)(ry:dR y u):KT H (kvs.map λkv=>if kv.1=k then(kv.1,y) else kv) (xs.map (putAt k u)):=by
 induction r with
 | nil=>exact .nil
 | @cons p q ps qs h t ih=>
  rw[ay,ay];refine .cons ?_ ih;obtain⟨h1,h2,h3⟩:=h;unfold putAt;by_cases e:p.1=k
  .rw[ae e,ae (h1.symm.trans e)];exact⟨h1,h2,ry⟩
  .rw[aa e,aa (λz=>e (h1.trans z))];exact⟨h1,h2,h3⟩
theorem KT.put(r:KT H kvs xs)(k:List fb)(hb:H b=some (.tup (k.map kV)))(ry:dR y u):KT H (jS kvs k y) (storedH xs k b u):=by
 have e:(kvs.any λkv=>decide (kv.1=k))=(atKey xs k).isSome:=by
  rw[uy,(r.val k).isSome_eq,Option.isSome_map]
 unfold jS storedH;rw[e];by_cases q:(atKey xs k).isSome=true
 .rw[ae q,ae q];exact r.repl k ry
 .rw[aa q,aa q];exact Paired.snoc r ⟨rfl,hb,ry⟩
theorem KT.keeps(r:KT H kvs xs)(ht:∀b ys,H b=some (.tup ys)->H' b=some (.tup ys)):KT H' kvs xs:=
 Paired.mapP r λ_ _ z=>⟨z.1,ht _ _ z.2.1,z.2.2⟩
section
variable{P:Program}{w:World}{H:Hp}{h:Heap}{a:cS}
theorem Px(ok:gF P w H h)(e:Rd H a u):eR P w H h a u:=e.ok ok
theorem AK(ok:gF P w H h)(e:Rd H a (.dK kvs)):kvs.length<=sizeLine/\(a==sysModules)=false/\∃vs,KV kvs vs/\h.DictOf (fZ P w) a vs:=
 show eR P w H h a (.dK kvs) from Px ok e
theorem To(ok:gF P w H h)(e:H a=some (.dK kvs)):kvs.length<=sizeLine/\(a==sysModules)=false/\∃vs,KV kvs vs/\h.DictOf (fZ P w) a vs:=AK ok (.inl e)
theorem pM(ok:gF P w H h)(e:H a=some (.tup (ks.map kV))):(tupleKind (fZ P w)).is h ks a:=by
 obtain⟨_,Xa,r,o,h1,h2,n,h3⟩:=(show eR P w H h a (.tup (ks.map kV)) from ok a _ e);exact⟨o,Xa.toArray,n,h1,h2,h3,by simpa using Eb r⟩
theorem AL(ok:gF P w H h)(e:Rd H a (.dT kvs)):kvs.length<=sizeLine/\(a==sysModules)=false/\∃xs,KT H kvs xs/\h.DictOfH (tupleKind (fZ P w)) a xs:=by
 obtain⟨z,y,xs,r,o,es,ep,h1,h2,h3,h4,h5⟩:=(show eR P w H h a (.dT kvs) from Px ok e);refine⟨z,y,xs,r,o,es,ep,h1,h2,h3,h4,λx hx=>?_,h5⟩;have all:∀{l:List (List fb×V)} {m:List (List fb×cS×Value)},KT H l m->∀x∈m,(tupleKind (fZ P w)).is h x.1 x.2.1:=by
  intro l m q
  induction q with
  | nil=>intro x hx;exact nomatch hx
  | @cons p q ps qs hq t ih=>
   intro x hx;rcases aw.mp hx with e|hx
   .subst e;exact pM ok (by rw[←hq.1];exact hq.2.1)
   .exact ih x hx
 exact all r x hx
theorem Tp(ok:gF P w H h)(e:H a=some (.dT kvs)):kvs.length<=sizeLine/\(a==sysModules)=false/\∃xs,KT H kvs xs/\h.DictOfH (tupleKind (fZ P w)) a xs:=AL ok (.inl e)
end
def lD(H:Hp)(a:cS)(y:V)(r:Option V):Prop:=
 (∃kvs k,Rd H a (.dK kvs)/\y=kV k/\r=ft kvs k)∨∃kvs k b,Rd H a (.dT kvs)/\y=.ref b/\H b=some (.tup (k.map kV))/\r=ft kvs k
def Ci(H:Hp)(a:cS)(y v:V)(H':Hp):Prop:=
 (∃kvs k,H a=some (.dK kvs)/\y=kV k/\kvs.length<sizeLine/\H'=upd H a (.dK (jS kvs k v)))∨
 ∃kvs k b,H a=some (.dT kvs)/\y=.ref b/\H b=some (.tup (k.map kV))/\kvs.length<sizeLine/\H'=upd H a (.dT (jS kvs k v))
theorem lD.k{H:Hp}{a:cS}{kvs:List (fb×V)}{k:fb}(e:H a=some (.dK kvs)):lD H a (kV k) (ft kvs k):=.inl ⟨kvs,k,.inl e,rfl,rfl⟩
theorem Ci.k{H:Hp}{a:cS}{kvs:List (fb×V)}{k:fb}{v:V}(e:H a=some (.dK kvs))(hl:kvs.length<sizeLine):Ci H a (kV k) v (upd H a (.dK (jS kvs k v))):=.inl ⟨kvs,k,e,rfl,hl,rfl⟩
section
variable{X:Cx}{pins:List (cS×Obj)}{U:St}{H:Hp}{s:cU}{a:cS}{y v:V}{u r:Value}{o:Option V}{A:Around}{E:Value->cU->Prop}
theorem cY.big(I:cY X pins U H s):sysModules<s.heap.objs.size:=by
 have h:mainGlobals<s.heap.objs.size:=(I.mod.glob.keeps I.bk).lt;exact aX (by decide) h
theorem MH(hu:A.units+1<cLine)(I:cY X pins U H s)(g:lD H a y (some v))(ry:dR y u)(h:∀w' s',cY X pins U H s'->dR v w'->Q w' s'):wpAny (model X.prog X.w) A (getItem (.ref a) u) Q E s:=by
 rcases g with ⟨kvs,k,e,ey,l⟩|⟨kvs,k,b,e,ey,eb,l⟩
 .subst ey;obtain⟨z,hd,vs,rel,dd⟩:=AK I.hok e;obtain⟨w',hw,YW⟩:=iD.some_of (v:=v) (o:=valueAt vs k) (by rw[l];exact rel.val k);exact wpAny_getItem_of (uz ry) dd.mapOf hw (h w' _ (I.tok _) YW)
 .subst ey;cases (show u=Value.ref b from ry);obtain⟨z,hd,xs,rel,dd⟩:=AL I.hok e;obtain⟨w',hw,YW⟩:=iD.some_of (v:=v) (o:=(atKey xs k).map (·.2)) (by rw[l];exact rel.val k);obtain⟨p,hp,XQ⟩:=cw.mp hw;refine wpAny_getItem_heap (tupleKind_room_in1 hu) (pM I.hok eb) dd hp ?_;rw[XQ];exact h w' _ (I.tok _) YW
theorem UA(hu:A.units+1<cLine)(I:cY X pins U H s)(g:lD H a y o)(ry:dR y u)(h:∀s',cY X pins U H s'->Q (.bool o.isSome) s'):wpAny (model X.prog X.w) A (compareOp .In u (.ref a)) Q E s:=by
 rcases g with ⟨kvs,k,e,ey,l⟩|⟨kvs,k,b,e,ey,eb,l⟩
 .subst ey;obtain⟨z,hd,vs,rel,dd⟩:=AK I.hok e;refine wpAny_in_of (uz ry) hd dd.mapOf ?_;rw[←(rel.val k).isSome_eq,←l];exact h _ (I.tok _)
 .subst ey;cases (show u=Value.ref b from ry);obtain⟨z,hd,xs,rel,dd⟩:=AL I.hok e;refine wpAny_in_heap (tupleKind_room_in1 hu) (pM I.hok eb) hd dd ?_;have q:=(rel.val k).isSome_eq;rw[Option.isSome_map] at q;rw[←q,←l];exact h _ (I.tok _)
theorem Qr(hu:A.units+1<cLine)(I:cY X pins U H s)(g:lD H a y o)(ry:dR y u)(h:∀s',cY X pins U H s'->Q (.bool (!o.isSome)) s'):wpAny (model X.prog X.w) A (compareOp .NotIn u (.ref a)) Q E s:=by
 rcases g with ⟨kvs,k,e,ey,l⟩|⟨kvs,k,b,e,ey,eb,l⟩
 .subst ey;obtain⟨z,hd,vs,rel,dd⟩:=AK I.hok e;refine wpAny_notIn_of (uz ry) hd dd.mapOf ?_;rw[←(rel.val k).isSome_eq,←l];exact h _ (I.tok _)
 .subst ey;cases (show u=Value.ref b from ry);obtain⟨z,hd,xs,rel,dd⟩:=AL I.hok e;refine wpAny_notIn_heap (tupleKind_room_in1 hu) (pM I.hok eb) hd dd ?_;have q:=(rel.val k).isSome_eq;rw[Option.isSome_map] at q;rw[←q,←l];exact h _ (I.tok _)
theorem JW(I:cY X pins U H s)(mu:Mn (H a))(hs:Heap.SameBut a s.heap h')(he:∃q,h'.get? a=some q)(new:eR X.prog X.w (upd H a ob) h' a ob):cY X pins U (upd H a ob) {s with heap:=h',toks:=t'}:=
 I.write (x:=a) (e:=a) mu (.inl rfl) (λb q hb z=>(hs.2 b hb).trans z) he new
theorem RK(z:kvs.length<=sizeLine)(hd:(a==sysModules)=false)(rel:KV kvs vs)(dd:h'.DictOf (fZ P w) a vs):eR P w H' h' a (.dK kvs):=⟨z,hd,vs,rel,dd⟩
theorem MI(hu:A.units+1<cLine)(I:cY X pins U H s)(g:Ci H a y v H')(ry:dR y u)(rv:dR v r)(h:∀s',cY X pins U H' s'->Q () s'):wpAny (model X.prog X.w) A (setItem (.ref a) u r) Q E s:=by
 rcases g with ⟨kvs,k,e,ey,l,eH⟩|⟨kvs,k,b,e,ey,eb,l,eH⟩
 .subst ey eH;obtain⟨z,hd,vs,rel,dd⟩:=To I.hok e;have hz:vs.length<=sizeLine:=by rw[←rel.length];exact z
  have hl:(jS kvs k v).length<=sizeLine:=by have:=yM kvs k v;lia
  refine wpAny_setItem_pairs (hsz:=hz) (uz ry) dd λh' acN hs=>h _ ?_;have he:∃q,h'.get? a=some q:=let ⟨q,_,_,hq,_⟩:=acN;⟨q,hq⟩;exact JW I (by rw[e];exact True.intro) hs he (RK hl hd (rel.put k rv) acN)
 .subst ey eH;cases (show u=Value.ref b from ry);obtain⟨z,hd,xs,rel,dd⟩:=Tp I.hok e;have hz:xs.length<=sizeLine:=by rw[←Paired.length rel];exact z
  have hl:(jS kvs k v).length<=sizeLine:=by have:=yM kvs k v;lia
  refine wpAny_setItem_heap (hsz:=hz) (tupleKind_room_in1 hu) (pM I.hok eb) dd λh' acN hs=>h _ ?_;obtain⟨q,es,ep,hq,h2,h3,h4,_,h5⟩:=acN;refine JW I (by rw[e];exact True.intro) hs ⟨q,hq⟩ ⟨hl,hd,_,(rel.put k eb rv).keeps λc ys ec=>?_,q,es,ep,hq,h2,h3,h4,h5⟩;rw[ap (Tj ec e (λz=>nomatch z))];exact ec
end
def KQ(i:Expr):Prop:=∀ov iv,subscripted i false ov iv=operate [ov,iv] (getItem ov iv)
theorem Cj{prog:Program}{w:World}{A:Around}{E:Value->cU->Prop}{s:cU}{env:Env}{value slice:Expr}{pos:Pos}{T id:String}{Q:Value->cU->Prop}(hl:typeLookup (.type T) "__getitem__"=pure (some (.builtin id)))(hs:KQ slice)(h:wpAny (model prog w) A (eval value env) (λo s₁=>wpAny (model prog w) A (eval slice env) (λi s₂=>s₂.TypeIs o T/\wpAny (model prog w) A (getItem o i) Q E s₂) E s₁) E s):wpAny (model prog w) A (eval (.Subscript value slice pos) env) Q E s:=by
 refine Subscript_ (aK h (λo s₁ h₁=>aK h₁ (λi s₂ h₂=>?_) λ_ _ x=>x) λ_ _ x=>x);obtain⟨hT,h₂⟩:=h₂;unfold subscriptTail;refine ag ?_;rw[getitemInPython_of_ne hT.not_modules];refine ag (wpAny_specialOf hT hl ?_);have fin:wpAny (model prog w) A (subscripted slice false o i) (λr s₃=>wpAny (model prog w) A (letTemporaryGo value o r >>= λ_=>pure r) Q E s₃) E s₂:=by
  rw[hs o i];exact wpAny_operating (aK h₂ (λr s₃ h₃=>ag (wpAny_letTemporaryGo (wpAny_pure h₃))) λ_ _ x=>x)
 first
  | exact wpAny_pure (ag fin)
  | exact ag (wpAny_pure (ag fin))
  | exact ag fin
theorem Iz(I:cY X pins U H s)(g:lD H a y o):s.TypeIs (.ref a) "dict":=by
 rcases g with ⟨kvs,k,e,_,_⟩|⟨kvs,k,b,e,_,_,_⟩
 .obtain⟨_,_,vs,_,dd⟩:=AK I.hok e;exact dd.typeIs
 .obtain⟨_,_,xs,_,dd⟩:=AL I.hok e;exact dd.typeIs
def Py(td ty:TE):TE:=λU H Q=>td U H λx H1=>ty U H1 λy H2=>∃a v,x=.ref a/\lD H2 a y (some v)/\Q v H2
def RL(ty td:TE):TE:=λU H Q=>ty U H λy H1=>td U H1 λx H2=>∃a o,x=.ref a/\lD H2 a y o/\Q (.bl o.isSome) H2
def JX(ty td:TE):TE:=λU H Q=>ty U H λy H1=>td U H1 λx H2=>∃a o,x=.ref a/\lD H2 a y o/\Q (.bl (!o.isSome)) H2
def Pz(td ty tv:TE):TS:=λD U H=>tv U H λv H1=>td U H1 λx H2=>ty U H2 λy H3=>∃a H4,x=.ref a/\Ci H3 a y v H4/\D.nx U H4
section
variable{X:Cx}{o i e value:Expr}{pos pos' YO:Pos}{td ty tv:TE}
theorem Qs(hu:X.A.units+1<cLine)(ho:PE X o td)(hi:PE X i ty)(hs:KQ i):PE X (.Subscript o i pos) (Py td ty):=by
 intro pins s U H Q I h;refine Cj cM.lookup hs (dJ (ho pins s U H _ I h) λu s1 ⟨x,H1,I1,rx,q1⟩=>dJ (hi pins s1 U H1 _ I1 q1) λiv s2 ⟨y,H2,I2,ry,a,v,ex,g,q2⟩=>?_);subst ex;obtain rfl:u=Value.ref a:=rx;exact⟨Iz I2 g,MH hu I2 g ry λw' s3 I3 YW=>⟨v,H2,I3,YW,q2⟩⟩
theorem RM(hu:X.A.units+1<cLine)(hi:PE X i ty)(ho:PE X o td):PC X .In i o (RL ty td):=by
 intro pins s U H Q I h;refine dJ (hi pins s U H _ I h) λiv s1 ⟨y,H1,I1,ry,q1⟩=>dJ (ho pins s1 U H1 _ I1 q1) λu s2 hO=>?_;obtain⟨x,H2,I2,rx,a,ov,ex,g,q2⟩:=hO;subst ex;obtain rfl:u=Value.ref a:=rx;exact UA hu I2 g ry λs3 I3=>⟨.bl ov.isSome,H2,I3,rfl,q2⟩
theorem MJ(hu:X.A.units+1<cLine)(hi:PE X i ty)(ho:PE X o td):PC X .NotIn i o (JX ty td):=by
 intro pins s U H Q I h;refine dJ (hi pins s U H _ I h) λiv s1 ⟨y,H1,I1,ry,q1⟩=>dJ (ho pins s1 U H1 _ I1 q1) λu s2 hO=>?_;obtain⟨x,H2,I2,rx,a,ov,ex,g,q2⟩:=hO;subst ex;obtain rfl:u=Value.ref a:=rx;exact Qr hu I2 g ry λs3 I3=>⟨.bl (!ov.isSome),H2,I3,rfl,q2⟩
theorem JY(hu:X.A.units+1<cLine)(ho:PE X o td)(hi:PE X i ty)(hv:PE X value tv)(hs:swapsWith value (some (.Subscript o i pos')) pos.line X.env=pure false):PS X (.Assign [.Subscript o i pos'] value pos) (Pz td ty tv):=by
 intro pins s U H D I h;refine wpAny_Assign_Subscript (dJ (hv pins s U H _ I h) λr s1 ⟨v,H1,I1,rv,q1⟩=>dJ (ho pins s1 U H1 _ I1 q1) λu s2 ⟨x,H2,I2,rx,q2⟩=>dJ (hi pins s2 U H2 _ I2 q2) λiv s3 ⟨y,H3,I3,ry,a,H4,ex,g,q3⟩=>?_) hs;subst ex;obtain rfl:u=Value.ref a:=rx;exact MI hu I3 g ry rv λs4 I4=>⟨U,H4,I4,q3⟩
end
theorem Oj(h:Heap)(hb:sysModules<h.objs.size):eR P w H (h.push {cls:=.type "dict",data:=.dict #[]}) h.objs.size (.dK []):=
 ⟨aI _,beq_eq_false_iff_ne.mpr (Ne.symm (aF hb)),[],.nil,Heap.DictOf.new h⟩
def MK:TE:=λ_ H Q=>∀p,H p=none->Q (.ref p) (upd H p (.dK []))
section
variable{X:Cx}{pos:Pos}
theorem uA:PE X (.Dict [] [] pos) MK:=λpins s U H Q I h=>
 wpAny_Dict_empty ⟨.ref s.heap.objs.size,_,I.laid (a:=s.heap.objs.size) (o:=.dK []) (t':=s.toks) (λ_ _ q=>aB _ q) (ah _) (Oj s.heap I.big),rfl,h _ (I.hok.fresh (ah _))⟩
end
theorem Ck:bootBuiltins "reversed"=some (.type "reversed"):=by rfl'
section
variable{X:Cx}{pins:List (cS×Obj)}{U:St}{H:Hp}{s:cU}{h':Heap}
theorem cY.turnedL{t':Nat}{ch:List cS}(I:cY X pins U H s)(k:∀b o,b∉ch->s.heap.get? b=some o->h'.get? b=some o)(hf:∀b∈ch,iP X pins H b):cY X pins U H {s with heap:=h',toks:=t'}:=by
 have Z5:∀b u,H b=some u->b∉ch:=λb u e z=>by
  have q:=(hf b z).1;rw[q] at e;cases e
 refine I.step (g':=s.gens) (d':=s.drawn) (ch:=ch) (λb hb=>⟨(hf b hb).2.2.2.1,(hf b hb).2.1,(hf b hb).2.2.2.2.1,(hf b hb).2.2.2.2.2⟩) (λb o _ _ hc e _=>k b o hc e) (λb o _ _ hc e _=>⟨o.slots,k b o hc e⟩)
  (λ_ _ _ _ n=>n) (λb o hc e=>⟨o,k b o hc e⟩) (λ_ _ e=>e) (λ_ _ _ e=>e) (λb ps e=>⟨#[],by rw[e];simp⟩) (λm hm=>?_) (λb u e=>?_) I.bare
 .obtain⟨o,es,ep,ho,r⟩:=hm;exact⟨o,es,ep,k _ o (λz=>(hf _ z).2.1 rfl) ho,r⟩
 .refine(I.hok b u e).stay (λc v hc q=>k c v ?_ q) (λ_ q=>q) λ_ _ q=>q;rcases hc with z|z
  .rw[z];exact Z5 b u e
  .exact Z5 c _ z
theorem cY.turnedNew{t':Nat}{ch:List cS}{T:cS}{ob:HO}(I:cY X pins U H s)(k:∀b o,b∉ch->s.heap.get? b=some o->h'.get? b=some o)(hf:∀b∈ch,iP X pins H b)(hT:s.heap.objs.size<=T)(new:eR X.prog X.w (upd H T ob) h' T ob):cY X pins U (upd H T ob) {s with heap:=h',toks:=t'}:=by
 have hn:H T=none:=I.hok.fresh hT;have Z5:∀b u,H b=some u->b∉ch:=λb u e z=>by
  have q:=(hf b z).1;rw[q] at e;cases e
 refine I.step (g':=s.gens) (d':=s.drawn) (ch:=ch) (λb hb=>⟨(hf b hb).2.2.2.1,(hf b hb).2.1,(hf b hb).2.2.2.2.1,(hf b hb).2.2.2.2.2⟩) (λb o _ _ hc e _=>k b o hc e) (λb o _ _ hc e _=>⟨o.slots,k b o hc e⟩)
  (λb o _ e n=>?_) (λb o hc e=>⟨o,k b o hc e⟩) (λb xs e=>?_) (λb o u e=>?_) (λb ps e=>⟨#[],?_⟩) (λm hm=>?_) (λb u e=>?_) I.bare
 .rw[ap (aF (aE (aj e) hT))];exact n
 .rw[ap (ca e hn)];exact e
 .rw[ap (ca e hn)];exact e
 .rw[ap (ca e hn),e];simp
 .obtain⟨o,es,ep,ho,r⟩:=hm;exact⟨o,es,ep,k _ o (λz=>(hf _ z).2.1 rfl) ho,r⟩
 .by_cases hb:b=T
  .subst hb;rw[bv] at e;cases e;exact new
  .rw[ap hb] at e;refine(I.hok b u e).stay (λc v hc q=>k c v ?_ q) (λc q=>by rw[ap (ca q hn)];exact q) λc xs q=>by rw[ap (ca q hn)];exact q
   rcases hc with z|z
   .rw[z];exact Z5 b u e
   .exact Z5 c _ z
end
section
variable{X:Cx}
theorem AM(I:cY X pins U H s)(o:Obj)(T:rL X.prog X.w X.K tg J [s.heap.objs.size] s.heap.objs.size tn)(st:tn 0 (s.heap.push o))(q:R J H):Rv X pins U tg R (.ref s.heap.objs.size) {s with heap:=s.heap.push o,toks:=tk}:=by
 refine⟨s.heap.objs.size,[s.heap.objs.size],tn,J,H,rfl,I.kept λb ob e=>aB _ e,T,st,λb hb=>?_,q⟩;have e:b=s.heap.objs.size:=by simpa using hb
 subst e;exact I.fpOk (ah _) (I.hok.fresh (ah _))
end
def AN(lo c:Int)(n:Nat):It:=⟨λi _=>i<n,λi H x H'=>H'=H/\x=.int (lo+(i:Nat)*c),λi _=>n<=i⟩
theorem IA{P:Program}{w:World}{K:cV}{tg:Expr}(it:cS)(lo c:Int)(n:Nat):rL P w K tg (AN lo c n) [it] it (λi h=>IsRangeIter h it (lo+(i:Nat)*c) ((n:Int)-(i:Nat)) c) where
 mem:=by simp
 obj:=λi h st b hb=>by
  have e:b=it:=by simpa using hb
  subst e;exact⟨_,st,λv z=>nomatch z⟩
 keep:=λi h h' st k=>k it (by simp) _ st
 item:=by
  intro X hP hw hK hc i pins s U H E I hf st hg;subst hP hw hK;obtain⟨f0,f1,f2,f3,f4,f5⟩:=hf it (by simp);have W:=Walks.range (prog:=X.prog) (w:=X.w) (I.ok.hd hc) it lo c n;refine W.item i s _ _ hg st λv h' tk hv XT kk=>?_;obtain⟨t,rfl⟩:=hv;have I1:cY X pins U H {s with heap:=h',toks:=tk}:=I.turned (λb o hb e=>kk b o (by simpa using hb) e) f0 f1 f3 f4 f5;exact⟨_,rfl,xY (s:={s with heap:=h',toks:=tk}) (n:="range_iterator") XT rfl rfl (by decide) ⟨.int (lo+(i:Nat)*c),H,I1,⟨t,rfl⟩,⟨rfl,rfl⟩,XT,λb hb=>(hf b hb).1⟩⟩
 done:=by
  intro X hP hw hK hc i pins s U H E I hf st hg;subst hP hw hK;obtain⟨f0,f1,f2,f3,f4,f5⟩:=hf it (by simp);exact wpAny_pyNext_range_end (I.ok.hd hc) st (by have:n<=i:=hg;lia) λh' eb=>⟨rfl,I.turned (t':=s.toks) (λb o hb e=>eb b o hb e) f0 f1 f3 f4 f5⟩
 self:=λA i s Q E st h=>wpAny_pyIter_rangeiter st h
def ML(i j c:Int)(n:Nat):Prop:=c≠0/\c.natAbs<1073741824/\Builtin.Range.small i j c=true/\Builtin.Range.rangeSize i j c=n
theorem ML.neg(ha:-(2^62)<=i)(aa7:i<2^62)(hb:-(2^62)<=j)(Y9:j<2^62):ML i j (-1) (i-j).toNat:=
 ⟨by decide,by decide,PySem.W.small_down ha aa7 hb Y9,PySem.W.rangeSize_downNat i j⟩
def PB(ta:TA):TI:=λU H R=>ta U H λvs H1=>∃(i j c:Int)(n:Nat),vs=[.int i,.int j,.int c]/\ML i j c n/\R (AN i c n) H1
section
variable{X:Cx}{tg:Expr}
theorem MM(hg:Gl X "range")(hm:X.mg "range"=none)(ha:PA X [a,b,c] ta)(hs:starEach [a,b,c] X.env=(false,eval a X.env)::starEach [b,c] X.env:=by rfl)(Xj:(backTo pos (starEach [b,c] X.env)).any (·.1)=false:=by rfl):PI X tg (.Call (.Name "range" p) [a,b,c] [] pos) (PB ta):=by
 intro pins s U H R I h;refine Call_ (kL I hg hm boot_range (bR (dJ (ha pos pins s U H _ I h) λus s1 ⟨vs,H1,I1,r1,q1⟩=>?_) hs Xj));obtain⟨i,j,k,n,e,⟨c0,c1,c2,c3⟩,q⟩:=q1;subst e;cases r1 with
 | cons r rr=>
  cases rr with
  | cons r' rr=>
   cases rr with
   | cons r'' rr=>
    cases rr;obtain⟨t,rfl⟩:=r;obtain⟨t',rfl⟩:=r';obtain⟨t'',rfl⟩:=r'';refine call_range_3 c0 ?_ (.inl (PyProof.noPylong_small c1));refine wpAny_pyIter_range (IsRange.new ..) c2 ?_;have I2:cY X pins U H1 {s1 with heap:=s1.heap.push {cls:=.type "range",data:=.fields #[.int i t,.int j t',.int k t'']}}:=I1.kept (t':=s1.toks) λb o e=>aB _ e;refine AM (tk:=s1.toks) I2 _ (IA _ i k n) ?_ q;have e1:i+((0:Nat):Int)*k=i:=(by simp);have e2:(n:Int)-((0:Nat):Int)=Builtin.Range.rangeSize i j k:=(by rw[c3];simp);show IsRangeIter _ _ (i+((0:Nat):Int)*k) ((n:Int)-((0:Nat):Int)) k;rw[e1,e2];exact aM _ rfl
end
theorem KR{lo c:Int}{n:Nat}{g:TG}{tb:TS}{D:mK}{U:St}{H:Hp}(Pv:Nat->St->Hp->Prop)(h0:Pv 0 U H)(hs:∀i U H,i<n->Pv i U H->g (.int (lo+(i:Nat)*c)) U H λU2 H2=>tb {D with nx:=Pv (i+1),ct:=Pv (i+1),bk:=D.nx} U2 H2)(hd:∀U H,Pv n U H->D.nx U H):∃W:Nat->Nat->St->Hp->Prop,(∃m,W 0 m U H)/\∀i m U H,W i m U H->((AN lo c n).stop i H/\D.nx U H)∨((AN lo c n).go i H/\∃N:St->Hp->Prop,(∀U' H',N U' H'->∃m',m'<m/\W (i+1) m' U' H')/\∀x H',(AN lo c n).yld i H x H'->g x U H' λU2 H2=>tb {D with nx:=N,ct:=N,bk:=D.nx} U2 H2):=by
 refine⟨λi m U H=>m=n-i/\i<=n/\Pv i U H,⟨n,by simp,aI _,h0⟩,?_⟩;rintro i m U H ⟨rfl,hi,p⟩;by_cases Xg:i<n
 .refine .inr ⟨Xg,Pv (i+1),λU' H' p'=>⟨n-(i+1),by lia,rfl,Xg,p'⟩,λx H' y=>?_⟩;obtain⟨e,y⟩:=y;subst e y;exact hs i U _ Xg p
 .have e:i=n:=by lia
  subst e;exact .inl ⟨ah _,hd U H p⟩
def Gf(K:cV)(a:cS)(n:Nat):It:=
 ⟨λi H=>i<n/\∃(xs:List V)(x:V),dU K H a xs/\xs[n-1-i]?=some x,λi H x H'=>H'=H/\∀xs,dU K H a xs->xs[n-1-i]?=some x,λi _=>n<=i⟩
theorem Ol{P:Program}{w:World}{K:cV}{tg:Expr}(a it:cS)(n:Nat):rL P w K tg (Gf K a n) [it] it (λi h=>i<=n/\h.IsRevIter it a ((n:Int)-1-(i:Nat))) where
 mem:=by simp
 obj:=λi h st b hb=>by
  have e:b=it:=by simpa using hb
  subst e;obtain⟨_,o,e,c,d⟩:=st;exact⟨o,e,λv z=>by rw[d] at z;cases z⟩
 keep:=λi h h' st k=>⟨st.1,st.2.at λo e=>k it (by simp) o e⟩
 item:=by
  intro X hP hw hK hc i pins s U H E I hf st hg;subst hP hw hK;obtain⟨aa8,xs,x,hq,hx⟩:=hg;obtain⟨Xa,rv,p,hz⟩:=I.list hq;obtain⟨u,hu,ru⟩:=rv.get hx;obtain⟨f0,f1,f2,f3,f4,f5⟩:=hf it (by simp);obtain⟨_,hit⟩:=st;have e1:(n:Int)-1-((i:Nat):Int)=((n-1-i:Nat):Int):=by lia
  rw[e1] at hit;refine wpAny_pyNext_rev_item hit p.isList (x:=u) (by simpa using hu) λh' XT sb=>?_;have e2:((n-1-i:Nat):Int)-1=(n:Int)-1-((i+1:Nat):Int):=by lia
  rw[e2] at XT;have I1:cY X pins U H {s with heap:=h'}:=I.turned (t':=s.toks) (λb o hb e=>(sb.2 b hb).trans e) f0 f1 f3 f4 f5;obtain⟨o,e,c,d⟩:=id XT;exact⟨u,rfl,xY (s:={s with heap:=h'}) e c d (by decide) ⟨x,H,I1,ru,⟨rfl,λys hy=>by rw[I.list_inj hy hq];exact hx⟩,⟨aa8,XT⟩,λb hb=>(hf b hb).1⟩⟩
 done:=by
  intro X hP hw hK hc i pins s U H E I hf st hg;subst hP hw hK;obtain⟨f0,f1,f2,f3,f4,f5⟩:=hf it (by simp);obtain⟨aa8,hit⟩:=st;have Zu:n<=i:=hg;have e1:(n:Int)-1-((i:Nat):Int)=-1:=by lia
  rw[e1] at hit;exact wpAny_pyNext_rev_end (I.ok.hd hc) hit λh' eb=>⟨rfl,I.turned (t':=s.toks) (λb o hb e=>eb b o hb e) f0 f1 f3 f4 f5⟩
 self:=λA i s Q E st h=>wpAny_pyIter_revIter st.2 h
def RN(K:cV)(ta:TA):TI:=λU H R=>ta U H λvs H1=>∃(a:cS)(xs:List V),vs=[.ref a]/\dU K H1 a xs/\R (Gf K a xs.length) H1
section
variable{X:Cx}{tg:Expr}
theorem IB{e:Expr}{ta:TA}{p pos:Pos}(hg:Gl X "reversed")(hm:X.mg "reversed"=none)(ha:PA X [e] ta)(hs:starEach [e] X.env=[(false,eval e X.env)]:=by rfl):PI X tg (.Call (.Name "reversed" p) [e] [] pos) (RN X.K ta):=by
 intro pins s U H R I h;refine Call_ (kL I hg hm Ck (bR (dJ (ha pos pins s U H _ I h) λus s1 ⟨vs,H1,I1,r1,q1⟩=>?_) hs rfl));obtain⟨a,xs,e,hq,q⟩:=q1;subst e;cases r1 with
 | cons r rr=>
  cases rr;cases r;obtain⟨Xa,rv,p',hz⟩:=I1.list hq;have hl:=rv.length;have e1:((Xa.toArray.size:Nat):Int)-1=(xs.length:Int)-1-((0:Nat):Int):=by simp only[aG];lia
  refine call_reversed_list p'.isList (wpAny_pyIter_revIter (l:=a) (i:=((Xa.toArray.size:Nat):Int)-1) ⟨_,aM _ rfl,rfl,rfl⟩ ?_);refine AM (tk:=s1.toks) I1 _ (Ol a _ xs.length) ⟨aI _,?_⟩ q;rw[←e1];exact⟨_,aM _ rfl,rfl,rfl⟩
end
def JZ(x:Str):It:=⟨λi _=>i<x.cps.size,λi H v H'=>H'=H/\∃c,x.cps[i]?=some c/\v=.str ⟨#[c]⟩,λi _=>x.cps.size<=i⟩
theorem Gg{P:Program}{w:World}{K:cV}{tg:Expr}(it:cS)(x:Str)(t:Tok)(ty:String)(aa4:ty="str_ascii_iterator"∨ty="str_iterator"):rL P w K tg (JZ x) [it] it (λi h=>h.IsStrIter it ty x t i) where
 mem:=by simp
 obj:=λi h st b hb=>by
  have e:b=it:=by simpa using hb
  subst e;obtain⟨o,e,c,d⟩:=st;exact⟨o,e,λv z=>by rw[d] at z;cases z⟩
 keep:=λi h h' st k=>let ⟨o,ho,r⟩:=st;⟨o,k it (by simp) o ho,r⟩
 item:=by
  intro X hP hw hK hc i pins s U H E I hf st hg;subst hP hw hK;obtain⟨f0,f1,f2,f3,f4,f5⟩:=hf it (by simp);have W:Walks X.prog X.w X.A it [it] [it] x.cps.size (SignAt x) (λi h=>h.IsStrIter it ty x t i):=by
   rcases aa4 with e|e
   .rw[e];exact Walks.strAscii (I.ok.hd hc) it x t
   .rw[e];exact Walks.strWide (I.ok.hd hc) it x t
  have aaE:["enumerate","zip","dict_itemiterator","dict_reverseitemiterator","odict_iterator","itertools.zip_longest","itertools.pairwise"].contains ty=false:=by
   rcases aa4 with e|e
   .rw[e];decide
   .rw[e];decide
  refine W.item i s _ _ hg st λv h' tk hv XT kk=>?_;obtain⟨c,u,hcx,rfl⟩:=hv;have I1:cY X pins U H {s with heap:=h',toks:=tk}:=I.turned (λb o hb e=>kk b o (by simpa using hb) e) f0 f1 f3 f4 f5;obtain⟨oi,e,cc,dd⟩:=id XT;exact⟨_,rfl,xY (s:={s with heap:=h',toks:=tk}) e cc dd aaE ⟨.str ⟨#[c]⟩,H,I1,⟨u,rfl⟩,⟨rfl,c,hcx,rfl⟩,XT,λb hb=>(hf b hb).1⟩⟩
 done:=by
  intro X hP hw hK hc i pins s U H E I hf st hg;subst hP hw hK;obtain⟨f0,f1,f2,f3,f4,f5⟩:=hf it (by simp);have hx:x.cps[i]?=none:=Array.getElem?_eq_none hg;rcases aa4 with e|e
  .rw[e] at st;exact wpAny_pyNext_ascii_end (I.ok.hd hc) st hx λh' eb=>⟨rfl,I.turned (t':=s.toks) (λb o hb e=>eb b o hb e) f0 f1 f3 f4 f5⟩
  .rw[e] at st;exact wpAny_pyNext_wide_end (I.ok.hd hc) st hx λh' eb=>⟨rfl,I.turned (t':=s.toks) (λb o hb e=>eb b o hb e) f0 f1 f3 f4 f5⟩
 self:=λA i s Q E st h=>by
  rcases aa4 with e|e
  .rw[e] at st;exact wpAny_pyIter_striter_ascii st h
  .rw[e] at st;exact wpAny_pyIter_striter_wide st h
def RO(te:TE):TI:=λU H R=>te U H λv H1=>∃x,v=.str x/\R (JZ x) H1
theorem RP{X:Cx}{tg e:Expr}{te:TE}(he:PE X e te):PI X tg e (RO te):=by
 intro pins s U H R I h;refine dJ (he pins s U H _ I h) λv s1 hO=>?_;obtain⟨y,H1,I1,r1,x,ex,q⟩:=hO;subst ex;obtain⟨t,rfl⟩:=r1;cases ha:x.cps.all (·<128)
 .exact wpAny_pyIter_wide ha (AM (tk:=s1.toks) I1 _ (Gg _ x t "str_iterator" (.inr rfl)) ⟨_,aM _ rfl,rfl,rfl⟩ q)
 .exact wpAny_pyIter_ascii ha (AM (tk:=s1.toks) I1 _ (Gg _ x t "str_ascii_iterator" (.inl rfl)) ⟨_,aM _ rfl,rfl,rfl⟩ q)
def Gh(K:cV)(a:cS):It:=
 ⟨λi H=>∃(xs:List V)(x:V),dU K H a xs/\xs[i]?=some x,λi H v H'=>∃T x,v=.ref T/\H T=none/\H'=upd H T (.tup [.int (i:Nat),x])/\∀xs,dU K H a xs->xs[i]?=some x,λi H=>∃xs:List V,dU K H a xs/\xs.length<=i⟩
theorem MN{P:Program}{w:World}{K:cV}{elts:List Expr}{kk:Nat}{YO:Pos}(a e it:cS):rL P w K (.Tuple elts kk YO) (Gh K a) [e,it] e (λi h=>(∃old,IsEnum h e it ((i:Nat):Int) old)/\h.IsListIter it a i/\e≠it) where
 mem:=by simp
 obj:=λi h st b hb=>by
  obtain⟨⟨old,he⟩,⟨o,ho,hc,hd⟩,_⟩:=st;have e':b=e∨b=it:=by simpa using hb
  rcases e' with z|z
  .rw[z];exact⟨_,he,λv q=>nomatch q⟩
  .rw[z];exact⟨o,ho,λv q=>by rw[hd] at q;cases q⟩
 keep:=λi h h' st k=>let ⟨⟨old,he⟩,hi,XV⟩:=st;⟨⟨old,k e (by simp) _ he⟩,hi.at λo q=>k it (by simp) o q,XV⟩
 item:=by
  intro X hP hw hK hc i pins s U H E I hf st hg;subst hP hw hK;obtain⟨⟨old,he⟩,hit,XV⟩:=st;obtain⟨xs,x,hq,hx⟩:=hg;obtain⟨Xa,rv,p,hz⟩:=I.list hq;obtain⟨u,hu,ru⟩:=rv.get hx;have abQ:e<s.heap.objs.size:=aj he;have hil:it<s.heap.objs.size:=by obtain⟨_,q,_⟩:=hit;exact aj q
  refine wpAny_pyNext_enum_item he hit p.isList (x:=u) (by simpa using hu) XV λh' ho agC hT hsz hk=>?_;refine⟨_,rfl,wpAny_letOwnedTupleGo_enum (s:={s with heap:=h',toks:=s.toks+1}) ho λZ6 he' sb=>?_⟩;have XC:Z6.get? s.heap.objs.size=some {cls:=.type "tuple",data:=.seq #[.int i s.toks,u]}:=(sb.2 _ (bA abQ)).trans hT;have new:eR X.prog X.w (upd H s.heap.objs.size (.tup [.int (i:Nat),x])) Z6 s.heap.objs.size (.tup [.int (i:Nat),x]):=
   ⟨by show 2<=sizeLine;decide,[.int i s.toks,u],.cons ⟨_,rfl⟩ (.cons ru .nil),⟨_,XC,rfl,_,rfl⟩⟩
  have I1:cY X pins U (upd H s.heap.objs.size (.tup [.int (i:Nat),x])) {s with heap:=Z6,toks:=s.toks+1}:=
   I.turnedNew (ch:=[e,it]) (λb ob hb q=>(sb.2 b (λz=>hb (by simp[z]))).trans (hk b ob (λz=>hb (by simp[z])) (λz=>hb (by simp[z])) q)) hf (ah _) new
  refine⟨.ref s.heap.objs.size,_,I1,rfl,⟨_,x,rfl,I.hok.fresh (ah _),rfl,λys hy=>by rw[I.list_inj hy hq];exact hx⟩,⟨⟨u,?_⟩,agC.at λo q=>(sb.2 it (Ne.symm XV)).trans q,XV⟩,λb hb=>?_⟩
  .have e1:((i+1:Nat):Int)=(i:Int)+1:=by lia
   rw[e1];exact he'
  .have Y9:b<s.heap.objs.size:=by
    have e':b=e∨b=it:=(by simpa using hb);rcases e' with z|z
    .rw[z];exact abQ
    .rw[z];exact hil
   rw[ap (aF Y9)];exact(hf b hb).1
 done:=by
  intro X hP hw hK hc i pins s U H E I hf st hg;subst hP hw hK;obtain⟨⟨old,he⟩,hit,XV⟩:=st;obtain⟨xs,hq,hx⟩:=hg;obtain⟨Xa,rv,p,hz⟩:=I.list hq;obtain⟨f0,f1,f2,f3,f4,f5⟩:=hf it (by simp);have hl:=rv.length;exact wpAny_pyNext_enum_end (I.ok.hd hc) he hit p.isList (by simp;lia) λh' eb=>⟨rfl,I.turned (t':=s.toks) (λb o hb q=>eb b o hb q) f0 f1 f3 f4 f5⟩
 self:=λA i s Q E st h=>let ⟨⟨_,he⟩,_⟩:=st;wpAny_pyIter_enum he h
def PD(K:cV)(ta:TA):TI:=λU H R=>ta U H λvs H1=>∃a xs,vs=[.ref a]/\dU K H1 a xs/\R (Gh K a) H1
theorem J0{X:Cx}{e:Expr}{ta:TA}{p pos YO:Pos}{elts:List Expr}{kk:Nat}(hg:Gl X "enumerate")(hm:X.mg "enumerate"=none)(ha:PA X [e] ta)(hs:starEach [e] X.env=[(false,eval e X.env)]:=by rfl):PI X (.Tuple elts kk YO) (.Call (.Name "enumerate" p) [e] [] pos) (PD X.K ta):=by
 intro pins s U H R I h;refine Call_ (kL I hg hm boot_enumerate (bR (dJ (ha pos pins s U H _ I h) λus s1 ⟨vs,H1,I1,r1,q1⟩=>?_) hs rfl));obtain⟨a,xs,ex,hq,q⟩:=q1;subst ex;cases r1 with
 | cons r rr=>
  cases rr;cases r;obtain⟨Xa,rv,p',hz⟩:=I1.list hq;refine call_enumerate_list p'.isList λh' he hit hsz hk=>wpAny_pyIter_enum he ?_;have I2:cY X pins U H1 {s1 with heap:=h'}:=I1.kept (t':=s1.toks) hk;refine⟨s1.heap.objs.size+1,[s1.heap.objs.size+1,s1.heap.objs.size],_,_,H1,rfl,I2,MN a (s1.heap.objs.size+1) s1.heap.objs.size,⟨⟨.none,he⟩,hit,Nat.succ_ne_self _⟩,λb hb=>?_,q⟩;have e':b=s1.heap.objs.size+1∨b=s1.heap.objs.size:=by simpa using hb
  have hle:s1.heap.objs.size<=b:=by
   rcases e' with z|z
   .rw[z];exact bU _ _
   .rw[z];exact ah _
  exact I1.fpOk hle (I1.hok.fresh hle)
theorem MO:bootBuiltins "zip"=some (.type "zip"):=by rfl'
def Gi(K:cV)(a b:cS):It:=
 ⟨λi H=>∃(xs ys:List V)(x y:V),dU K H a xs/\dU K H b ys/\xs[i]?=some x/\ys[i]?=some y,
  λi H v H'=>∃T x y,v=.ref T/\H T=none/\H'=upd H T (.tup [x,y])/\(∀xs,dU K H a xs->xs[i]?=some x)/\∀ys,dU K H b ys->ys[i]?=some y,
  λi H=>∃xs ys:List V,dU K H a xs/\dU K H b ys/\(xs.length<=i∨ys.length<=i)⟩
theorem Om{P:Program}{w:World}{K:cV}{elts:List Expr}{kk:Nat}{YO:Pos}{a b z TI TO i1 i2:cS}(D:ZipApart z TI TO i1 i2 a b):rL P w K (.Tuple elts kk YO) (Gi K a b) [z,TI,TO,i1,i2] z (λi h=>IsZip h z TI TO .none/\IsPair h TI (.ref i1) (.ref i2)/\(∃x y,IsPair h TO x y)/\h.IsListIter i1 a i/\h.IsListIter i2 b i) where
 mem:=by simp
 obj:=λi h st c hc=>by
  obtain⟨hz,Zh,⟨x,y,Zv⟩,⟨o1,e1,_,d1⟩,⟨o2,e2,_,d2⟩⟩:=st;have e':c=z∨c=TI∨c=TO∨c=i1∨c=i2:=by simpa using hc
  rcases e' with q|q|q|q|q
  .rw[q];exact⟨_,hz,λv q=>nomatch q⟩
  .rw[q];exact⟨_,Zh,λv q=>nomatch q⟩
  .rw[q];exact⟨_,Zv,λv q=>nomatch q⟩
  .rw[q];exact⟨o1,e1,λv q=>by rw[d1] at q;cases q⟩
  .rw[q];exact⟨o2,e2,λv q=>by rw[d2] at q;cases q⟩
 keep:=λi h h' st k=>by
  obtain⟨hz,Zh,⟨x,y,Zv⟩,h1,h2⟩:=st;exact⟨k z (by simp) _ hz,k TI (by simp) _ Zh,⟨x,y,k TO (by simp) _ Zv⟩,h1.at λo q=>k i1 (by simp) o q,h2.at λo q=>k i2 (by simp) o q⟩
 item:=by
  intro X hP hw hK hc i pins s U H E I hf st hg;subst hP hw hK;obtain⟨hz,Zh,⟨x0,y0,Zv⟩,h1,h2⟩:=st;obtain⟨xs,ys,x,y,aa9,aba,hx,hy⟩:=hg;obtain⟨Xa,rv,p,_⟩:=I.list aa9;obtain⟨YA,acO,p2,_⟩:=I.list aba;obtain⟨u,hu,ru⟩:=rv.get hx;obtain⟨u2,hu2,ru2⟩:=acO.get hy;have afB:z<s.heap.objs.size:=aj hz;refine wpAny_pyNext_zip_item D hz Zh Zv h1 h2 p.isList p2.isList (x:=u) (y:=u2) (by simpa using hu) (by simpa using hu2) λh' z' TO' ZG adG hT hsz hk=>?_;refine⟨_,rfl,wpAny_letOwnedTupleGo_zip (s:={s with heap:=h'}) z' λZ6 z'' sb=>?_⟩;have XC:Z6.get? s.heap.objs.size=some {cls:=.type "tuple",data:=.seq #[u,u2]}:=(sb.2 _ (bA afB)).trans hT;have new:eR X.prog X.w (upd H s.heap.objs.size (.tup [x,y])) Z6 s.heap.objs.size (.tup [x,y]):=
   ⟨by show 2<=sizeLine;decide,[u,u2],.cons ru (.cons ru2 .nil),⟨_,XC,rfl,_,rfl⟩⟩
  have I1:cY X pins U (upd H s.heap.objs.size (.tup [x,y])) {s with heap:=Z6}:=
   I.turnedNew (t':=s.toks) (ch:=[z,TI,TO,i1,i2]) (λc o hb q=>(sb.2 c (λq'=>hb (by simp[q']))).trans (hk c o (λq'=>hb (by simp[q'])) (λq'=>hb (by simp[q'])) (λq'=>hb (by simp[q'])) (λq'=>hb (by simp[q'])) q)) hf (ah _) new
  refine⟨.ref s.heap.objs.size,_,I1,rfl,⟨_,x,y,rfl,I.hok.fresh (ah _),rfl,λl hl=>by rw[I.list_inj hl aa9];exact hx,λl hl=>by rw[I.list_inj hl aba];exact hy⟩,⟨z'',?_,⟨u,u2,?_⟩,?_,?_⟩,λc Za=>?_⟩
  .exact(sb.2 _ D.TIz).trans (hk _ _ D.TIz D.TITO D.TIi1 D.TIi2 Zh)
  .exact(sb.2 _ D.TOz).trans TO'
  .exact ZG.at λo q=>(sb.2 _ D.i1z).trans q
  .exact adG.at λo q=>(sb.2 _ D.i2z).trans q
  .have Xg:c<s.heap.objs.size:=by
    have e':c=z∨c=TI∨c=TO∨c=i1∨c=i2:=(by simpa using Za);rcases e' with q|q|q|q|q
    .rw[q];exact afB
    .rw[q];exact aj Zh
    .rw[q];exact aj Zv
    .rw[q];obtain⟨_,e1,_⟩:=h1;exact aj e1
    .rw[q];obtain⟨_,e2,_⟩:=h2;exact aj e2
   rw[ap (aF Xg)];exact(hf c Za).1
 done:=by
  intro X hP hw hK hc i pins s U H E I hf st hg;subst hP hw hK;obtain⟨hz,Zh,⟨x0,y0,Zv⟩,h1,h2⟩:=st;obtain⟨xs,ys,aa9,aba,aaF⟩:=hg;obtain⟨Xa,rv,p,_⟩:=I.list aa9;obtain⟨YA,acO,p2,_⟩:=I.list aba;have l1:=rv.length;have l2:=acO.length;have he:Xa.toArray[i]?=none∨YA.toArray[i]?=none:=by
   rcases aaF with q|q
   .exact .inl (by simp;lia)
   .exact .inr (by simp;lia)
  exact wpAny_pyNext_zip_end (I.ok.hd hc) D hz Zh Zv h1 h2 p.isList p2.isList he λh' hk=>⟨rfl,I.turnedL (t':=s.toks) (ch:=[z,TI,TO,i1,i2]) (λc o hb q=>
   hk c o (λq'=>hb (by simp[q'])) (λq'=>hb (by simp[q'])) (λq'=>hb (by simp[q'])) (λq'=>hb (by simp[q'])) q) hf⟩
 self:=λA i s Q E st h=>wpAny_pyIter_zip st.1 h
def RQ(K:cV)(ta:TA):TI:=λU H R=>ta U H λvs H1=>∃a b xs ys,vs=[.ref a,.ref b]/\dU K H1 a xs/\dU K H1 b ys/\R (Gi K a b) H1
theorem Gj{X:Cx}{e e2:Expr}{ta:TA}{p pos YO:Pos}{elts:List Expr}{kk:Nat}(hg:Gl X "zip")(hm:X.mg "zip"=none)(ha:PA X [e,e2] ta)(hs:starEach [e,e2] X.env=(false,eval e X.env)::starEach [e2] X.env:=by rfl)(Xj:(backTo pos (starEach [e2] X.env)).any (·.1)=false:=by rfl):PI X (.Tuple elts kk YO) (.Call (.Name "zip" p) [e,e2] [] pos) (RQ X.K ta):=by
 intro pins s U H R I h;refine Call_ (kL I hg hm MO (bR (dJ (ha pos pins s U H _ I h) λus s1 ⟨vs,H1,I1,r1,q1⟩=>?_) hs Xj));obtain⟨a,b,xs,ys,ex,aa9,aba,q⟩:=q1;subst ex;cases r1 with
 | cons r rr=>
  cases rr with
  | cons r' rr=>
   cases rr;cases r;cases r';obtain⟨Xa,rv,p1,_⟩:=I1.list aa9;obtain⟨YA,acO,p2,_⟩:=I1.list aba;have la:a<s1.heap.objs.size:=p1.lt;have lb:b<s1.heap.objs.size:=p2.lt;refine call_zip_2 p1.isList p2.isList λh' hz Zh Zv h1 h2 hsz hk=>wpAny_pyIter_zip hz ?_;have I2:cY X pins U H1 {s1 with heap:=h'}:=I1.kept (t':=s1.toks) hk;refine⟨s1.heap.objs.size+4,[s1.heap.objs.size+4,s1.heap.objs.size+2,s1.heap.objs.size+3,s1.heap.objs.size,s1.heap.objs.size+1],_,_,H1,rfl,I2,Om (PySem.W.ktu_apart s1.heap.objs.size a b la lb),⟨hz,Zh,⟨_,_,Zv⟩,h1,h2⟩,λc Za=>?_,q⟩;have e':c=s1.heap.objs.size+4∨c=s1.heap.objs.size+2∨c=s1.heap.objs.size+3∨c=s1.heap.objs.size∨c=s1.heap.objs.size+1:=by simpa using Za
   have hle:s1.heap.objs.size<=c:=by
    rcases e' with z|z|z|z|z
    .rw[z];exact bU _ _
    .rw[z];exact bU _ _
    .rw[z];exact bU _ _
    .rw[z];exact ah _
    .rw[z];exact bU _ _
   exact I1.fpOk hle (I1.hok.fresh hle)
end L2
section
namespace TL
open PySem PySem.Builtin PySem.Builtin.Str PySem.StrLaws
abbrev tl(x:Str):List Nat:=x.cps.toList
theorem RR(x:Str):x.length=(tl x).length:=by simp[tl,Str.length]
theorem Ec(x y:Str):tl (x++y)=tl x++tl y:=by
 show(x++y).cps.toList=_;rw[Str.cps_append,Array.toList_append]
noncomputable def uB(S:List Nat):List (List Nat)->List Nat
 | []=>[]
 | [p]=>p
 | p::q::r=>p++(S++uB S (q::r))
theorem Cm(y:Str):∀parts:List Str,tl (Str.join y parts)=uB (tl y) (parts.map tl)
 | []=>rfl
 | [_]=>rfl
 | x::z::r=>by
  show tl (x++y++Str.join y (z::r))=tl x++(tl y++uB (tl y) ((z::r).map tl));rw[Ec,Ec,Cm y (z::r),List.append_assoc]
theorem J1(y:Str)(parts:List Str):Txt.join y parts=Str.join y parts:=glued_eq_join y parts
noncomputable def jy(n:Nat):List Nat:=(Nat.toDigits 10 n).map Char.toNat
theorem Gk(n:Nat):tl (Str.ofString (toString ((n:Nat):Int)))=jy n:=PySem.W.KIN.signs_num n
theorem vd:∀d:Nat,d<10->(Nat.digitChar d).toNat=48+d:=by decide
theorem Qt(h:n<10):jy n=[48+n]:=by
 unfold jy;rw[Nat.toDigits_of_lt_base h];show [(Nat.digitChar n).toNat]=_;rw[vd n h]
theorem MP(h:10<=n):jy n=jy (n / 10)++[48+n%10]:=by
 have hm:n%10<10:=Nat.mod_lt n (by decide);have t:Nat.toDigits 10 (n / 10)++Nat.toDigits 10 (n%10)=Nat.toDigits 10 (10*(n / 10)+n%10):=Nat.toDigits_append_toDigits (by decide) (by lia) hm;rw[Nat.div_add_mod] at t;show(Nat.toDigits 10 n).map Char.toNat=_;rw[←t,aD,Nat.toDigits_of_lt_base hm];show(Nat.toDigits 10 (n / 10)).map Char.toNat++[(Nat.digitChar (n%10)).toNat]=_;rw[vd _ hm]<;>rfl
theorem IC(n:Nat):NumText.AllDigits (jy n):=by
 induction n using Nat.strongRecOn with
 | _ n ih=>
  by_cases h:n<10
  .rw[Qt h];intro c hc;rw[bV.mp hc]
   lia
  .rw[MP (by lia)];intro c hc;rcases bq.mp hc with hc|hc
   .exact ih (n / 10) (by lia) c hc
   .have hm:n%10<10:=Nat.mod_lt n (by decide);rw[bV.mp hc]
    lia
theorem Oo(hk:0<k)(h:n<10^k):(jy n).length<=k:=by
 have z:=PyProof.Rows.toString_length_le (v:=(n:Int)) (by lia) hk (by
  have e:((10:Int)^k)=((10^k:Nat):Int):=by
   first
    | exact(Int.natCast_pow 10 k).symm
    | simp
  rw[e]
  first|exact aY.mpr h|lia)
 rw[RR,Gk] at z;exact z
end TL
end
namespace L2
open PySem PySem.Spec PyProof.Rows
theorem pN:∀{ys:List Str} {us:List Value},dM (ys.map V.str) us->StrsAre us ys
 | [],_,.nil=>.nil
 | y::ys,_,.cons r t=>by
  obtain⟨k,rfl⟩:=r;exact .cons y k (pN t)
section
variable{X:Cx}
theorem Qu:RC X "str.join" (λx xs H Q=>∃a p,∃ys:List Str,x=.str a/\xs=[.ref p]/\(dU X.K H p (ys.map V.str)∨jk X.K H p (ys.map V.str))/\(ys.map (·.length)).sum+ys.length*a.length<=16777216/\Q (.str (Txt.join a ys)) H):=by
 intro pins s U H x xs v us Q I rx rs h;obtain⟨a,p,ys,rfl,rfl,hp,hz,h⟩:=h;obtain⟨t,rfl⟩:=rx;cases rs with
 | cons r1 rs=>
  cases rs;cases r1;rcases hp with hp|hp
  .obtain⟨Xa,r,⟨o,n,ho,hc,_,hd⟩,_⟩:=I.list hp;exact PyProof.Rows.join_list (items:=Xa.toArray) ⟨o,ho,hc,n,hd⟩ (by rw[List.toList_toArray];exact pN r) hz λt' k=>⟨.str _,H,I.tok k,⟨t',rfl⟩,h⟩
  .obtain⟨Xa,r,ht,_⟩:=I.tuple hp;exact PyProof.Rows.join_tuple (items:=Xa.toArray) ht (by rw[List.toList_toArray];exact pN r) hz λt' k=>⟨.str _,H,I.tok k,⟨t',rfl⟩,h⟩
end
section
variable{X:Cx}{o e:Expr}{to te:TE}
def PF(r:V->List V->Hp->VK->Prop)(to te:TE):TE:=λU H Q=>to U H λx H1=>(∃a,x=.str a)/\te U H1 λy H2=>r x [y] H2 Q
theorem Tq{id:String}{name:Str}{apos pos:Pos}{r:V->List V->Hp->VK->Prop}(slot:Slot "str" name id)(ty:typeOf (.builtin id)=pure (.type "method_descriptor"))(rule:RC X id r)(ho:PE X o to)(he:PE X e te)(hs:starEach [e] X.env=[(false,eval e X.env)]:=by rfl)(X0:attributeBase o name X.env (eval o X.env)=eval o X.env:=by rfl)(Yh:(apos.endLine==pos.line)=true:=by rfl):PE X (.Call (.Attribute o name apos) [e] [] pos) (PF r to te):=by
 intro pins s U H Q I h;refine PySem.Call_method1 X0 hs Yh (dJ (ho pins s U H _ I h) λv s1 ⟨x,H1,I1,r1,q1⟩=>?_);obtain⟨⟨a,rfl⟩,q1⟩:=q1;obtain⟨t,rfl⟩:=_root_.id r1;refine⟨"str",_,F.plainAttrs_str,slot,ty,typeIs_str _ _ _,(λ_ e=>nomatch e),Calls.callWith_builtin rfl (Calls.evalArgs_plain (cA ?_))⟩;exact dJ (he pins s1 U H1 _ I1 q1) λu s2 ⟨y,H2,I2,r2,q2⟩=>Calls.spliced_nil (rule pins s2 U H2 _ [y] _ [u] Q I2 r1 (.cons r2 .nil) q2)
theorem J2(ho:PE X o to)(he:PE X e te)(hs:starEach [e] X.env=[(false,eval e X.env)]:=by rfl)(X0:attributeBase o "join" X.env (eval o X.env)=eval o X.env:=by rfl)(Yh:(apos.endLine==pos.line)=true:=by rfl):PE X (.Call (.Attribute o "join" apos) [e] [] pos) (PF (λx xs H Q=>∃a p,∃ys:List Str,x=.str a/\xs=[.ref p]/\(dU X.K H p (ys.map V.str)∨jk X.K H p (ys.map V.str))/\(ys.map (·.length)).sum+ys.length*a.length<=16777216/\Q (.str (Txt.join a ys)) H) to te):=
 Tq F.slot_str_join F.type_str_join Qu ho he hs X0 Yh
end
noncomputable def dC(s:Stmt)(j:Nat):Stmt:=match s with
 | .ClassDef _ _ _ body _ _ _ _ _ _ _=>body.getD j (.Pass ⟨0,0,0,0⟩)
 | _=>.Pass ⟨0,0,0,0⟩
noncomputable def gA(s:Stmt):Arguments:=match s with
 | .FunctionDef _ a _ _ _ _ _ _ _ _=>a
 | _=>{posonlyargs:=[],args:=[],vararg:=none,kwonlyargs:=[],kw_defaults:=[],kwarg:=none,defaults:=[]}
noncomputable def fA(s:Stmt):List Stmt:=match s with
 | .FunctionDef _ _ b _ _ _ _ _ _ _=>b
 | _=>[]
noncomputable def dr(s:Stmt):Scope:=match s with
 | .FunctionDef _ _ _ _ _ _ sc _ _ _=>sc
 | _=>{kind:=.function,names:=[],isGenerator:=false,isCoroutine:=false}
abbrev lP:pJ:=λ_ _ _ _ _ _=>False
abbrev E0:XK:=λ_ _ _=>False
theorem ci:g0 lP X E0:=λ_ _ _ _ _ _ _ h=>h.elim
structure md(K:cV)(x qual:Str)(st:Stmt)(f:cS)(fd:cT):Prop where
 ex:∃(oc:Value)(od:Option cS)(kV doc pm:Value)(an:Option cS)(W8 ct:Value)(XU:Array (Option Value)),
  fd=PySem.W.fnOf x qual (gA st) (fA st) (dr st) .none kV doc pm an W8 ct/\K.lookup f=some ⟨oc,od,.func fd,XU⟩/\PySem.W.codeIn K W8 qual=true
 kp:PySem.W.keepIn K (.ref f)=true
section
variable{P:Program}{w:World}{K:cV}{mg:Str->Option Value}{base:Heap}
theorem md.ok{x qual:Str}{st:Stmt}{f:cS}{fd:cT}{N ps:List Str}{k:Nat}{sp:Sp}(F:md K x qual st f fd)(S:jm N ps (dr st))(len:∀vs H Q E,sp vs H Q E->vs.length=ps.length)(Yg:∀(W8:Value)(A:Around)(outer:List Env)(s:cU)(H:Hp)(vs:List V)(Q:VK)(E:XK),eJ k (A.deeper (envOfC qual (dr st) s.heap.objs.size f W8))->sp vs H Q E->∃t,kK (j7 lP P w K mg base N qual (dr st) f W8 A outer s H E).nox (fA st) t/\t {nx:=λ_ H'=>Q .non H',rt:=Q} (start N vs) H):eS P w K mg base lP (k+1) f fd ps sp:=by
 obtain⟨oc,od,kV,doc,pm,an,W8,ct,XU,rfl,lk,YU⟩:=F.ex;refine Pr lk YU S len λA outer s H vs Q E hr Xn=>?_;obtain⟨t,h,q⟩:=Yg W8 A outer s H vs Q E hr Xn;exact⟨t,h.nox,q⟩
theorem md.binds{x qual:Str}{st:Stmt}{f:cS}{fd:cT}{ps:List Str}(F:md K x qual st f fd)(h:∀(kV doc pm:Value)(an:Option cS)(W8 ct:Value)(us:List Value),us.length=ps.length->bindArgs (PySem.W.fnOf x qual (gA st) (fA st) (dr st) .none kV doc pm an W8 ct) ⟨us,[]⟩=pure (ps.zip us)):gW K fd ps []:=by
 obtain⟨oc,od,kV,doc,pm,an,W8,ct,XU,rfl,lk,YU⟩:=F.ex;exact .all (h kV doc pm an W8 ct)
theorem nN{x qual:Str}{st:Stmt}{f:cS}{oc:Value}{od an:Option cS}{XU:Array (Option Value)}{kV doc pm W8 ct:Value}(l:K.lookup f=some ⟨oc,od,.func (PySem.W.fnOf x qual (gA st) (fA st) (dr st) .none kV doc pm an W8 ct),XU⟩)(c:PySem.W.codeIn K W8 qual=true)(k:PySem.W.keepIn K (.ref f)=true):md K x qual st f (PySem.W.fnOf x qual (gA st) (fA st) (dr st) .none kV doc pm an W8 ct):=⟨⟨oc,od,kV,doc,pm,an,W8,ct,XU,rfl,l,c⟩,k⟩
end
theorem PH(hr:eJ k A):A.units+1<cLine:=aN (Nat.add_le_add_left (by decide:1<=64) _) hr.units
section
variable{X:Cx}
theorem pv(i:Nat)(hN:X.N[i]?=some x:=by rfl)(hv:JJ X.env.scope x:=by first|exact Or.inl rfl|exact Or.inr (Or.inl rfl)|exact Or.inr (Or.inr rfl))(hd:(x==("__debug__":Str))=false:=by decide)(YU:(x==("__classdict__":Str))=false:=by decide):PE X (.Name x pos) (gD i):=Rl hN hv hd YU
end
theorem eQ{A B:Prop}(h:B):if false=true then A else B:=by
 rw[aa aq];exact h
theorem eU{A B:Prop}(h:A):if true=true then A else B:=by
 rw[ae rfl];exact h
theorem cX{c A B:Prop}[Decidable c](h1:c->A)(h2:¬c->B):if c then A else B:=by
 by_cases h:c
 .rw[ae h];exact h1 h
 .rw[aa h];exact h2 h
def bn(H H':Hp):Prop:=∀b o,H b=some o->H' b=some o
theorem bn.refl(H:Hp):bn H H:=λ_ _ h=>h
theorem bn.trans(a:bn H H1)(b:bn H1 H2):bn H H2:=λc o h=>b c o (a c o h)
theorem bn.free(e:bn H H')(h:H' l=Option.none):H l=Option.none:=by
 cases q:H l with
 | none=>rfl
 | some o=>
  rw[e l o q] at h;cases h
theorem bn.seq{K:cV}{H H':Hp}{a:cS}{xs:List V}(e:bn H H')(h:dU K H a xs):dU K H' a xs:=by
 rcases h with (h|⟨o,h⟩)|h
 .exact .inl (.inl (e _ _ h))
 .exact .inl (.inr ⟨o,e _ _ h⟩)
 .exact .inr h
theorem KS{xs:List V}{z:Int}{j:Nat}{v:V}(e:z=(j:Int))(h:xs[j]?=some v):DZ xs z=some v:=by
 rw[e];exact JR h
theorem Tr{α:Type}{l:List α}(hN:l.Nodup){i j:Nat}{x:α}(a:l[i]?=some x)(b:l[j]?=some x):i=j:=by
 obtain⟨h1,e1⟩:=ax.mp a;obtain⟨h2,e2⟩:=ax.mp b;exact(List.getElem_inj hN).mp (e1.trans e2.symm)
end L2
section
namespace L2
open PySem PySem.Spec PyProof.Rows
section
open PySem.W (WData Codec OpenSpec Well WellAll ReadsW ReadsAllW)
mutual
inductive Dw (K:cV) (H:Hp):V->WData->Prop
 | non:Dw K H .non .none
 | bl (b:Bool):Dw K H (.bl b) (.bool b)
 | int (i:Int):Dw K H (.int i) (.int i)
 | str (x:Str):Dw K H (.str x) (.str x)
 | byt (b:Array UInt8):Dw K H (.byt b) (.bytes b.toList)
 | lst {a:cS} {xs:List V} {ds:List WData}:dU K H a xs->lg K H xs ds->Dw K H (.ref a) (.list ds)
 | tup {a:cS} {xs:List V} {ds:List WData}:jk K H a xs->lg K H xs ds->Dw K H (.ref a) (.tuple ds)
inductive lg (K:cV) (H:Hp):List V->List WData->Prop
 | nil:lg K H [] []
 | cons {v:V} {vs:List V} {d:WData} {ds:List WData}:Dw K H v d->lg K H vs ds->lg K H (v::vs) (d::ds)
end
theorem J3{K:cV}{H:Hp}:∀ns:List Int,lg K H (ns.map V.int) (ns.map WData.int)
 | []=>.nil
 | n::r=>.cons (.int n) (J3 r)
theorem J4{K:cV}{H:Hp}:∀(ns:List Int)(xs:List V),lg K H xs (ns.map WData.int)->xs=ns.map V.int
 | [],xs,h=>by
  cases h;rfl
 | n::r,xs,h=>by
  cases h with
  | cons h1 h2=>
   cases h1;rw[J4 r _ h2]<;>rfl
section
variable{P:Program}{w:World}{K:cV}{H:Hp}{h:Heap}{R:PySem.W.WRecords}{cl:Str->Option cS}
theorem RS(hok:gF P w H h)(KX:K.In h)(q:dU K H a xs):∃(Xa:List Value)(o:Obj)(n:Nat),dM xs Xa/\h.get? a=some o/\o.cls=.type "list"/\o.data=.seq Xa.toArray n:=by
 rcases q with q|⟨o,Xa,n,e,hc,_,hd,_,hv⟩
 .obtain⟨_,Xa,n,hv,e⟩:=(show eR P w H h a (.lst xs) from q.ok hok);exact⟨Xa,_,n,hv,e,rfl,rfl⟩
 .exact⟨Xa.toList,o,n,hv,KX _ _ e,hc,by simp[hd]⟩
theorem RT(hok:gF P w H h)(KX:K.In h)(q:jk K H a xs):∃(Xa:List Value)(o:Obj)(n:Nat),dM xs Xa/\h.get? a=some o/\o.cls=.type "tuple"/\o.data=.seq Xa.toArray n:=by
 rcases q with q|⟨o,Xa,n,e,hc,hd,_,hv⟩
 .obtain⟨_,Xa,hv,o,e,hc,n,hd⟩:=(show eR P w H h a (.tup xs) from q.ok hok);exact⟨Xa,o,n,hv,e,hc,hd⟩
 .exact⟨Xa.toList,o,n,hv,KX _ _ e,hc,by simp[hd]⟩
mutual
theorem Dw.reads(hok:gF P w H h)(KX:K.In h):∀(d:WData)(v:V)(u:Value),Dw K H v d->dR v u->∃as,ReadsW R cl h u d as
 | .none,_,_,x,r=>by
  cases x;cases r;exact⟨_,ReadsW.none⟩
 | .bool b,_,_,x,r=>by
  cases x;cases r;exact⟨_,ReadsW.bool b⟩
 | .int i,_,_,x,r=>by
  cases x;obtain⟨t,rfl⟩:=r;exact⟨_,ReadsW.int i t⟩
 | .str s,_,_,x,r=>by
  cases x;obtain⟨t,rfl⟩:=r;exact⟨_,ReadsW.str s t⟩
 | .bytes b,_,_,x,r=>by
  cases x;obtain⟨t,rfl⟩:=r;exact⟨_,ReadsW.bytes _ t⟩
 | .list ds,_,_,x,r=>by
  cases x with
  | lst hs ha=>
   cases r;obtain⟨Xa,o,n,rv,ho,hc,hd⟩:=RS hok KX hs;obtain⟨as,hr⟩:=Dw.readsAll hok KX ds _ Xa ha rv;exact⟨_,ReadsW.list ho hc hd hr⟩
 | .tuple ds,_,_,x,r=>by
  cases x with
  | tup hs ha=>
   cases r;obtain⟨Xa,o,n,rv,ho,hc,hd⟩:=RT hok KX hs;obtain⟨as,hr⟩:=Dw.readsAll hok KX ds _ Xa ha rv;exact⟨_,ReadsW.tuple ho hc hd hr⟩
 | .float _,_,_,x,_=>by cases x
 | .dict _,_,_,x,_=>by cases x
 | .bytearray _,_,_,x,_=>by cases x
 | .set _,_,_,x,_=>by cases x
 | .frozenset _,_,_,x,_=>by cases x
 | .obj _ _,_,_,x,_=>by cases x
theorem Dw.readsAll(hok:gF P w H h)(KX:K.In h):∀(ds:List WData)(vs:List V)(us:List Value),lg K H vs ds->dM vs us->∃as,ReadsAllW R cl h us ds as
 | [],_,_,x,r=>by
  cases x;cases r;exact⟨_,ReadsAllW.nil⟩
 | d::ds,_,_,x,r=>by
  cases x with
  | cons h1 h2=>
   cases r with
   | cons r1 r2=>
    obtain⟨as,q1⟩:=Dw.reads hok KX d _ _ h1 r1;obtain⟨bs,q2⟩:=Dw.readsAll hok KX ds _ _ h2 r2;exact⟨_,ReadsAllW.cons q1 q2⟩
end
end
mutual
def qR:WData->Bool
 | .none=>true
 | .bool _=>true
 | .int _=>true
 | .str _=>true
 | .bytes _=>true
 | .list xs=>ot xs
 | .tuple xs=>ot xs
 | _=>false
def ot:List WData->Bool
 | []=>true
 | x::r=>qR x&&ot r
end
theorem Gm{α:Type}{f:α->WData}(h:∀a,qR (f a)=true):∀l:List α,ot (l.map f)=true
 | []=>rfl
 | x::r=>by
  show(qR (f x)&&ot (r.map f))=true;rw[h x,Gm h r]<;>rfl
theorem nO:∀(c:Codec)(a:c.denote),qR (c.enc a)=true
 | .unit,_=>rfl
 | .bool,_=>rfl
 | .int _ _,_=>rfl
 | .nat _ _,_=>rfl
 | .u8,_=>rfl
 | .bytes _ _,_=>rfl
 | .text _ _ _ _,_=>rfl
 | .list _ _ c,a=>Gm (λx=>nO c x) a
 | .pair c d,a=>by
  show(qR (c.enc a.1)&&(qR (d.enc a.2)&&true))=true;rw[nO c a.1,nO d a.2]<;>rfl
 | .triple c d e,a=>by
  show(qR (c.enc a.1)&&(qR (d.enc a.2.1)&&(qR (e.enc a.2.2)&&true)))=true;rw[nO c a.1,nO d a.2.1,nO e a.2.2]<;>rfl
 | .option c,none=>rfl
 | .option c,some x=>nO c x
theorem Ed:∀(cs:List Codec)(a:Codec.denoteAll cs),ot (Codec.encAll cs a)=true
 | [],_=>rfl
 | c::cs,a=>by
  show(qR (c.enc a.1)&&ot (Codec.encAll cs a.2))=true;rw[nO c a.1,Ed cs a.2]<;>rfl
theorem uC:∀{xs:List WData} {d:WData},d∈xs->d.weight<=WData.weightAll xs
 | [],d,h=>absurd h (by simp)
 | x::r,d,h=>by
  show d.weight<=x.weight+1+WData.weightAll r;rcases aw.mp h with e|m
  .rw[e]
   lia
  .have z:=uC m
   lia
noncomputable def nP:Value->V
 | .none=>.non
 | .bool b=>.bl b
 | .int i _=>.int i
 | .str x _=>.str x
 | .bytes b _=>.byt b
 | .ref a=>.ref a
 | _=>.non
def tm(A:List cS):Value->Prop
 | .none=>True
 | .bool _=>True
 | .int _ _=>True
 | .str _ _=>True
 | .bytes _ _=>True
 | .ref a=>a∈A
 | _=>False
theorem tm.mono(h:∀a∈A,a∈B):∀{u:Value},tm A u->tm B u:=λ{u} x=>by
 cases u with
 | ref a=>exact h a x
 | none=>trivial
 | bool b=>trivial
 | int i t=>trivial
 | str s t=>trivial
 | bytes b t=>trivial
 | _=>exact False.elim x
theorem Op(x:tm A u):dR (nP u) u:=by
 cases u with
 | ref a=>rfl
 | none=>rfl
 | bool b=>rfl
 | int i t=>exact⟨t,rfl⟩
 | str s t=>exact⟨t,rfl⟩
 | bytes b t=>exact⟨t,rfl⟩
 | _=>exact False.elim x
theorem mM:∀{vs:List Value},(∀u∈vs,tm A u)->dM (vs.map nP) vs
 | [],_=>.nil
 | u::r,h=>.cons (Op (h u (aU ..))) (mM λx hx=>h x (aP _ hx))
def li(h:Heap)(A:List cS)(a:cS):Prop:=∃vs:List Value,vs.length<=sizeLine/\(∀u∈vs,tm A u)/\
 (h.get? a=some {cls:=.type "list",data:=.seq vs.toArray}∨h.get? a=some {cls:=.type "tuple",data:=.seq vs.toArray})
theorem li.mono(k:∀a∈A,a∈B)(x:li h A a):li h B a:=by
 obtain⟨vs,h1,h2,h3⟩:=x;exact⟨vs,h1,λu hu=>(h2 u hu).mono k,h3⟩
theorem m8:∀{vs:List Value} {ds:List WData},WellAll P h vs ds->vs.length=ds.length
 | _,_,.nil=>rfl
 | _,_,.cons _ b=>by
  show _+1=_+1;rw[m8 b]
theorem Ee(x:Well P h v (.list ds)):∃(a:cS)(vs:List Value),v=.ref a/\h.get? a=some {cls:=.type "list",data:=.seq vs.toArray}/\WellAll P h vs ds:=by
 cases x with
 | list ho XD=>exact⟨_,_,rfl,ho,XD⟩
theorem AO(x:Well P h v (.tuple ds)):∃(a:cS)(vs:List Value),v=.ref a/\h.get? a=some {cls:=.type "tuple",data:=.seq vs.toArray}/\WellAll P h vs ds:=by
 cases x with
 | tuple ho XD=>exact⟨_,_,rfl,ho,XD⟩
theorem Ef(x:WellAll P h us (d::ds)):∃(v:Value)(vs:List Value),us=v::vs/\Well P h v d/\WellAll P h vs ds:=by
 cases x with
 | cons a b=>exact⟨_,_,rfl,a,b⟩
theorem J5(h:n<=1048576):n<=sizeLine:=aA h (by decide)
section
variable{P:Params}{h:Heap}
mutual
theorem Oq:∀(d:WData)(v:Value),Well P h v d->qR d=true->d.weight<=1048576->∃A:List cS,tm A v/\∀a∈A,li h A a
 | .none,_,x,_,_=>by
  cases x;exact⟨[],trivial,λa m=>absurd m (by simp)⟩
 | .bool b,_,x,_,_=>by
  cases x;exact⟨[],trivial,λa m=>absurd m (by simp)⟩
 | .int i,_,x,_,_=>by
  cases x;exact⟨[],trivial,λa m=>absurd m (by simp)⟩
 | .str s,_,x,_,_=>by
  cases x;exact⟨[],trivial,λa m=>absurd m (by simp)⟩
 | .bytes b,_,x,_,_=>by
  cases x;exact⟨[],trivial,λa m=>absurd m (by simp)⟩
 | .list ds,_,x,p,z=>by
  obtain⟨a,vs,rfl,ho,XD⟩:=Ee x;have z2:WData.weightAll ds<=1048576:=z;obtain⟨A,h1,h2⟩:=uD ds _ XD p λd hd=>aA (uC hd) z2;have k:∀b∈A,b∈a::A:=λb hb=>aP _ hb;refine⟨a::A,aU ..,λb hb=>?_⟩;rcases aw.mp hb with e|m
  .rw[e];exact⟨vs,J5 (by rw[m8 XD];exact aA (PySem.W.length_le_weightAllW ds) z2),λu hu=>(h1 u hu).mono k,.inl ho⟩
  .exact(h2 b m).mono k
 | .tuple ds,_,x,p,z=>by
  obtain⟨a,vs,rfl,ho,XD⟩:=AO x;have z2:WData.weightAll ds<=1048576:=z;obtain⟨A,h1,h2⟩:=uD ds _ XD p λd hd=>aA (uC hd) z2;have k:∀b∈A,b∈a::A:=λb hb=>aP _ hb;refine⟨a::A,aU ..,λb hb=>?_⟩;rcases aw.mp hb with e|m
  .rw[e];exact⟨vs,J5 (by rw[m8 XD];exact aA (PySem.W.length_le_weightAllW ds) z2),λu hu=>(h1 u hu).mono k,.inr ho⟩
  .exact(h2 b m).mono k
 | .float _,_,_,p,_=>Bool.noConfusion (show false=true from p)
 | .dict _,_,_,p,_=>Bool.noConfusion (show false=true from p)
 | .bytearray _,_,_,p,_=>Bool.noConfusion (show false=true from p)
 | .set _,_,_,p,_=>Bool.noConfusion (show false=true from p)
 | .frozenset _,_,_,p,_=>Bool.noConfusion (show false=true from p)
 | .obj _ _,_,_,p,_=>Bool.noConfusion (show false=true from p)
theorem uD:∀(ds:List WData)(vs:List Value),WellAll P h vs ds->ot ds=true->(∀d∈ds,d.weight<=1048576)->∃A:List cS,(∀u∈vs,tm A u)/\∀a∈A,li h A a
 | [],_,x,_,_=>by
  cases x;exact⟨[],λu m=>absurd m (by simp),λa m=>absurd m (by simp)⟩
 | d::ds,_,x,p,z=>by
  obtain⟨v,vs,rfl,x1,x2⟩:=Ef x;have q:qR d=true/\ot ds=true:=Bool.and_eq_true_iff.mp p;obtain⟨A,a1,a2⟩:=Oq d v x1 q.1 (z d (aU ..));obtain⟨B,b1,b2⟩:=uD ds vs x2 q.2 λe he=>z e (aP _ he);have kA:∀b∈A,b∈A++B:=λb hb=>bq.mpr (.inl hb);have kB:∀b∈B,b∈A++B:=λb hb=>bq.mpr (.inr hb);refine⟨A++B,λu hu=>?_,λb hb=>?_⟩
  .rcases aw.mp hu with e|m
   .rw[e];exact a1.mono kA
   .exact(b1 u m).mono kB
  .rcases bq.mp hb with m|m
   .exact(a2 b m).mono kA
   .exact(b2 b m).mono kB
end
end
def KU(o:Obj):Option HO:=match o.data with
 | .seq vs _=>if(o.cls==Value.type "list")=true then some (.frz o (.lst (vs.toList.map nP))) else some (.frz o (.tup (vs.toList.map nP)))
 | _=>none
def jz(K:cV)(h:Heap)(A:List cS):Hp:=λb=>if b∈A then(if(K.lookup b).isNone=true then(h.get? b).bind KU else none) else none
def AQ(H:Hp):Prop:=∀b,H b=none∨∃o u,H b=some (.frz o u)
theorem Gn(vs:List Value):KU {cls:=.type "list",data:=.seq vs.toArray}=some (.frz {cls:=.type "list",data:=.seq vs.toArray} (.lst (vs.map nP))):=by
 show(if(Value.type "list"== Value.type "list")=true then some (HO.frz {cls:=.type "list",data:=.seq vs.toArray} (.lst (vs.toArray.toList.map nP))) else some (HO.frz {cls:=.type "list",data:=.seq vs.toArray} (.tup (vs.toArray.toList.map nP))))=_;rw[ae (beq_self_eq_true _)]
theorem Go(vs:List Value):KU {cls:=.type "tuple",data:=.seq vs.toArray}=some (.frz {cls:=.type "tuple",data:=.seq vs.toArray} (.tup (vs.map nP))):=by
 show(if(Value.type "tuple"== Value.type "list")=true then some (HO.frz {cls:=.type "tuple",data:=.seq vs.toArray} (.lst (vs.toArray.toList.map nP))) else some (HO.frz {cls:=.type "tuple",data:=.seq vs.toArray} (.tup (vs.toArray.toList.map nP))))=_;rw[aa (by decide)]
section
variable{P:Program}{w:World}{K:cV}{h:Heap}{A:List cS}
theorem yc(hb:b∈A)(hk:K.lookup b=none)(e:h.get? b=some o):jz K h A b=KU o:=by
 unfold jz;rw[ae hb,hk,ae (show(none:Option Obj).isNone=true from rfl),e]<;>rfl
theorem Qv(q:jz K h A b=some u):b∈A/\K.lookup b=none:=by
 unfold jz at q;by_cases hb:b∈A
 .rw[ae hb] at q;cases hk:K.lookup b with
  | none=>exact⟨hb,rfl⟩
  | some o=>
   rw[hk,aa (by simp)] at q;cases q
 .rw[aa hb] at q;cases q
theorem yd(ar:∀a∈A,li h A a)(q:jz K h A b=some u):K.lookup b=none/\∃vs:List Value,vs.length<=sizeLine/\(∀u∈vs,tm A u)/\((h.get? b=some {cls:=.type "list",data:=.seq vs.toArray}/\u=.frz {cls:=.type "list",data:=.seq vs.toArray} (.lst (vs.map nP)))∨(h.get? b=some {cls:=.type "tuple",data:=.seq vs.toArray}/\u=.frz {cls:=.type "tuple",data:=.seq vs.toArray} (.tup (vs.map nP)))):=by
 obtain⟨hb,hk⟩:=Qv q;obtain⟨vs,h1,h2,h3⟩:=ar b hb;refine⟨hk,vs,h1,h2,?_⟩;rcases h3 with e|e
 .rw[yc hb hk e,Gn] at q;exact .inl ⟨e,(aH q).symm⟩
 .rw[yc hb hk e,Go] at q;exact .inr ⟨e,(aH q).symm⟩
theorem MQ(ar:∀a∈A,li h A a):AQ (jz K h A):=λb=>by
 cases q:jz K h A b with
 | none=>exact .inl rfl
 | some u=>
  obtain⟨_,vs,_,_,⟨_,e⟩|⟨_,e⟩⟩:=yd ar q
  .exact .inr ⟨_,_,by rw[e]⟩
  .exact .inr ⟨_,_,by rw[e]⟩
theorem Qw(ar:∀a∈A,li h A a):gF P w (jz K h A) h:=λb u q=>by
 obtain⟨_,vs,h1,h2,⟨e,rfl⟩|⟨e,rfl⟩⟩:=yd ar q
 .exact⟨e,by rw[af];exact h1,vs,_,mM h2,e⟩
 .exact⟨e,by rw[af];exact h1,vs,mM h2,_,e,rfl,_,rfl⟩
theorem ye{c c':Value}{vs us:List Value}(e:(some {cls:=c,data:=.seq vs.toArray}:Option Obj)=some {cls:=c',data:=.seq us.toArray}):c=c'/\vs=us:=by
 have e1:=aH e;have e2:c=c':=au Obj.cls e1;have e3:Data.seq vs.toArray=Data.seq us.toArray:=au Obj.data e1;injection e3 with e4;refine⟨e2,?_⟩;have e5:=au Array.toList e4;simpa using e5
theorem UB(KX:K.In h)(ar:∀a∈A,li h A a){a:cS}{vs:List Value}(ha:a∈A)(e:h.get? a=some {cls:=.type "list",data:=.seq vs.toArray}):(∀u∈vs,tm A u)/\dU K (jz K h A) a (vs.map nP):=by
 obtain⟨us,h1,h2,h3⟩:=ar a ha;have hu:us=vs:=by
  rcases h3 with q|q
  .rw[e] at q;exact(ye q).2.symm
  .rw[e] at q;exact absurd (Value.type.inj (ye q).1) (by decide)
 subst hu;refine⟨h2,?_⟩;cases hk:K.lookup a with
 | none=>exact .inl (.inr ⟨_,by rw[yc ha hk e,Gn]⟩)
 | some o=>
  have e2:=KX a o hk;rw[e] at e2;obtain rfl:=aH e2;exact .inr ⟨_,us.toArray,_,hk,rfl,rfl,rfl,by rw[aG];exact h1,by simpa using mM h2⟩
theorem UC(KX:K.In h)(ar:∀a∈A,li h A a){a:cS}{vs:List Value}(ha:a∈A)(e:h.get? a=some {cls:=.type "tuple",data:=.seq vs.toArray}):(∀u∈vs,tm A u)/\jk K (jz K h A) a (vs.map nP):=by
 obtain⟨us,h1,h2,h3⟩:=ar a ha;have hu:us=vs:=by
  rcases h3 with q|q
  .rw[e] at q;exact absurd (Value.type.inj (ye q).1) (by decide)
  .rw[e] at q;exact(ye q).2.symm
 subst hu;refine⟨h2,?_⟩;cases hk:K.lookup a with
 | none=>exact .inl (.inr ⟨_,by rw[yc ha hk e,Go]⟩)
 | some o=>
  have e2:=KX a o hk;rw[e] at e2;obtain rfl:=aH e2;exact .inr ⟨_,us.toArray,_,hk,rfl,rfl,by rw[aG];exact h1,by simpa using mM h2⟩
mutual
theorem RU{Pm:Params}(KX:K.In h)(ar:∀a∈A,li h A a):∀(d:WData)(v:Value),Well Pm h v d->qR d=true->tm A v->Dw K (jz K h A) (nP v) d
 | .none,_,x,_,_=>by
  cases x;exact .non
 | .bool b,_,x,_,_=>by
  cases x;exact .bl b
 | .int i,_,x,_,_=>by
  cases x;exact .int i
 | .str s,_,x,_,_=>by
  cases x;exact .str s
 | .bytes b,_,x,_,_=>by
  cases x;have z:=Dw.byt (K:=K) (H:=jz K h A) b.toArray;exact z
 | .list ds,_,x,p,hu=>by
  obtain⟨a,vs,rfl,ho,XD⟩:=Ee x;obtain⟨h2,hs⟩:=UB KX ar hu ho;exact .lst hs (AR KX ar ds _ XD p h2)
 | .tuple ds,_,x,p,hu=>by
  obtain⟨a,vs,rfl,ho,XD⟩:=AO x;obtain⟨h2,hs⟩:=UC KX ar hu ho;exact .tup hs (AR KX ar ds _ XD p h2)
 | .float _,_,_,p,_=>Bool.noConfusion (show false=true from p)
 | .dict _,_,_,p,_=>Bool.noConfusion (show false=true from p)
 | .bytearray _,_,_,p,_=>Bool.noConfusion (show false=true from p)
 | .set _,_,_,p,_=>Bool.noConfusion (show false=true from p)
 | .frozenset _,_,_,p,_=>Bool.noConfusion (show false=true from p)
 | .obj _ _,_,_,p,_=>Bool.noConfusion (show false=true from p)
theorem AR(KX:K.In h)(ar:∀a∈A,li h A a):∀(ds:List WData)(vs:List Value),WellAll Pm h vs ds->ot ds=true->(∀u∈vs,tm A u)->lg K (jz K h A) (vs.map nP) ds
 | [],_,x,_,_=>by
  cases x;exact .nil
 | d::ds,_,x,p,hu=>by
  obtain⟨v,vs,rfl,x1,x2⟩:=Ef x;have q:qR d=true/\ot ds=true:=Bool.and_eq_true_iff.mp p;exact .cons (RU KX ar d v x1 q.1 (hu _ (aU ..))) (AR KX ar ds vs x2 q.2 λu m=>hu u (aP _ m))
end
end
theorem MR{P:Program}{w:World}{K:cV}{mg mb:Str->Option Value}{CX:pJ}{k:Nat}{fa:cS}{fd:cT}{ps:List Str}{sp:Sp}{s₁:cU}{vals:List Value}{ds:List WData}{R:PySem.W.WRecords}{cl:Str->Option cS}{d0:WData}(KX:K.In s₁.heap)(Z8:s₁.heap.Ns mainGlobals mg)(hb:s₁.heap.Ns builtinsNs mb)(adH:∀x:Str,x≠"__name__"->mb x=bootBuiltins x)(agD:s₁.heap.NoLimit)(hg:s₁.gens=#[])(YB:WellAll w.params s₁.heap vals ds)(Xj:ot ds=true)(hwt:∀d∈ds,d.weight<=1048576)(hr:eJ k callerA)(F:∀base:Heap,K.In base->base.Ns mainGlobals mg->eS P w K mg base CX k fa fd ps sp)(afh:∀(s:cU)(us:List Value),us.length=ps.length->BindsTo s fd ⟨us,[]⟩ (ps.zip us))(hlen:ds.length=ps.length)(Xn:∀(H:Hp)(xs:List V),AQ H->lg K H xs ds->sp xs H (λv H'=>Dw K H' v d0) λ_ _ _=>False)(abR:∀H e s',CX [] H s₁ (λ_ _ _=>False) e s'->False):codeAny (model P w) callerA (.call (.ref fa) ⟨vals,[]⟩) (λr s'=>∃u as,r=.ok (.ret u)/\ReadsW R cl s'.heap u d0 as/\OldK s₁.heap s'.heap/\s'.os=s₁.os/\AllBare s'.gens) s₁:=by
 obtain⟨A,ho,ar⟩:=uD ds vals YB Xj hwt;have hO:AQ (jz K s₁.heap A):=MQ ar;have hok:gF P w (jz K s₁.heap A) s₁.heap:=Qw ar;have hS:=AR KX ar ds vals YB Xj ho;have hV:=mM ho;have hK:∀b u,jz K s₁.heap A b=some u->K.lookup b=none:=λb u q=>(yd ar q).1;have aa3:∀{b:cS} {o:Obj} {es:Array DictEntry} {ep:Nat},s₁.heap.get? b=some o->o.data=.dict es ep->jz K s₁.heap A b=none:=λ{b o es ep} e d=>by
  cases q:jz K s₁.heap A b with
  | none=>rfl
  | some u=>
   obtain⟨_,vs,_,_,⟨e2,_⟩|⟨e2,_⟩⟩:=yd ar q
   .rw[e2] at e;cases e;have d':Data.seq vs.toArray _=Data.dict es ep:=d;cases d'
   .rw[e2] at e;cases e;have d':Data.seq vs.toArray _=Data.dict es ep:=d;cases d'
 generalize jz K s₁.heap A=H at hO hok hS hK aa3;have abb:∀{b:cS} {o:Obj},s₁.heap.get? b=some o->H b=none->(ur s₁.heap H).get? b=some o:=λe n=>N2 e n;have acP:∀{b:cS} {m:Str->Option Value},s₁.heap.Ns b m->(ur s₁.heap H).Ns b m:=λ{b m} ⟨o,es,ep,e,d,r⟩=>⟨o,es,ep,abb e (aa3 e d),d,r⟩;have nK:∀b o,K.lookup b=some o->H b=none:=λb o e=>by
  cases q:H b with
  | none=>rfl
  | some u=>
   rw[hK b u q] at e;cases e
 have afC:K.In (ur s₁.heap H):=λb o e=>abb (KX b o e) (nK b o e);have hM:Mod K mg (ur s₁.heap H):=⟨afC,acP Z8,⟨mb,acP hb,adH⟩,let ⟨mc,h1,h2⟩:=agD;⟨mc,acP h1,h2⟩⟩;have e0:mL P w K mg (ur s₁.heap H) callerA [] s₁ H:=⟨rfl,hM,λb o e=>Qc e,Nat.le_of_eq (Mo _ _),trivial,λb hb=>absurd (show b∈([]:List cS) from hb) (by simp),hok,.of_eq hg⟩;have hl:vals.length=ps.length:=by rw[m8 YB];exact hlen
 refine bu ((F _ afC (acP Z8)).run callerA [] s₁ H ⟨vals,[]⟩ vals (vals.map nP) _ _ hr e0 (afh s₁ vals hl) hV (Xn H _ hO hS)) λr s' x=>?_;cases r with
 | error e=>exact(abR H e s' x).elim
 | ok fl=>
  cases fl with
  | next=>exact False.elim x
  | brk=>exact False.elim x
  | cont=>exact False.elim x
  | ret u=>
   obtain⟨v,H',os,bare,un,adI,r',q⟩:=x;have kept:∀b o,s₁.heap.get? b=some o->s'.heap.get? b=some o:=λb o e=>by
    cases q2:H b with
    | none=>exact un.keep b o e q2 (by intro z;exact absurd (show b∈([]:List cS) from z) (by simp)) (by simp)
    | some u2=>
     rcases hO b with z|⟨ob,u3,z⟩
     .rw[q2] at z;cases z
     .have z2:=un.frzs b ob _ z;obtain⟨e1,_⟩:=hok b _ z;obtain⟨e2,_⟩:=adI b _ z2;rw[e] at e1;cases e1;exact e2
   have KX':K.In s'.heap:=λb o e=>kept b o (KX b o e);obtain⟨as,afD⟩:=Dw.reads (R:=R) (cl:=cl) adI KX' d0 v u q r';exact⟨u,as,rfl,afD,OldK.of_keep kept,os,bare⟩
theorem Cn(h:WData.layableAll ds=true):∀d∈ds,d.weight<=1048576:=λd hd=>
 (PySem.W.layableW_iff.mp (cu.mp h d hd)).2.2
theorem AS:∀(cs:List Codec)(a:Codec.denoteAll cs),(Codec.encAll cs a).length=cs.length
 | [],_=>rfl
 | c::cs,a=>by
  show(Codec.encAll cs a.2).length+1=cs.length+1;rw[AS cs a.2]
theorem MS{r:OpenSpec}{k:Nat}{q:Program}{loose:List Str}{XP:(Str->Option Value)->Heap->Prop}{YP:World->Heap->Prop}{d:DefRec}{K:Params->cV}{CX:World->pJ}{ps:List Str}{sp:World->Sp}(abx:r.wellSaid=true)(abc:d.params.defaults=[])(hlen:r.args.length=ps.length)(hr:eJ k callerA)(hY:∀(w:World)(h:Heap),YP w h->(K w.params).In h)(F:∀(w:World)(mg:Str->Option Value)(fa:cS)(h:Heap),YP w h->(K w.params).In h->h.Ns mainGlobals mg->mg d.name=some (.ref fa)->∃fd:cT,(∀(s:cU)(us:List Value),us.length=ps.length->BindsTo s fd ⟨us,[]⟩ (ps.zip us))/\∀base:Heap,(K w.params).In base->base.Ns mainGlobals mg->eS r.prog w (K w.params) mg base (CX w) k fa fd ps (sp w))(Xn:∀(w:World)(H:Hp)(xs:List V)(a:Codec.denoteAll r.args),AQ H->Codec.withinAll r.args a=true->Codec.app r.args r.asked a=true->lg (K w.params) H xs (Codec.encAll r.args a)->sp w xs H (λv H'=>Dw (K w.params) H' v (r.ret.enc (Codec.app r.args r.f a))) λ_ _ _=>False)(abR:∀(w:World)(H:Hp)(s:cU)(e:Value)(s':cU),CX w [] H s (λ_ _ _=>False) e s'->False):PySem.W.WalkOS q loose XP YP r d [] (λf vs=>PySem.call f vs):=by
 intro w s_0 s₁ mg mb G Y fa o pm cd doc dV kV ho hd YU hD adJ hg args vals as agE agF afD YB hlo;obtain⟨a,e1,e2⟩:=PySem.W.os_pre_some agE;obtain⟨e3,adK⟩:=Codec.encAll_of_decAll r.args args a e1;subst e3;have KX:=hY w _ Y;obtain⟨fd,hb,hF⟩:=F w mg fa _ Y KX G.T.g adJ
 refine PySem.W.enter_call (bu (MR (R:=[]) (cl:=classAt s_0.heap) (d0:=r.ret.enc (Codec.app r.args r.f a)) KX G.T.g G.T.b G.T.builtins G.T.nolimit hg YB (Ed _ _) (Cn agF) hr hF hb (by rw[AS];exact hlen)
  (λH xs hO hS=>Xn w H xs a hO adK e2 hS) λH e s'=>abR w H s₁ e s') λr' s' hq=>?_)
 obtain⟨u,as',rfl,h1,h2,h3,h4⟩:=hq;exact⟨.inl ⟨u,_,as',rfl,λ_=>rfl,h1,(OpenSpec.post_iff abx adK _ _).mpr rfl,λz=>Bool.noConfusion (show false=true from z)⟩,h2,h3,h4⟩
theorem KW{r:OpenSpec}{k:Nat}{q:Program}{loose:List Str}{XP:(Str->Option Value)->Heap->Prop}{YP:World->Heap->Prop}{d:DefRec}{K:Params->cV}{CX:pJ}{ps:List Str}{sp:cV->Sp}(abx:r.wellSaid=true)(abc:d.params.defaults=[])(hlen:r.args.length=ps.length)(hr:eJ k callerA)(hY:∀(w:World)(h:Heap),YP w h->(K w.params).In h)(F:∀(w:World)(mg:Str->Option Value)(fa:cS)(h:Heap),YP w h->(K w.params).In h->h.Ns mainGlobals mg->mg d.name=some (.ref fa)->∃fd:cT,(∀(s:cU)(us:List Value),us.length=ps.length->BindsTo s fd ⟨us,[]⟩ (ps.zip us))/\∀base:Heap,(K w.params).In base->base.Ns mainGlobals mg->eS r.prog w (K w.params) mg base CX k fa fd ps (sp (K w.params)))(Xn:∀(K:cV)(H:Hp)(xs:List V)(a:Codec.denoteAll r.args),AQ H->Codec.withinAll r.args a=true->Codec.app r.args r.asked a=true->lg K H xs (Codec.encAll r.args a)->sp K xs H (λv H'=>Dw K H' v (r.ret.enc (Codec.app r.args r.f a))) λ_ _ _=>False)(abR:∀(H:Hp)(s:cU)(e:Value)(s':cU),CX [] H s (λ_ _ _=>False) e s'->False):PySem.W.WalkOS q loose XP YP r d [] (λf vs=>PySem.call f vs):=
 MS (K:=K) (CX:=λ_=>CX) (sp:=λw=>sp (K w.params)) abx abc hlen hr hY F (λw H xs a h1 h2 h3 h4=>Xn (K w.params) H xs a h1 h2 h3 h4) λ_ H s e s'=>abR H s e s'
end
end L2
end
namespace L2
open PySem PySem.Spec PyProof.Rows
section
variable{M:Model}{A:Around}{E:Value->cU->Prop}{s:cU}
theorem Eg(Yl:A.frames=some (env::outer))(hl:s.heap.FunFrames base (env::outer))(hf:env.frame=some L)(hx:s.heap.get? x=some oe)(hd:oe.data=.fields vs)(hsz:1<vs.size)(k:∀h' T,s.heap.get? T=none->T≠x->h'.get? x=some (oe.mapFields (·.setIfInBounds 1 (.ref T)))->(∃oT ts,h'.get? T=some oT/\oT.data=.fields ts/\ts[3]?=some .none)->(∀b o,b≠x->b∉(env::outer).filterMap (·.frame)->s.heap.get? b=some o->h'.get? b=some o)->(∀b o,b≠x->s.heap.get? b=some o->∃sl,h'.get? b=some {o with slots:=sl})->Q () {s with heap:=h'}):wpAny M A (do let a ←frameOf env;let pl ←entryPlaceOf L nxt;let b ←EntryCells.newEntry head a .none (rawInt L) .none pl;setField (.ref x) 1 b) (λ_ s1=>wpAny M A (setFlight (.ref x) none) Q E s1) E s:=by
 have hxf:x∉(env::outer).filterMap (·.frame):=λhm=>by
  obtain⟨_,o,ho,hn⟩:=hl.mem hm;rw[hx] at ho;cases ho;exact hn vs hd
 refine ag (wpAny_frameOf_fun Yl hl hf λg hg=>?_);refine ag (wpAny_entryPlaceOf λpl Xj=>?_);unfold EntryCells.newEntry newFields;refine ag (wpAny_newObj_type ?_ (Xj.sizeOk5 _ _ _ _ _));have XR:g.get? x=some oe:=(hg.2.1 x hxf).trans hx;have neT:g.objs.size≠x:=bA (aj XR);refine wpAny_setField (aB _ XR) hd hsz ?_;have acQ:=cx hd (·.setIfInBounds 1 (Value.ref g.objs.size))
 have acR:=cB (Obj.mapFields (·.setIfInBounds 1 (Value.ref g.objs.size))) (aB
  {cls:=.type "traceback",dict:=none,data:=.fields ([head,.ref L,.none,rawInt L,.none]++(if pl.isEmpty then List.replicate 6 Value.none else pl)).toArray} XR) (Obj.isFreed_of_fields acQ)
 have YC:=(bB (g.push {cls:=.type "traceback",dict:=none,data:=.fields ([head,.ref L,.none,rawInt L,.none]++(if pl.isEmpty then List.replicate 6 Value.none else pl)).toArray})
  (Obj.mapFields (·.setIfInBounds 1 (Value.ref g.objs.size))) (Ne.symm neT)).trans (aM g rfl)
 unfold setFlight;refine ag (wpAny_field acR acQ (x:=.ref g.objs.size) (by simp[hsz]) ?_);rw[ae (by simp)];refine wpAny_setField YC rfl (by simp only[aG,aC,az,bc]<;>lia) (k _ g.objs.size ?_ neT ?_ ?_ ?_ ?_)
 .exact Heap.get?_none_of_le (by rw[hg.1];exact ah _)
 .rw[bB _ _ neT];exact acR
 .refine⟨_,_,cB _ YC (Obj.isFreed_of_fields (cx rfl _)),cx rfl _,?_⟩
  first|(simp;done)|(rcases Xj with rfl|⟨_,_,_,_,_,_,_,rfl⟩<;>simp)
 .intro b o hb hbf e;have e1:g.get? b=some o:=(hg.2.1 b hbf).trans e;rw[bB _ _ (bA (aj e1)),bB _ _ (Ne.symm hb)];exact aB _ e1
 .intro b o hb e;obtain⟨sl,e1⟩:=hg.2.2 b o e;refine⟨sl,?_⟩;rw[bB _ _ (bA (aj e1)),bB _ _ (Ne.symm hb)];exact aB _ e1
def KY(h:Heap)(x:cS)(tb:Value):Prop:=tb=.none∨∃T oT ts,tb=.ref T/\T≠x/\h.get? T=some oT/\oT.data=.fields ts/\ts[3]?=some .none
theorem Gp(Yl:A.frames=some (env::outer))(hl:s.heap.FunFrames base (env::outer))(hf:env.frame=some L)(hx:s.heap.get? x=some oe)(hd:oe.data=.fields vs)(h1:vs[1]?=some tb)(ht:KY s.heap x tb)(k:∀h' T,s.heap.get? T=none->T≠x->h'.get? x=some (oe.mapFields (·.setIfInBounds 1 (.ref T)))->(∃oT ts,h'.get? T=some oT/\oT.data=.fields ts/\ts[3]?=some .none)->(∀b o,b≠x->b∉(env::outer).filterMap (·.frame)->s.heap.get? b=some o->h'.get? b=some o)->(∀b o,b≠x->s.heap.get? b=some o->∃sl,h'.get? b=some {o with slots:=sl})->Q () {s with heap:=h'}):wpAny M A (noteFrame (.ref x) env) (λ_ s1=>wpAny M A (setFlight (.ref x) none) Q E s1) E s:=by
 have hsz:1<vs.size:=(cy.mp h1).1;unfold noteFrame;simp only[hf];refine ag (wpAny_field hx hd h1 ?_);rcases ht with rfl|⟨T,oT,ts,rfl,hT,eT,dT,e3⟩
 .rw[aa (by decide)];exact Eg Yl hl hf hx hd hsz k
 .rw[ae (by simp)];refine ag (wpAny_field eT dT e3 ?_);rw[aa (by simp[rawInt])];refine ag (wpAny_setField eT dT (cy.mp e3).1 ?_);rw[Heap.update_setField_same s.heap T oT ts 3 .none eT dT e3];exact Eg Yl hl hf hx hd hsz k
theorem Eh(hx:s.heap.get? x=some oe)(hd:oe.data=.fields vs)(h1:vs[1]?=some tb)(ht:KY s.heap x tb)(k:Q () s):wpAny M A (setFlight (.ref x) none) Q E s:=by
 unfold setFlight;refine ag (wpAny_field hx hd h1 ?_);rcases ht with rfl|⟨T,oT,ts,rfl,hT,eT,dT,e3⟩
 .rw[aa (by decide)];exact wpAny_pure k
 .rw[ae (by simp)];refine wpAny_setField eT dT (cy.mp e3).1 ?_;show Q () {s with heap:=s.heap.update T (Obj.mapFields (·.setIfInBounds 3 .none))};rw[Heap.update_setField_same s.heap T oT ts 3 .none eT dT e3];exact k
end
end L2
set_option maxHeartbeats 200000
namespace L2
section
open PySem
open Builtin Builtin.ObjectAttr
section
variable{prog:Program}{w:World}{A:Around}{E:Value->cU->Prop}{h:Heap}{g:Array GenState}{d:Drawn}{t:Nat}{os:OsState}
variable{nm q:Str}{C N x:cS}{bs bm:List Value}{sn:List Str}{sub:List Value}{ab:Bool}{col:Option Bool}{dd:Option cS}{k0 k1 k2 k3 k5:Option Value}{B newId sa owner:String}{mN:Str->Option Value}{name:Str}{v:Value}{o:Obj}
theorem KZ(SF:StoreFacts B bm sa owner)(hC:h.get? C=some (excClassObj nm q C N bs bm true sn sub ab col dd k0 k1 k2 k3 k5 newId))(hn:h.Ns N mN)(adL:mN name=none)(hB:typeLookup (.type B) name=pure none)(hx:h.get? x=some o)(hc:o.cls=.ref C)(adM:∀c,o.data≠.cls c)(Z9:o.dict=none)(hq:∀h' ZH,h'.get? x=some {o with dict:=some h.objs.size}->h'.Ns1 h.objs.size (λy=>if y=name then some v else none)->(∀b ob,b≠x->h.get? b=some ob->h'.get? b=some ob)->Q (.done (.ret .none)) ⟨h',g,d,ZH,os⟩):wpAny (model prog w) A (Builtin.«object.__setattr__» ⟨[.ref x,.str name tk,v],[]⟩) Q E ⟨h,g,d,t,os⟩:=by
 have afi:=SF.passes (.ref x)
 (unfold Builtin.«object.__setattr__»)
 repeat (first
  | rw[refuse_eq]
  | (rw[refuseLoop_ref,afi])
  | (with_reducible refine wpAny_loadPart_at hx ?_;rw[hc])
  | with_reducible refine wpAny_mroOf_exc hC ?_
  | (with_reducible refine wpAny_typeLookup_exc hC hn SF.mro hB ?_;rw[adL])
  | wp_step)
 rw[Z9,aa (by simp[typeHasDict])];split
 .rename_i z;cases z
 split
 .rename_i c z;exact absurd z (adM c)
 .have XR:(h.push {cls:=.type "dict",data:=.dict #[]}).get? x=some o:=aB _ hx;have aaG:x≠h.objs.size:=aF (aj hx);refine ag (wpAny_alloc' (ag (wpAny_update' XR (wpAny_pure ?_))));have hgd:((h.push {cls:=.type "dict",data:=.dict #[]}).update x λo=>{cls:=o.cls,dict:=some h.objs.size,data:=o.data,slots:=o.slots}).get? h.objs.size=some {cls:=.type "dict",data:=.dict #[]}:=
   (bW _ _ _ _ aaG.symm).trans (Heap.get?_push_at rfl rfl)
  have Zi:((h.push {cls:=.type "dict",data:=.dict #[]}).update x λo=>{cls:=o.cls,dict:=some h.objs.size,data:=o.data,slots:=o.slots}).Ns h.objs.size (λ_=>none):=
   ⟨_,#[],_,hgd,rfl,λe he=>absurd he (by simp),λ_=>rfl⟩
  show wpAny _ _ (storeInDict h.objs.size (.str name tk) name v) _ _ _
  (unfold storeInDict newKeyGuard)
  refine ag (wpAny_pure (ag (wpAny_nsSet1 (Heap.Ns1.of_empty Zi) λh2 ZE hs=>?_)));obtain⟨oD,esD,epD,adw,adx,ady⟩:=ZE.count (Within.cons name v Within.nil);refine ag (wpAny_lookBehind adw (by rw[adx];exact pastItsLine_dict (aA ady (by rw[az,bc,sizeLine_eq];lia))) ?_)
  wp_walk
  refine hq h2 _ ((hs.2 x aaG).trans (cB _ XR ?_)) ZE λb ob hb e=>(hs.2 b (aF (aj e))).trans ((bW _ _ _ _ hb).trans (aB _ e));have Yl:=(Heap.get?_some_iff.mp hx).2;obtain⟨oc,od,aaH,XU⟩:=o;cases aaH<;>first|rfl|exact Yl
theorem MT(SF:StoreFacts B bm sa owner)(hC:h.get? C=some (excClassObj nm q C N bs bm true sn sub ab col dd k0 k1 k2 k3 k5 newId))(hn:h.Ns N mN)(Z8:mN "__setattr__"=none)(adL:mN name=none)(hB:typeLookup (.type B) name=pure none)(hx:h.get? x=some o)(hc:o.cls=.ref C)(adM:∀c,o.data≠.cls c)(Z9:o.dict=none)(hq:∀h' ZH,h'.get? x=some {o with dict:=some h.objs.size}->h'.Ns1 h.objs.size (λy=>if y=name then some v else none)->(∀b ob,b≠x->h.get? b=some ob->h'.get? b=some ob)->Q () ⟨h',g,d,ZH,os⟩):wpAny (model prog w) A (setAttr (.ref x) name v) Q E ⟨h,g,d,t,os⟩:=by
 have f3:=SF.slot.bind (.ref x)
 (unfold setAttr callSpecial? specialOf)
 repeat (any_goals (first
  | assumption
  | (with_reducible refine wpAny_loadPart_at hx ?_;rw[hc])
  | (with_reducible refine wpAny_typeLookup_exc hC hn SF.mro SF.slot.lookup ?_;rw[Z8])
  | wp_step))
 refine codeAny_call_builtin SF.slot.plain SF.entry (wpAny_check_sa SF hC hx hc (KZ SF hC hn adL hB hx hc adM Z9 λh' ZH a b c=>?_))
 repeat (any_goals (first|assumption|wp_step))
 exact hq h' ZH a b c
end
end
end L2
set_option maxHeartbeats 4000000
namespace L2
open PySem PySem.Spec PyProof.Rows
section
variable{P:Program}{w:World}{H H':Hp}{h h':Heap}{a:cS}{o:HO}
theorem eR.there(x:eR P w H h a o):∃ob,h.get? a=some ob:=by
 cases o with
 | lst xs=>obtain⟨_,_,_,_,e⟩:=x;exact⟨_,e⟩
 | tup xs=>obtain⟨_,_,_,ob,e,_⟩:=x;exact⟨_,e⟩
 | dK kvs=>obtain⟨_,_,_,_,ob,_,_,e,_⟩:=x;exact⟨_,e⟩
 | dT kvs=>obtain⟨_,_,_,_,ob,_,_,e,_⟩:=x;exact⟨_,e⟩
 | set S n=>obtain⟨ob,_,_,_,e,_⟩:=x;exact⟨_,e⟩
 | ins C dx fs=>obtain⟨_,_,_,e,_⟩:=x;exact⟨_,e⟩
 | own y=>exact x
 | xd fs=>obtain⟨_,⟨_,_,_,e,_⟩,_⟩:=x;exact⟨_,e⟩
 | rng lo hi=>obtain⟨_,_,_,e⟩:=x;exact⟨_,e⟩
 | frz ob u=>obtain⟨e,_⟩:=x;exact⟨_,e⟩
 | tbl ps=>exact⟨_,x⟩
 | met f y=>exact⟨_,x⟩
 | ext φ=>obtain⟨_,e,_⟩:=x;exact e
theorem gF.unheld(x:gF P w H h)(e:h.get? a=none):H a=none:=by
 cases q:H a with
 | none=>rfl
 | some u=>
  obtain⟨ob,z⟩:=(x a u q).there;rw[e] at z;cases z
end
def drop(x:cS)(H:Hp):Hp:=λb=>if b=x then none else H b
theorem wA:drop x H x=none:=ae rfl
theorem kg(h:b≠x):drop x H b=H b:=aa h
section
variable{X:Cx}{pins:List (cS×Obj)}{U:St}{H:Hp}{s:cU}{h':Heap}
theorem cY.lay(I:cY X pins U H s)(k:∀b u,s.heap.get? b=some u->h'.get? b=some u)(hn:s.heap.get? a=none)(new:eR X.prog X.w (upd H a o) h' a o):cY X pins U (upd H a o) {s with heap:=h',toks:=t'}:=by
 have na:H a=none:=I.hok.unheld hn;have ne:∀b u,s.heap.get? b=some u->b≠a:=λb u e z=>by rw[z,hn] at e;cases e
 refine I.un ⟨λb u e _ _ _=>k b u e,λb u e _ _ _=>⟨u.slots,k b u e⟩,λb u e n _=>by rw[ap (ne b u e)];exact n,λb u e _=>⟨u,k b u e⟩,
  λb xs e=>by rw[ap (ca e na)];exact e,λb u xs e=>by rw[ap (ca e na)];exact e,λb ps e=>⟨#[],by rw[ap (ca e na),e];simp⟩⟩ λb u e=>?_
 by_cases hb:b=a
 .subst hb;rw[bv] at e;cases e;exact new
 .rw[ap hb] at e;exact(I.hok b u e).stay (λc v _ q=>k c v q) (λc q=>by rw[ap (ca q na)];exact q) λc xs q=>by rw[ap (ca q na)];exact q
theorem cY.drop(I:cY X pins U H s)(hx:H x=some (.ext φ)):cY X pins U (L2.drop x H) s:=by
 have nx:∀b u,H b=some u->(∀ψ,u≠.ext ψ)->b≠x:=λb u e n z=>by
  rw[z,hx] at e;cases e;exact n φ rfl
 have free:∀b,H b=none->L2.drop x H b=none:=λb n=>by
  by_cases hb:b=x
  .rw[hb];exact wA
  .rw[kg hb];exact n
 refine I.un (h':=s.heap) (t':=s.toks) ⟨λb u e _ _ _=>e,λb u e _ _ _=>⟨u.slots,e⟩,λb u e n _=>free b n,λb u e _=>⟨u,e⟩,
  λb xs e=>by rw[kg (nx b _ e λψ z=>nomatch z)];exact e,λb u xs e=>by rw[kg (nx b _ e λψ z=>nomatch z)];exact e,λb ps e=>⟨#[],by rw[kg (nx b _ e λψ z=>nomatch z),e];simp⟩⟩ λb u e=>?_
 have hb:b≠x:=λz=>by rw[z,wA] at e;cases e
 rw[kg hb] at e;exact(I.hok b u e).stay (λc v _ q=>q) (λc q=>by rw[kg (nx c _ q λψ z=>nomatch z)];exact q) λc xs q=>by rw[kg (nx c _ q λψ z=>nomatch z)];exact q
end
structure AT(h0:Heap)(H:Hp)(C x dx:cS)(h:Heap):Prop where
 new:h0.get? x=none
 free:H x=none
 ne:dx≠x
 obj:∃oe vs tb,h.get? x=some oe/\oe.cls=.ref C/\oe.dict=some dx/\oe.data=.fields vs/\vs[1]?=some tb/\KY h x tb
def kH(P:Program)(w:World)(C:cS):pJ:=λouter H s E e s'=>
 ∃(x dx:cS)(H':Hp),e=.ref x/\s'.os=s.os/\AllBare s'.gens/\Un (YJ outer) [] H H' s.heap s'.heap/\gF P w H' s'.heap/\AT s.heap H' C x dx s'.heap/\E (.ref C) (some dx) H'
def tq(X:Cx)(C:cS)(E:XK):Prop:=
 ∀(pins:List (cS×Obj))(U:St)(H:Hp)(s:cU)(x dx:cS),cY X pins U H s->AT X.s_0.heap H C x dx s.heap->(∀p∈X.pn++pins,p.1≠x)->E (.ref C) (some dx) H->X.xe (.ref x) s
theorem cY.young(I:cY X pins U H s)(hex:X.ex=[])(e:s.heap.get? x=none):X.s_0.heap.get? x=none:=by
 cases q:X.s_0.heap.get? x with
 | none=>rfl
 | some o=>
  obtain⟨o',z⟩:=I.base.there x o q (by rw[hex];simp);rw[e] at z;cases z
theorem tq.passes(t:tq X C E)(hex:X.ex=[]):g0 (kH X.prog X.w C) X E:=by
 rintro pins U H s e s' I ⟨x,dx,H',rfl,os,bare,un,hok,F,hE⟩;have I':=I.call' os un hok bare (λ_ z=>nomatch z);exact t pins U H' s' x dx I' ⟨I.young hex F.new,F.free,F.ne,F.obj⟩ (λp hp z=>by have e:=(I.pin p hp).1;rw[z,F.new] at e;cases e) hE
theorem ID{P:Program}{w:World}{K:cV}{mg:Str->Option Value}{base:Heap}{N:List Str}{qual:Str}{scope:Scope}{f:cS}{cd:Value}{A:Around}{outer:List Env}{s:cU}{H:Hp}{E:XK}{C:cS}:tq (j7 (kH P w C) P w K mg base N qual scope f cd A outer s H E) C E:=by
 intro pins U H' s' x dx I F np hE;obtain⟨oe,vs,tb,hx,hc,adN,hd,h1,ht⟩:=F.obj;have Xf:s'.heap.FunFrames base (envOfC qual scope s.heap.objs.size f cd::outer):=I.stack;have fr:∀b∈(envOfC qual scope s.heap.objs.size f cd::outer).filterMap (·.frame),H' b=none:=I.stkFree;refine ag (Gp I.ok.frames Xf rfl hx hd h1 ht λh2 T nT neT ex eT keep slot=>?_);have agG:s.heap.get? x=none:=F.new;have nx:∀b o,s.heap.get? b=some o->b≠x:=λb o e z=>by rw[z,agG] at e;cases e
 have nL:∀b o,s.heap.get? b=some o->b∉YJ outer->b∉(envOfC qual scope s.heap.objs.size f cd::outer).filterMap (·.frame):=λb o e n hm=>by
  rw[cb] at hm;rcases aw.mp hm with z|z
  .exact absurd (aj e) (by rw[z];exact a0 _)
  .exact n z
 refine⟨x,dx,H',rfl,I.os,I.bare,⟨λb o e n hb hz=>keep b o (nx b o e) (nL b o e hb) (I.base.keep b o e n hb hz),λb o e n hb hz=>?_,I.base.free,λb o e hz=>?_,I.base.tups,I.base.frzs,I.base.tbls⟩,λa o e=>?_,⟨F.new,F.free,F.ne,?_⟩,hE⟩
 .obtain⟨sl,e1⟩:=I.base.slot b o e n hb hz;obtain⟨abT,e2⟩:=slot b _ (nx b o e) e1;exact⟨abT,e2⟩
 .obtain⟨o1,e1⟩:=I.base.there b o e hz;obtain⟨abT,e2⟩:=slot b _ (nx b o e) e1;exact⟨_,e2⟩
 .have out:∀b u,H' b=some u->∀v,s'.heap.get? b=some v->h2.get? b=some v:=λb u q v r=>
   keep b v (λz=>by rw[z,F.free] at q;cases q) (λz=>by rw[fr b z] at q;cases q) r
  refine(I.hok a o e).stay (λb u hb q=>?_) (λ_ q=>q) λ_ _ q=>q;rcases hb with z|z
  .rw[z] at q ⊢;exact out a o e u q
  .exact out b _ z u q
 .refine⟨_,_,.ref T,ex,(Obj.cls_mapFields _ _).trans hc,?_,cx hd _,?_,.inr ?_⟩
  .obtain⟨oc,od,aaH,XU⟩:=oe;have XF:aaH=.fields vs:=hd;subst XF;exact adN
  .rw[Array.getElem?_setIfInBounds_self];rw[ae (cy.mp h1).1]
  .obtain⟨oT,ts,e1,e2,e3⟩:=eT;exact⟨T,oT,ts,rfl,neT,e1,e2,e3⟩
section
variable{prog:Program}{w:World}{A:Around}{E:Value->cU->Prop}{s:cU}{K:cV}{x C:cS}{ox:Obj}{od:Option Obj}{name:Str}{expr:Bool}{Q:Value->cU->Prop}{nm q:Str}{N:cS}{bs:List Value}{hdct:Bool}{sn:List Str}{sub:List Value}{ab:Bool}{col:Option Bool}{dd:Option cS}{k0 k1 k2 k3 k5:Option Value}{newId:String}
open PySem.W (looks_findIn looks_find InstAt findIn findObj handedIn handedOut_of) in
theorem Qx(X:K.In s.heap)(I:InstAt s.heap x ox C od)(hga:findIn K (.ref C) "__getattribute__"=some (some (.builtin "BaseException.__getattribute__")))(hgr:findIn K (.ref C) "__getattr__"=some none)(hC:s.heap.get? C=some (excClassObj nm q C N bs [.type "Exception",.type "BaseException",.type "object"] hdct sn sub ab col dd k0 k1 k2 k3 k5 newId))(hf:findObj K C od name=some (.value v))(hh:handedIn v=true)(h:Q v {s with toks:=s.toks+1}):wpAny (model prog w) A (getAttr (.ref x) name expr) Q E s:=by
 obtain⟨hp,g,d,t,os⟩:=s;have L0:=I.type (M:=model prog w);have L1:=looks_findIn (M:=model prog w) X hga;have L2:=looks_findIn (M:=model prog w) X hgr;have L3:=looks_find (M:=model prog w) X I hf;have FB:=F.attrBase_Exception;have f3:=FB.ga.bind (.ref x);have abU:(expr&&onTheHeap (Value.builtin "BaseException.__getattribute__"))=false:=by cases expr<;>rfl
 have aaa:(Value.builtin "BaseException.__getattribute__"== Value.builtin "object.__getattribute__")=false:=by rfl'
 have XR:(onTheHeap (Value.ref C)&&Value.builtin "BaseException.__getattribute__"== Value.builtin "object.__getattribute__")=false:=by rw[aaa];rfl
 unfold getAttr getAttrBy;refine ag (wpAny_mkText (wpAny_holding (ag (L0.at (ag (L1.at ?_))))))
 repeat (any_goals (first|assumption|with_reducible refine L2.at ?_|wp_step))
 refine codeAny_call_builtin FB.ga.plain F.entry_bexc_ga (wpAny_check_ga_own FB hC .base I.at_ I.cls ?_)
 repeat (any_goals (first|assumption|with_reducible refine L0.at ?_|with_reducible refine L3.at ?_|wp_step))
 show wpAny _ _ (handedOut v) _ _ _;rw[handedOut_of hh];exact wpAny_pure h
end
def XO(x C:cS)(d:Option cS)(vs:Array Value):HO:=.ext λh=>∃oe,h.get? x=some oe/\oe.cls=.ref C/\oe.dict=d/\oe.data=.fields vs
def XA(dx:cS)(fs:List (Str×V)):HO:=.ext λh=>∃mA,h.Ns1 dx mA/\(∀f,iD (fs.lookup f) (mA f))/\PySem.Within mA (fs.map (·.1))
section
variable{P:Program}{w:World}{H:Hp}{h:Heap}{x C dx:cS}{d:Option cS}{vs:Array Value}{fs:List (Str×V)}
theorem FR(e:h.get? x=some oe)(c:oe.cls=.ref C)(d':oe.dict=d)(f:oe.data=.fields vs):eR P w H h x (XO x C d vs):=
 ⟨⟨oe,e,c,d',f⟩,⟨oe,e⟩,λ_ _ ⟨o,a,b,c1,d1⟩ k=>⟨o,k o a,b,c1,d1⟩⟩
theorem PJ(n:h.Ns1 dx mA)(r:∀f,iD (fs.lookup f) (mA f))(wi:PySem.Within mA (fs.map (·.1))):eR P w H h dx (XA dx fs):=
 ⟨⟨mA,n,r,wi⟩,let ⟨o,_,_,e,_⟩:=n;⟨o,e⟩,λ_ _ ⟨m,a,b,c1⟩ k=>⟨m,a.at k,b,c1⟩⟩
theorem tz(k:gF P w H h)(e:H x=some (XO x C d vs)):∃oe,h.get? x=some oe/\oe.cls=.ref C/\oe.dict=d/\oe.data=.fields vs:=(show eR P w H h x (XO x C d vs) from k x _ e).1
theorem MU(k:gF P w H h)(e:H dx=some (XA dx fs)):∃mA,h.Ns1 dx mA/\(∀f,iD (fs.lookup f) (mA f))/\PySem.Within mA (fs.map (·.1)):=(show eR P w H h dx (XA dx fs) from k dx _ e).1
end
structure rS(K:cV)(C fI:cS)(as:List Str):Prop where
 obj:∃nm q N bs sn sub ab col dd k0 k1 k2 k3 k5,K.lookup C=some (excClassObj nm q C N bs [.type "Exception",.type "BaseException",.type "object"] true sn sub ab col dd k0 k1 k2 k3 k5 "Exception.__new__")/\PySem.W.nsOkIn K N=true/\
  PySem.W.nsIn K N "__init__"=some (some (.ref fI))/\PySem.W.nsIn K N "__setattr__"=some none/\∀a∈as,PySem.W.nsIn K N a=some none
 fn:PySem.W.isFn K (.ref fI)=true
 kp:PySem.W.keepIn K (.ref C)=true
 ga:PySem.W.findIn K (.ref C) "__getattribute__"=some (some (.builtin "BaseException.__getattribute__"))
 gr:PySem.W.findIn K (.ref C) "__getattr__"=some none
 hd:PySem.W.hasDictIn K C=true
 na:∀a∈as,iy K C a
 nb:∀a∈as,typeLookup (.type "Exception") a=pure none
theorem K0{K:cV}{h:Heap}{N:cS}{m:Str->Option Value}{n:Str}{v:Value}(X:K.In h)(G:h.Ns N m)(e:PySem.W.nsIn K N n=some (some v)):m n=some v:=by
 obtain⟨o,es,ep,ho,hd,_,hf⟩:=G;unfold PySem.W.nsIn at e;split at e
 .rename_i c d es1 n1 sl q;have z:=X _ _ q;rw[ho] at z;cases z;cases hd;split at e
  .rename_i en he;cases e;rw[←hf];unfold nsFind findBy;rw[←Array.find?_toList,he];rfl
  .split at e<;>cases e
 .cases e
section
variable{X:Cx}{C fI:cS}{as:List Str}
theorem rS.at{K:cV}{h:Heap}(T:rS K C fI as)(k:K.In h):∃nm q N bs sn sub ab col dd k0 k1 k2 k3 k5 mN oI,h.get? C=some (excClassObj nm q C N bs [.type "Exception",.type "BaseException",.type "object"] true sn sub ab col dd k0 k1 k2 k3 k5 "Exception.__new__")/\h.Ns N mN/\mN "__init__"=some (.ref fI)/\mN "__setattr__"=none/\(∀a∈as,mN a=none)/\h.get? fI=some oI/\oI.cls=.type "function":=by
 obtain⟨nm,q,N,bs,sn,sub,ab,col,dd,k0,k1,k2,k3,k5,lk,ok,i1,i2,i3⟩:=T.obj;have ns:h.Ns N (h.nsMap N):=.of_isNs (PySem.W.isNs_of_in k ok);have tf:(K.lookup fI).map (·.cls)=some (.type "function"):=ba.mp T.fn;cases e:K.lookup fI with
 | none=>rw[e] at tf;cases tf
 | some oI=>
  rw[e] at tf;exact⟨nm,q,N,bs,sn,sub,ab,col,dd,k0,k1,k2,k3,k5,_,oI,k _ _ lk,ns,K0 k ns i1,PySem.W.ns_none_of k ns i2,λa ha=>PySem.W.ns_none_of k ns (i3 a ha),k _ _ e,aH tf⟩
def RV(C:cS)(ta tv:TE)(f:Str):TS:=λD U H=>tv U H λy H1=>ta U H1 λv H2=>∃x vs,v=.ref x/\
 ((H2 x=some (XO x C none vs)/\∀dx,H2 dx=none->dx≠x->D.nx U (upd (upd H2 dx (XA dx [(f,y)])) x (XO x C (some dx) vs)))∨
  ∃dx fs,H2 x=some (XO x C (some dx) vs)/\H2 dx=some (XA dx fs)/\dx≠x/\fs.length<1000/\D.nx U (upd H2 dx (XA dx (gZ f y fs))))
theorem J6{o value:Expr}{f:Str}{pos pos':Pos}{ta tv:TE}(T:rS X.K C fI as)(hf:f∈as)(ha:PE X o ta)(hv:PE X value tv)(hs:swapsWith value (some (.Attribute o f pos')) pos.line X.env=pure false:=by rfl):PS X (.Assign [.Attribute o f pos'] value pos) (RV C ta tv f):=by
 intro pins s U H D I h;refine plainObj_wpAny_Assign_Attribute (dJ (hv pins s U H _ I h) λu s1 ⟨y,H1,I1,ry,q⟩=>dJ (ha pins s1 U H1 _ I1 q) λov s2 ⟨v,H2,I2,rx,x,vs,ev,q2⟩=>?_) hs;subst ev;obtain rfl:ov=Value.ref x:=rx;obtain⟨nm,qn,N,bs,sn,sub,ab,col,dd,k0,k1,k2,k3,k5,mN,oI,hC,hn,_,afE,afF,_⟩:=T.at I2.kIn;rcases q2 with ⟨ex,q2⟩|⟨dx,fs,ex,ed,ne,hl,q2⟩
 .obtain⟨oe,e1,e2,e3,e4⟩:=tz I2.hok ex;obtain⟨hp,g,d,tk,os⟩:=s2;refine MT PySem.F.store_Exception hC hn afE (afF f hf) (T.nb f hf) e1 e2 (λc z=>by rw[e4] at z;cases z) e3 λh' ZH a1 a2 a3=>?_;have nd:H2 hp.objs.size=none:=I2.hok.fresh (ah _);have nx:hp.objs.size≠x:=bA (aj e1);refine⟨U,_,?_,q2 hp.objs.size nd nx⟩;have hx:∀b u,hp.get? b=some u->b≠x->h'.get? b=some u:=λb u e n=>a3 b u n e;have hxe:upd (upd H2 hp.objs.size (XA hp.objs.size [(f,y)])) x (XO x C (some hp.objs.size) vs) x=some (XO x C (some hp.objs.size) vs):=bv;have adO:∀b,H2 b=none->b≠x:=λb n z=>(by rw[z,ex] at n;cases n);have aab:∀b r,H2 b=some r->(∀ψ,r≠HO.ext ψ)->b≠x:=λb r n hr z=>(by rw[z,ex] at n;cases n;exact hr _ rfl);refine I2.un (t':=ZH) ⟨λb r e n _ _=>hx b r e (adO b n),λb r e n _ _=>⟨r.slots,hx b r e (adO b n)⟩,λb r e n _=>?_,λb r e _=>?_,λb xs e=>?_,λb ob r e=>?_,λb ps e=>⟨#[],?_⟩⟩ λb r e=>?_
  .rw[ap (adO b n),ap (aF (aj e))];exact n
  .by_cases hb:b=x
   .rw[hb];exact⟨_,a1⟩
   .exact⟨r,hx b r e hb⟩
  .rw[ap (aab b _ e λψ z=>nomatch z),ap (ca e nd)];exact e
  .rw[ap (aab b _ e λψ z=>nomatch z),ap (ca e nd)];exact e
  .rw[ap (aab b _ e λψ z=>nomatch z),ap (ca e nd),e];simp
  .by_cases hb:b=x
   .subst hb;rw[bv] at e;cases e;exact FR a1 e2 rfl e4
   .rw[ap hb] at e;by_cases Yu:b=hp.objs.size
    .subst Yu;rw[bv] at e;cases e;refine PJ a2 (λg=>?_) (λg hg=>?_)
     .show iD (List.lookup g [(f,y)]) (if g=f then some u else none);by_cases z:g=f
      .subst z;rw[ae rfl];simp only[List.lookup,beq_self_eq_true];exact ry
      .rw[aa z];simp only[List.lookup,beq_eq_false_iff_ne.mpr z];trivial
     .by_cases z:g=f
      .subst z;simp
      .exact absurd (aa z) hg
    .rw[ap Yu] at e;refine(I2.hok b r e).stay (λc v hc q=>hx c v q ?_) (λc q=>?_) λc xs q=>?_
     .rcases hc with z|z
      .rw[z];exact hb
      .exact aab c _ z λψ z=>nomatch z
     .rw[ap (aab c _ q λψ z=>nomatch z),ap (ca q nd)];exact q
     .rw[ap (aab c _ q λψ z=>nomatch z),ap (ca q nd)];exact q
 .obtain⟨oe,e1,e2,e3,e4⟩:=tz I2.hok ex;obtain⟨mA,n1,r1,w1⟩:=MU I2.hok ed;have inst:s2.heap.Inst x C mA:=⟨oe,e1,e2,λc z=>(by rw[e4] at z;cases z),.inr ⟨dx,e3,ne,n1⟩⟩;have xC:x≠C:=λz=>by rw[z,hC] at e1;cases e1;cases e4
  have hz:(fs.map (·.1)).length<=sizeLine:=by rw[af,sizeLine_eq];lia
  obtain⟨hp,g,d,tk,os⟩:=s2;refine store_attr PySem.F.store_Exception hC hn afE (afF f hf) (T.nb f hf) xC inst (λh' ZH a1 a2 a3=>?_) w1 hz;obtain⟨o1,b1,b2,b3,_,b5⟩:=a3 oe e1;have b6:=b5 dx e3;have n2:h'.Ns1 dx (λy=>if y=f then some u else mA y):=by
   obtain⟨o2,c1,_,_,c4⟩:=a1;rw[b1] at c1;cases c1;rcases c4 with ⟨z,_⟩|⟨d2,z,_,n⟩
   .rw[b6] at z;cases z
   .rw[b6] at z;cases z;exact n
  have kx:∀b ob,b≠dx->hp.get? b=some ob->b≠x->h'.get? b=some ob:=λb ob h1 h2 h3=>a2 b ob h3 (λo0 d0 z1 z2=>by rw[e1] at z1;cases z1;rw[e3] at z2;cases z2;exact h1) h2;refine⟨U,_,?_,q2⟩;have adP:∀b,H2 b=none->b≠dx:=λb n z=>(by rw[z,ed] at n;cases n);have nx:∀b,H2 b=none->b≠x:=λb n z=>(by rw[z,ex] at n;cases n);have aab:∀b r,H2 b=some r->(∀ψ,r≠HO.ext ψ)->b≠x:=λb r n hr z=>(by rw[z,ex] at n;cases n;exact hr _ rfl);have abd:∀b r,H2 b=some r->(∀ψ,r≠HO.ext ψ)->b≠dx:=λb r n hr z=>(by rw[z,ed] at n;cases n;exact hr _ rfl);refine I2.un (t':=ZH) ⟨λb r e n _ _=>kx b r (adP b n) e (nx b n),λb r e n _ _=>⟨r.slots,kx b r (adP b n) e (nx b n)⟩,λb r e n _=>?_,λb r e _=>?_,λb xs e=>?_,λb ob r e=>?_,λb ps e=>⟨#[],?_⟩⟩ λb r e=>?_
  .rw[ap (adP b n)];exact n
  .by_cases hb:b=x
   .rw[hb];exact⟨_,b1⟩
   .by_cases Yu:b=dx
    .rw[Yu];obtain⟨o9,_,_,z,_⟩:=n2;exact⟨o9,z⟩
    .exact⟨r,kx b r Yu e hb⟩
  .rw[ap (abd b _ e λψ z=>nomatch z)];exact e
  .rw[ap (abd b _ e λψ z=>nomatch z)];exact e
  .rw[ap (abd b _ e λψ z=>nomatch z),e];simp
  .by_cases hb:b=dx
   .subst hb;rw[bv] at e;cases e;refine PJ n2 (λg=>?_) (λg hg=>?_)
    .rw[rM];by_cases z:g=f
     .rw[ae z,ae z];exact ry
     .rw[aa z,aa z];exact r1 g
    .by_cases z:g=f
     .rw[z];exact(nJ f y fs).1
     .refine(nJ f y fs).2 g (w1 g λr=>hg ?_);show(if g=f then some u else mA g)=none;rw[aa z];exact r
   .rw[ap hb] at e;by_cases Yu:b=x
    .subst Yu;rw[ex] at e;cases e;exact FR b1 (b2.trans e2) b6 (b3.trans e4)
    .refine(I2.hok b r e).stay (λc v hc q=>kx c v ?_ q ?_) (λc q=>?_) λc xs q=>?_
     .rcases hc with z|z
      .rw[z];exact hb
      .exact abd c _ z λψ z=>nomatch z
     .rcases hc with z|z
      .rw[z];exact Yu
      .exact aab c _ z λψ z=>nomatch z
     .rw[ap (abd c _ q λψ z=>nomatch z)];exact q
     .rw[ap (abd c _ q λψ z=>nomatch z)];exact q
def K1(C:cS)(ta:TE)(f:Str):TE:=λU H Q=>ta U H λv H1=>∃x dx vs fs y,v=.ref x/\H1 x=some (XO x C (some dx) vs)/\H1 dx=some (XA dx fs)/\fs.lookup f=some y/\Q y H1
theorem yg{e:Expr}{f:Str}{pos:Pos}{ta:TE}(T:rS X.K C fI as)(hf:f∈as)(he:PE X e ta)(hb:attributeBase e f X.env (eval e X.env)=eval e X.env:=by rfl):PE X (.Attribute e f pos) (K1 C ta f):=by
 intro pins s U H Q I h;refine JP hb (dJ (he pins s U H _ I h) λu s1 ⟨v,H1,I1,rx,x,dx,vs,fs,y,ev,ex,ed,l,q⟩=>?_);subst ev;obtain rfl:u=Value.ref x:=rx;obtain⟨oe,e1,e2,e3,e4⟩:=tz I1.hok ex;obtain⟨mA,n1,r1,w1⟩:=MU I1.hok ed;obtain⟨z,hz,rz⟩:=iD.some_of (v:=y) (o:=mA f) (by rw[←l];exact r1 f);obtain⟨od,ho,hl⟩:=DS n1;have J:PySem.W.InstAt s1.heap x oe C (some od):=⟨e1,e2,(by unfold PySem.W.notCls;rw[e4]),(by rw[e3];exact ho)⟩;obtain⟨_,_,_,_,_,_,_,_,_,_,_,_,_,_,_,_,hC,_⟩:=T.at I1.kIn;exact Qx I1.kIn J T.ga T.gr hC (PySem.W.findObj_own T.hd (T.na f hf) rfl (by rw[hl,hz])) (DT rz) ⟨y,H1,I1.tok _,rz,q⟩
end
section
variable{M:Model}{A:Around}{E:Value->cU->Prop}{env:Env}
variable{nm q:Str}{C N:cS}{bs bm:List Value}{hdct:Bool}{sn:List Str}{sub:List Value}{ab:Bool}{col:Option Bool}{dd:Option cS}{k0 k1 k2 k3 k5:Option Value}{newId:String}
theorem K2(X0:bm.contains (.type "BaseException")=true)(hh:A.handled=none)(h:wpAny M A x (λv s1=>∃e tu dk sl,v=.ref e/\s1.heap.get? C=some (excClassObj nm q C N bs bm hdct sn sub ab col dd k0 k1 k2 k3 k5 newId)/\s1.heap.get? e=some ⟨.ref C,dk,.fields #[.ref tu,.none,.none,.none,.bool false,.none],sl⟩/\E (.ref e) s1) E s):wpAny M A (raiseStmt env (some x) none) Q E s:=by
 have hcB:(Value.ref C::bm).contains (.type "BaseException")=true:=by rw[List.contains_cons,X0,Bool.or_true]
 unfold raiseStmt;refine ag (aK h (λv s1 h1=>?_) λ_ _ x=>x);obtain⟨e,tu,dk,sl,rfl,hC,he,hE⟩:=h1;obtain⟨hp,g,d,tk,os⟩:=s1
 repeat (first
  | with_reducible refine wpAny_loadPart_at he ?_
  | with_reducible refine wpAny_loadPart_at hC ?_
  | (with_reducible refine wpAny_isSubtype_exc hC ?_;rw[hcB])
  | wp_step)
 exact wpAny_raiseNew_none hh hE
end
def RW(C:cS)(f1 f2:Str):Sp:=λvs H Q _=>∃x a b fl,vs=[.ref x,a,b]/\H x=some (XO x C none fl)/\
 ∀dx H',H dx=none->dx≠x->H' x=some (XO x C (some dx) fl)->H' dx=some (XA dx [(f1,a),(f2,b)])->(∀c o,H c=some o->c≠x->H' c=some o)->Q .non H'
def MV(C:cS)(f1 f2:Str)(E:XK)(t:TA):TS:=λ_ U H=>t U H λvs H1=>∃a b,vs=[a,b]/\
 ∀dx H2,H1 dx=none->bn H1 H2->H2 dx=some (XA dx [(f1,a),(f2,b)])->E (.ref C) (some dx) H2
section
variable{X:Cx}{C fI:cS}{as:List Str}{E:XK}{k:Nat}{fd:cT}{ps:List Str}{f1 f2:Str}
theorem gw(T:rS X.K C fI as)(G:eS X.prog X.w X.K X.mg X.base lP k fI fd ps (RW C f1 f2))(hb:gW X.K fd ps [])(hr:eJ (k+1) X.A)(hg:Gl X x)(hm:X.mg x=some (.ref C))(th:tq X C E)(hex:X.ex=[])(ha:PA X (e::es) t)(XI:(x==("__debug__":Str))=false:=by decide)(he:starEach (e::es) X.env=(false,eval e X.env)::starEach es X.env:=by rfl)(Xj:(backTo Yz (starEach es X.env)).any (·.1)=false:=by rfl):PS X (.Raise (some (.Call (.Name x np) (e::es) [] Yz)) none pos) (MV C f1 f2 E t):=by
 intro pins s U H D I h;obtain⟨nm,qn,N,bs,sn,sub,ab,col,dd,k0,k1,k2,k3,k5,lkC,_⟩:=T.obj;rw[arm_exec_Raise];show wpAny _ _ (do standAt pos;raiseStmt X.env (some (do let v ←eval (.Call (.Name x np) (e::es) [] Yz) X.env;standAt pos;pure v)) none) _ _ s
 refine ag (wpAny_standAt (K2 (C:=C) (nm:=nm) (q:=qn) (N:=N) (bs:=bs) (bm:=[.type "Exception",.type "BaseException",.type "object"]) (hdct:=true) (sn:=sn) (sub:=sub) (ab:=ab) (col:=col) (dd:=dd) (k0:=k0) (k1:=k1) (k2:=k2) (k3:=k3) (k5:=k5)
  (newId:="Exception.__new__") (by decide) hr.hd (ag (aK ?_ (λv s3 h3=>ag (wpAny_standAt (wpAny_pure h3))) λ_ _ z=>z))))
 refine wpAny_Call_Name_kw (jP I hg hm ?_ XI);refine bK (h₀:=X.base) I.ok.mod.kin T.kp (dJ (ha Yz pins s U H _ I h) λus s1 ⟨vs,H1,I1,r,a,b,evs,q⟩=>⟨I1.kIn,?_⟩) he Xj;subst evs;obtain⟨_,_,_,_,_,_,_,_,_,_,_,_,_,_,mN,oI,hC1,acS,hi1,_,_,abe,ZI⟩:=T.at I1.kIn;obtain⟨hp,g,d,tk,os⟩:=s1;refine wpAny_call_exc_init PySem.F.excBase_Exception hC1 acS hi1 abe ZI (λh' x0 abf=>?_) (by show us.length<=sizeLine;rw[←r.length];show 2<=sizeLine;decide);obtain⟨tu,et,ntu,_⟩:=abf.there;have I2:cY X pins U (upd H1 x0 (XO x0 C none #[.ref tu,.none,.none,.none,.bool false,.none])) ⟨h',g,d,tk,os⟩:=I1.lay (t':=tk) abf.keeps abf.new (FR et rfl rfl rfl);have n1:H1 x0=none:=I1.hok.unheld abf.new;have r2:dM [V.ref x0,a,b] (Value.ref x0::us):=.cons rfl r
 have Xn:RW C f1 f2 [V.ref x0,a,b] (upd H1 x0 (XO x0 C none #[.ref tu,.none,.none,.none,.bool false,.none])) (λv H'=>v=.non/\∃dx,H1 dx=none/\dx≠x0/\H' x0=some (XO x0 C (some dx) #[.ref tu,.none,.none,.none,.bool false,.none])/\
   H' dx=some (XA dx [(f1,a),(f2,b)])/\∀c o,H1 c=some o->H' c=some o) E0:=
  ⟨x0,a,b,_,rfl,bv,λdx H' e1 e2 e3 e4 e5=>⟨rfl,dx,by rw[ap e2] at e1;exact e1,e2,e3,e4,λc o z=>e5 c o (by rw[ap (ca z n1)];exact z) (ca z n1)⟩⟩
 have hl:(Value.ref x0::us++[]).length=ps.length:=by
  rw[aZ,←r2.length];exact G.len _ _ _ _ Xn
 refine wpAny_call (bu (G.run _ X.stack _ _ ⟨Value.ref x0::us,[]⟩ (Value.ref x0::us++[]) _ _ E0 (hr.make C us []) (I2.env0.make C us []) (hb _ (Value.ref x0::us) I2.kIn hl) (by rw[aZ];exact r2) Xn) λr' s' hq=>?_);cases r' with
 | error z=>exact False.elim hq
 | ok fl=>
  cases fl with
  | next=>exact False.elim hq
  | brk=>exact False.elim hq
  | cont=>exact False.elim hq
  | ret u=>
   obtain⟨v,H',I3,rv,ev,dx,nd,ne,ex,ed,kp⟩:=I2.after hq;subst ev;obtain⟨oe,o1,o2,o3,o4⟩:=tz I3.hok ex;obtain⟨oc,od,aaH,XU⟩:=oe;have o2':oc=.ref C:=o2;have o4':aaH=.fields #[.ref tu,.none,.none,.none,.bool false,.none]:=o4;subst o2' o4';refine⟨rv,x0,tu,od,XU,rfl,I3.kIn _ _ lkC,o1,?_⟩;refine th pins U (L2.drop x0 H') s' x0 dx (I3.drop ex) ⟨I1.young hex abf.new,wA,ne,_,_,.none,o1,rfl,o3,rfl,rfl,.inl rfl⟩ (λp abV z=>?_) (q dx _ nd (λc o z=>?_) (by rw[kg ne];exact ed))
   .have e9:=(I1.pin p abV).1;rw[z] at e9;have e8:=abf.new;rw[show hp.get? x0=some p.2 from e9] at e8;cases e8
   .rw[kg (ca z n1)];exact kp c o z
end
section
variable{P:Program}{w:World}{K:cV}{mg:Str->Option Value}{base:Heap}
theorem K3{X:Cx}{C:cS}{f1 f2:Str}{H:Hp}{Q:VK}{a b:V}{x:cS}{fl:Array Value}{E:XK}(XV:¬f2=f1)(hx:H x=some (XO x C none fl))(k:∀dx H',H dx=none->dx≠x->H' x=some (XO x C (some dx) fl)->H' dx=some (XA dx [(f1,a),(f2,b)])->(∀c o,H c=some o->c≠x->H' c=some o)->Q .non H'):zM (RV C (gD 0) (gD 1) f1) (RV C (gD 0) (gD 2) f2) {nx:=λ_ H'=>Q .non H',rt:=Q} [some (.ref x),some a,some b] H:=by
 refine⟨a,rfl,.ref x,rfl,x,fl,rfl,.inl ⟨hx,λdx nd ne=>?_⟩⟩;refine⟨b,rfl,.ref x,rfl,x,fl,rfl,.inr ⟨dx,[(f1,a)],bv,?_,ne,(by show 1<1000;decide),?_⟩⟩
 .rw[ap ne,bv]
 .have e:gZ f2 b [(f1,a)]=[(f1,a),(f2,b)]:=by
   show(if f1=f2 then [(f1,b)] else(f1,a)::gZ f2 b [])=_;rw[aa (λz=>XV z.symm)];rfl
  refine k dx _ nd ne ?_ ?_ λc o z hc=>?_
  .rw[ap (Ne.symm ne),bv]
  .rw[bv,e]
  .rw[ap (ca z nd),ap hc,ap (ca z nd)];exact z
end
abbrev Cx.tryC(X:Cx)(pins:List (cS×Obj))(W:Value->cU->Prop):Cx:={X with pn:=X.pn++pins,xe:=W}
abbrev Cx.hndC(X:Cx)(pins:List (cS×Obj))(x:cS):Cx:={X with A:=X.A.mark (some (.ref x)),calm:=false,pn:=X.pn++pins,xe:=λ_ _=>False}
section
variable{X:Cx}{pins XS:List (cS×Obj)}{W:Value->cU->Prop}{x:cS}{U:St}{H:Hp}{s:cU}
theorem Cx.Ok.toTry(ok:X.Ok):(X.tryC pins W).Ok:=
 ⟨ok.mod,ok.kind,ok.glob,ok.blt,ok.above,ok.inj,ok.has,ok.cab,ok.hd,ok.frames,ok.stk,ok.exf,ok.bs,ok.bsz,ok.noex,ok.exfs,ok.funs,ok.frf⟩
theorem Cx.Ok.ofTry(ok:(X.tryC pins W).Ok):X.Ok:=
 ⟨ok.mod,ok.kind,ok.glob,ok.blt,ok.above,ok.inj,ok.has,ok.cab,ok.hd,ok.frames,ok.stk,ok.exf,ok.bs,ok.bsz,ok.noex,ok.exfs,ok.funs,ok.frf⟩
theorem Cx.Ok.toHnd(ok:X.Ok):(X.hndC pins x).Ok:=
 ⟨ok.mod,ok.kind,ok.glob,ok.blt,ok.above,ok.inj,ok.has,ok.cab,(λz=>Bool.noConfusion z),ok.frames,ok.stk,ok.exf,ok.bs,ok.bsz,ok.noex,ok.exfs,ok.funs,ok.frf⟩
theorem cY.toTry(I:cY X pins U H s):cY (X.tryC pins W) [] U H s:=⟨I.ok.toTry,I.os,I.bare,I.base,I.loc,I.cell,I.free,I.freeC,λp hp=>I.pin p (by simpa using hp),I.hok,I.len⟩
theorem cY.ofTry(I:cY (X.tryC pins W) XS U H s):cY X pins U H s:=⟨I.ok.ofTry,I.os,I.bare,I.base,I.loc,I.cell,I.free,I.freeC,λp hp=>I.pin p (cf _ hp),I.hok,I.len⟩
theorem cY.toHnd(I:cY X pins U H s):cY (X.hndC pins x) [] U H s:=⟨I.ok.toHnd,I.os,I.bare,I.base,I.loc,I.cell,I.free,I.freeC,λp hp=>I.pin p (by simpa using hp),I.hok,I.len⟩
theorem cY.ofHnd(ok:X.Ok)(I:cY (X.hndC pins x) XS U H s):cY X pins U H s:=⟨ok,I.os,I.bare,I.base,I.loc,I.cell,I.free,I.freeC,λp hp=>I.pin p (cf _ hp),I.hok,I.len⟩
theorem cY.blank(I:cY X pins U H s)(hn:h'.Ns X.env.locals m')(hs:Heap.SameBut X.env.locals s.heap h'):cY X pins (U.map λ_=>none) H {s with heap:=h',toks:=t'}:=by
 have old:∀b o,X.s_0.heap.get? b=some o->b≠X.env.locals:=λb o e=>aF (aE (aj e) I.ok.above);refine⟨I.ok,I.os,I.bare,⟨λb o e n hb hx=>(hs.2 b (old b o e)).trans (I.base.keep b o e n hb hx),λb o e n hb hx=>?_,I.base.free,λb o e hx=>?_,I.base.tups,I.base.frzs,I.base.tbls⟩,⟨m',hn,λi y v e1 e2 e3=>?_⟩,λy c e=>?_,I.free,I.freeC,λp hp=>?_,λb u e=>?_,by rw[af];exact I.len⟩
 .obtain⟨sl,e1⟩:=I.base.slot b o e n hb hx;exact⟨sl,(hs.2 b (old b o e)).trans e1⟩
 .obtain⟨o',e1⟩:=I.base.there b o e hx;exact⟨o',(hs.2 b (old b o e)).trans e1⟩
 .rw[ak] at e2;cases q:U[i]? with
  | none=>rw[q] at e2;cases e2
  | some z=>rw[q] at e2;cases e2
 .obtain⟨v,z⟩:=I.cell y c e;exact⟨v,z.sameBut hs (I.cne y c e)⟩
 .obtain⟨e,n,ne,nf,d⟩:=I.pin p hp;exact⟨(hs.2 p.1 ne).trans e,n,ne,nf,d⟩
 .refine(I.hok b u e).stay (λc v hc q=>(hs.2 c ?_).trans q) (λ_ q=>q) λ_ _ q=>q;intro z;rcases hc with r|r
  .rw[←r,z,I.free] at e;cases e
  .rw[z,I.free] at r;cases r
def CW(X:Cx)(pins:List (cS×Obj))(C:cS)(E:XK):Value->cU->Prop:=λe s'=>∃(x dx:cS)(U':St)(H':Hp),e=.ref x/\cY X pins U' H' s'/\AT X.s_0.heap H' C x dx s'.heap/\(∀p∈X.pn++pins,p.1≠x)/\E (.ref C) (some dx) H'
theorem AU:tq (X.tryC pins (CW X pins C E)) C E:=λXS U H s x dx I F np hE=>⟨x,dx,U,H,rfl,I.ofTry,F,λp hp=>np p (cf _ hp),hE⟩
theorem MW(hex:X.ex=[])(Xf:X.stack=X.env::outer)(Yl:X.env.frame=some X.env.locals)(hou:X.outer=outer)(I:cY X pins U H s)(F:AT X.s_0.heap H C x dx s.heap)(np:∀p∈X.pn++pins,p.1≠x)(k:∀h2 vs tb,cY X pins U (upd H x (XO x C (some dx) vs)) {s with heap:=h2}->vs[1]?=some tb->KY h2 x tb->Q () {s with heap:=h2}):wpAny M X.A (noteFrame (.ref x) X.env) (λ_ s1=>wpAny M X.A (setFlight (.ref x) none) Q E s1) E s:=by
 obtain⟨oe,vs,tb,hx,hc,adN,hd,h1,ht⟩:=F.obj;have agH:s.heap.FunFrames X.base (X.env::outer):=by rw[←Xf];exact I.stack
 have fr:∀b∈(X.env::outer).filterMap (·.frame),H b=none:=by
  have z:=I.stkFree;rw[Xf] at z;exact z
 have abW:∀b,b∈(X.env::outer).filterMap (·.frame)->b=X.env.locals∨b∈X.fs:=λb hb=>by
  rw[cb,Yl] at hb;rcases aw.mp hb with z|z
  .exact .inl z
  .exact .inr (by show b∈YJ X.outer;rw[hou];exact z)
 refine Gp (by rw[I.ok.frames,Xf]) agH Yl hx hd h1 ht λh2 T nT neT ex eT keep slot=>?_;have abg:∀b o,X.s_0.heap.get? b=some o->b≠x:=λb o e z=>by rw[z,F.new] at e;cases e
 have afG:X.env.locals≠x:=λz=>by
  obtain⟨m,⟨o,_,_,ho,abX,_⟩,_⟩:=I.loc;rw[z,hx] at ho;cases ho;rw[hd] at abX;cases abX
 have adQ:∀y c,X.env.cells.lookup y=some c->c≠x:=λy c e z=>by
  obtain⟨v,o,ho,abX⟩:=I.cell y c e;rw[z,hx] at ho;cases ho;rw[hd] at abX;cases abX
 have dict:(oe.mapFields (·.setIfInBounds 1 (.ref T))).dict=some dx:=by
  obtain⟨oc,od,aaH,XU⟩:=oe;have XF:aaH=.fields vs:=hd;subst XF;exact adN
 refine k h2 (vs.setIfInBounds 1 (.ref T)) (.ref T) ?_ ?_ (.inr ?_)
 .have tr:∀b u,H b=some u->∀v,s.heap.get? b=some v->h2.get? b=some v:=λb u q v r=>
   keep b v (λz=>by rw[z,F.free] at q;cases q) (λz=>by rw[fr b z] at q;cases q) r
  refine⟨I.ok,I.os,I.bare,⟨λb o e n hb hz=>keep b o (abg b o e) (λz=>?_) (I.base.keep b o e n hb hz),λb o e n hb hz=>?_,λb o e n hz=>by rw[ap (abg b o e)];exact I.base.free b o e n hz,λb o e hz=>?_,λb xs e=>?_,λb ob u e=>?_,λb ps e=>?_⟩,?_,λy c e=>?_,by rw[ap afG];exact I.free,λy c e=>by rw[ap (adQ y c e)];exact I.freeC y c e,λp hp=>?_,λa o e=>?_,I.len⟩
  .rcases abW b z with r|r
   .exact absurd (aj e) (by rw[r];exact Nat.not_lt.mpr I.ok.above)
   .exact hb r
  .obtain⟨sl,e1⟩:=I.base.slot b o e n hb hz;obtain⟨abT,e2⟩:=slot b _ (abg b o e) e1;exact⟨abT,e2⟩
  .obtain⟨o1,e1⟩:=I.base.there b o e hz;obtain⟨abT,e2⟩:=slot b _ (abg b o e) e1;exact⟨_,e2⟩
  .have e1:=I.base.tups b xs e;rw[ap (ca e1 F.free)];exact e1
  .have e1:=I.base.frzs b ob u e;rw[ap (ca e1 F.free)];exact e1
  .obtain⟨m1,e1⟩:=I.base.tbls b ps e;exact⟨m1,by rw[ap (ca e1 F.free)];exact e1⟩
  .obtain⟨m,⟨o,es,ep,ho,r⟩,hl⟩:=I.loc;obtain⟨sl,e2⟩:=slot X.env.locals o afG ho;refine⟨m,⟨_,es,ep,e2,r⟩,λi y v e1 e3 e4=>?_⟩;obtain⟨u,ru,l⟩:=hl i y v e1 e3 e4;refine⟨u,ru,?_⟩;rcases l with l|⟨kk,c,ec,o',X8,XF⟩
   .exact .inl l
   .obtain⟨adr,e5⟩:=slot c o' (adQ y c ec) X8;exact .inr ⟨kk,c,ec,_,e5,XF⟩
  .obtain⟨v,o',X8,XF⟩:=I.cell y c e;obtain⟨adr,e5⟩:=slot c o' (adQ y c e) X8;exact⟨v,_,e5,XF⟩
  .obtain⟨e,n,ne,nf,d⟩:=I.pin p hp;refine⟨keep p.1 p.2 (np p hp) (λz=>?_) e,by rw[ap (np p hp)];exact n,ne,nf,d⟩;rcases abW p.1 z with r|r
   .exact ne r
   .exact nf r
  .by_cases ha:a=x
   .subst ha;rw[bv] at e;cases e;exact FR ex ((Obj.cls_mapFields _ _).trans hc) dict (cx hd _)
   .rw[ap ha] at e;refine(I.hok a o e).stay (λb u hb q=>?_) (λb q=>by rw[ap (ca q F.free)];exact q) λb xs q=>by rw[ap (ca q F.free)];exact q
    rcases hb with z|z
    .rw[z] at q ⊢;exact tr a o e u q
    .exact tr b _ z u q
 .rw[Array.getElem?_setIfInBounds_self];rw[ae (cy.mp h1).1]
 .obtain⟨oT,ts,e1,e2,e3⟩:=eT;exact⟨T,oT,ts,rfl,neT,e1,e2,e3⟩
end
noncomputable def mO(n:Nat):St:=List.replicate n none
theorem K4{n i:Nat}{v:V}(h:(mO n)[i]?=some (some v)):False:=by
 unfold mO at h;rw[List.getElem?_replicate] at h;split at h<;>cases h
def mK.gone(D:mK):mK:={nx:=λU H=>D.nx (U.map λ_=>none) H,rt:=D.rt,bk:=λU H=>D.bk (U.map λ_=>none) H,ct:=λU H=>D.ct (U.map λ_=>none) H}
def K5(n i:Nat)(C:cS)(th:TS)(D:mK):XK:=λ_ d H'=>∃dx,d=some dx/\∀x vs,H' x=none->dx≠x->th D.gone ((mO n).set i (some (.ref x))) (upd H' x (XO x C (some dx) vs))
def MX(n i:Nat)(C:cS)(tb:XK->TS)(th:TS):TS:=λD U H=>tb (K5 n i C th D) D U H
section
variable{X:Cx}{C fI:cS}{as:List Str}{cn:Str}{np Yp pos:Pos}{body ZJ:List Stmt}{b0:Stmt}{th:TS}{tb:XK->TS}{outer:List Env}
theorem SP.ofTry(h:SP (X.tryC pins W) XS D f s):SP X pins D f s:=by
 cases f with
 | next=>obtain⟨U',H',I,q⟩:=h;exact⟨U',H',I.ofTry,q⟩
 | brk=>obtain⟨U',H',I,q⟩:=h;exact⟨U',H',I.ofTry,q⟩
 | cont=>obtain⟨U',H',I,q⟩:=h;exact⟨U',H',I.ofTry,q⟩
 | ret u=>obtain⟨v,U',H',I,r,q⟩:=h;exact⟨v,U',H',I.ofTry,r,q⟩
theorem SP.ofHnd(ok:X.Ok)(h:SP (X.hndC pins x) XS D f s):SP X pins D f s:=by
 cases f with
 | next=>obtain⟨U',H',I,q⟩:=h;exact⟨U',H',I.ofHnd ok,q⟩
 | brk=>obtain⟨U',H',I,q⟩:=h;exact⟨U',H',I.ofHnd ok,q⟩
 | cont=>obtain⟨U',H',I,q⟩:=h;exact⟨U',H',I.ofHnd ok,q⟩
 | ret u=>obtain⟨v,U',H',I,r,q⟩:=h;exact⟨v,U',H',I.ofHnd ok,r,q⟩
theorem SP.name_goes(hl:X.env.kindOf n=some .local)(h:SP X pins D.gone f s):wpAny M A (do bindName X.env n .none;unbindBehindTheSuite X.env n p) (λ_ s'=>SP X pins D f s') E s:=by
 have any:∀{U':St} {H':Hp} {R:cU->Prop},cY X pins U' H' s->(∀s',cY X pins (U'.map λ_=>none) H' s'->R s')->wpAny M A (do bindName X.env n .none;unbindBehindTheSuite X.env n p) (λ_ s'=>R s') E s:=λI k=>by
  obtain⟨m,hn,_⟩:=I.loc;refine wpAny_nameGoes hl hn (by rw[I.ok.kind];rfl) λh' m' Zg hs=>?_;exact k _ (I.blank Zg hs)
 cases f with
 | next=>obtain⟨U',H',I,q⟩:=h;exact any I λs' I'=>⟨_,H',I',q⟩
 | brk=>obtain⟨U',H',I,q⟩:=h;exact any I λs' I'=>⟨_,H',I',q⟩
 | cont=>obtain⟨U',H',I,q⟩:=h;exact any I λs' I'=>⟨_,H',I',q⟩
 | ret u=>obtain⟨v,U',H',I,r,q⟩:=h;exact any I λs' I'=>⟨v,_,H',I',r,q⟩
theorem Gq{i:Nat}{n:Str}(T:rS X.K C fI as)(hg:Gl X cn)(hm:X.mg cn=some (.ref C))(hex:X.ex=[])(Xf:X.stack=X.env::X.outer)(Yl:X.env.frame=some X.env.locals)(hN:X.N.Nodup)(hi:X.N[i]?=some n)(hl:X.env.kindOf n=some .local)(hb:∀pins D,kK (X.tryC pins (CW X pins C (K5 X.N.length i C th D))) body (tb (K5 X.N.length i C th D)))(hh:∀pins x,kK (X.hndC pins x) (b0::ZJ) th)(XI:(cn==("__debug__":Str))=false:=by decide):PS X (.Try body [.ExceptHandler (some (.Name cn np)) (some n) (b0::ZJ) Yp] [] [] pos) (MX X.N.length i C tb th):=by
 intro pins s U H D I h;refine wpAny_Try_except (aK (hb pins D [] s U H D I.toTry h) (λf s1 q=>?_) λe s1 q=>?_)
 .cases f with
  | next=>exact wpAny_execs_nil (SP.ofTry q)
  | brk=>exact SP.ofTry q
  | cont=>exact SP.ofTry q
  | ret u=>exact SP.ofTry q
 .obtain⟨x,dx,U',H',rfl,I',F,adR,Yf,hE,adS⟩:=q;cases hE;refine MW hex Xf Yl rfl I' F adR λh2 vs tbv I2 h1 ht=>?_;have I3:cY X pins (mO X.N.length) (upd H' x (XO x C (some dx) vs)) {s1 with heap:=h2}:=I2.weak (by rw[I2.len];exact List.length_replicate) λi v z=>(K4 z).elim;obtain⟨oe,o1,o2,o3,o4⟩:=tz I3.hok bv;refine wpAny_handleBy_cons (codeAny_handlers_test (jP (X:=X.hndC pins x) I3.toHnd hg hm ?_ XI)) (by intro z;cases z);obtain⟨nm,qn,N,bs,sn,sub,ab,col,dd,k0,k1,k2,k3,k5,mN,oI,hC,_⟩:=T.at I3.kIn;refine wpAny_excMatches_sub_self hC o1 o2 (by decide) ?_;refine codeAny_handlers_suite_as (Eh o1 o4 h1 ht ?_);refine pG (X:=X.hndC pins x) I3.toHnd hN hi (.inl hl) (v:=.ref x) rfl (λs4 I4=>?_) (.inr hl);refine aK (hh pins x [] s4 _ _ D.gone I4 (adS x vs F.free F.ne)) (λf s5 q=>?_) λ_ _ z=>False.elim z;exact SP.name_goes hl (SP.ofHnd I.ok q)
end
def eB(mg:Str->Option Value)(x:Str)(i:Int):Prop:=∃t,mg x=some (.int i t)
def tD(mg:Str->Option Value)(x:Str)(y:Str):Prop:=∃t,mg x=some (.str y t)
structure lm(K:cV)(mg:Str->Option Value)(x:Str)(k:cS)(xs:List V):Prop where
 mg_:mg x=some (.ref k)
 tup:∃(o:Obj)(Xa:Array Value)(n:Nat),K.lookup k=some o/\o.cls=.type "tuple"/\o.data=.seq Xa n/\Xa.size<=sizeLine/\dM xs Xa.toList
theorem lm.sq{K:cV}{mg:Str->Option Value}{x:Str}{k:cS}{xs:List V}(h:lm K mg x k xs)(H:Hp):jk K H k xs:=.inr h.tup
section
variable{X:Cx}{x:Str}{pos:Pos}
theorem PL(h:lm X.K X.mg x k xs)(hg:Gl X x:=by rfl)(hd:(x==("__debug__":Str))=false:=by decide):PE X (.Name x pos) (tC (.ref k)):=sX hg h.mg_ rfl hd
theorem Ei(h:X.mg x=some (.ref k))(hg:Gl X x:=by rfl)(hd:(x==("__debug__":Str))=false:=by decide):PE X (.Name x pos) (tC (.ref k)):=sX hg h rfl hd
theorem dA(h:eB X.mg x i)(hg:Gl X x:=by rfl)(hd:(x==("__debug__":Str))=false:=by decide):PE X (.Name x pos) (tC (.int i)):=
 let ⟨t,e⟩:=h;sX hg e ⟨t,rfl⟩ hd
theorem iz(h:tD X.mg x y)(hg:Gl X x:=by rfl)(hd:(x==("__debug__":Str))=false:=by decide):PE X (.Name x pos) (tC (.str y)):=
 let ⟨t,e⟩:=h;sX hg e ⟨t,rfl⟩ hd
end
structure di(K:cV)(mg:Str->Option Value)(x:Str)(st:Stmt)(ps:List Str)(f:cS)(fd:cT):Prop where
 mg_:mg x=some (.ref f)
 fn:md K x x st f fd
 bd:gW K fd ps []
structure d6(K:cV)(C:cS)(x qual:Str)(st:Stmt)(ps:List Str)(f:cS)(fd:cT):Prop where
 me:KL K C x f
 fn:md K x qual st f fd
 bd:gW K fd ps []
structure gX(K:cV)(mg:Str->Option Value)(C:cS)(x:Str)(fs:List Str):Prop where
 mg_:mg x=some (.ref C)
 cl:sZ K C
 na:∀f∈fs,iy K C f
structure iF(K:cV)(C:cS)(qual:Str)(st:Stmt)(ps:List Str)(f:cS)(fd:cT):Prop where
 made:Mk K C f
 fn:md K "__init__" qual st f fd
 bd:gW K fd ps []
section
variable{X:Cx}{CX:pJ}{k j:Nat}{f C:cS}{fd:cT}{ps fs:List Str}{sp:Sp}{E:XK}{x m qual cn:Str}{st:Stmt}{p pos apos:Pos}{e o:Expr}{es:List Expr}{ta:TE}{t:TA}
theorem df(D:di X.K X.mg x st ps f fd)(G:eS X.prog X.w X.K X.mg X.base CX k f fd ps sp)(hr:eJ j X.A)(hx:g0 CX X E)(ha:PA X (e::es) t)(hk:k<=j:=by decide)(hg:Gl X x:=by rfl)(XI:(x==("__debug__":Str))=false:=by decide)(he:starEach (e::es) X.env=(false,eval e X.env)::starEach es X.env:=by rfl)(Xj:(backTo pos (starEach es X.env)).any (·.1)=false:=by rfl):PE X (.Call (.Name x p) (e::es) [] pos) (ma sp [] E t):=Qk G (hr.mono hk) hg D.mg_ D.fn.kp D.bd .nil hx ha XI he Xj
theorem RX(D:di X.K X.mg x st ps f fd)(G:eS X.prog X.w X.K X.mg X.base CX k f fd ps sp)(hr:eJ j X.A)(hx:g0 CX X E)(hk:k<=j:=by decide)(hg:Gl X x:=by rfl)(XI:(x==("__debug__":Str))=false:=by decide):PE X (.Call (.Name x p) [] [] pos) (ma sp [] E gv):=Od G (hr.mono hk) hg D.mg_ D.fn.kp D.bd .nil hx XI
theorem dh(he:PE X o ta)(c:gX X.K X.mg C cn fs)(D:d6 X.K C m qual st ps f fd)(G:eS X.prog X.w X.K X.mg X.base CX k f fd ps sp)(hr:eJ j X.A)(hx:g0 CX X E)(ha:PA X (e::es) t)(hk:k<=j:=by decide)(Xf:starEach (e::es) X.env=(false,eval e X.env)::starEach es X.env:=by rfl)(Xj:(backTo pos (starEach es X.env)).any (·.1)=false:=by rfl)(ht:eval (.Call (.Attribute o m apos) (e::es) [] pos) X.env=(do let ov ←eval o X.env;standAt apos.atName;let (f,first) ←holding [ov] (getMethod ov m pl);callWith pos f first (backTo pos (starEach (e::es) X.env)) (backToKw pos (keywordEach [] X.env))):=by rfl):PE X (.Call (.Attribute o m apos) (e::es) [] pos) (m6 C m sp [] E ta t):=Ql he c.cl D.me G (hr.mono hk) D.bd .nil hx ha Xf Xj ht
theorem d7(he:PE X o ta)(c:gX X.K X.mg C cn fs)(D:d6 X.K C m qual st ps f fd)(G:eS X.prog X.w X.K X.mg X.base CX k f fd ps sp)(hr:eJ j X.A)(hx:g0 CX X E)(hk:k<=j:=by decide)(ht:eval (.Call (.Attribute o m apos) [] [] pos) X.env=(do let ov ←eval o X.env;standAt apos.atName;let (f,first) ←holding [ov] (getMethod ov m pl);callWith pos f first (backTo pos (starEach [] X.env)) (backToKw pos (keywordEach [] X.env))):=by rfl):PE X (.Call (.Attribute o m apos) [] [] pos) (m6 C m sp [] E ta gv):=Oe he c.cl D.me G (hr.mono hk) D.bd .nil hx ht
theorem fQ(c:gX X.K X.mg C x fs)(D:iF X.K C qual st ps f fd)(G:eS X.prog X.w X.K X.mg X.base CX k f fd ps sp)(hr:eJ j X.A)(hx:g0 CX X E)(ha:PA X (e::es) t)(hk:k+1<=j:=by decide)(hg:Gl X x:=by rfl)(XI:(x==("__debug__":Str))=false:=by decide)(he:starEach (e::es) X.env=(false,eval e X.env)::starEach es X.env:=by rfl)(Xj:(backTo pos (starEach es X.env)).any (·.1)=false:=by rfl):PE X (.Call (.Name x p) (e::es) [] pos) (qN C sp [] E t):=Qm D.made G (hr.mono hk) hg c.mg_ D.bd .nil hx ha XI he Xj
theorem RY(c:gX X.K X.mg C x fs)(D:iF X.K C qual st ps f fd)(G:eS X.prog X.w X.K X.mg X.base CX k f fd ps sp)(hr:eJ j X.A)(hx:g0 CX X E)(hk:k+1<=j:=by decide)(hg:Gl X x:=by rfl)(XI:(x==("__debug__":Str))=false:=by decide):PE X (.Call (.Name x p) [] [] pos) (qN C sp [] E gv):=Of D.made G (hr.mono hk) hg c.mg_ D.bd .nil hx XI
end
def MY(f:cS)(sp:Sp)(E:XK)(tn:TE)(t:TA):TE:=λU H Q=>tn U H λv H0=>v=.ref f/\t U H0 λvs H1=>sp vs H1 Q E
section
variable{X:Cx}{CX:pJ}{k:Nat}{f C:cS}{fd:cT}{ps:List Str}{sp:Sp}{E:XK}{x:Str}{p pos:Pos}{e:Expr}{es:List Expr}{tn:TE}{t:TA}
theorem MZ(G:eS X.prog X.w X.K X.mg X.base CX k f fd ps sp)(hr:eJ k X.A)(hn:PE X (.Name x p) tn)(hk:PySem.W.keepIn X.K (.ref f)=true)(hb:gW X.K fd ps [])(hx:g0 CX X E)(ha:PA X (e::es) t)(he:starEach (e::es) X.env=(false,eval e X.env)::starEach es X.env:=by rfl)(Xj:(backTo pos (starEach es X.env)).any (·.1)=false:=by rfl):PE X (.Call (.Name x p) (e::es) [] pos) (MY f sp E tn t):=by
 intro pins s U H Q I h;refine wpAny_Call_Name_kw (dJ (hn pins s U H _ I h) λu s0 ⟨v,H0,I0,rv,ev,q0⟩=>?_);subst ev;obtain rfl:u=Value.ref f:=rv;refine bK (h₀:=X.base) I.ok.mod.kin hk (dJ (ha pos pins s0 U H0 _ I0 q0) λus s1 ⟨vs,H1,I1,r,q⟩=>⟨I1.kIn,?_⟩) he Xj;exact wo G hr hb (dvs:=[]) .nil hx I1 r (by rw[aZ];exact q)
end
theorem J7(h:i.natAbs<2^n):Builtin.Int.intBits i<=n:=by
 unfold Builtin.Int.intBits;split
 .exact aI _
 .rename_i z;have nz:i.natAbs≠0:=λq=>z (by rw[Int.natAbs_eq_zero.mp q];rfl);have:=(Nat.log2_lt nz).mpr h
  lia
def FS(i j:Int):Prop:=i.natAbs<2^100000/\j.natAbs<2^100000
theorem FS.ok(h:FS i j):IntMulOk i j:=
 .of_bits (aA (J7 h.1) (by decide)) (aA (J7 h.2) (by decide))
def PM(_ j:Int):Prop:=0<j/\j.natAbs<2^9000
theorem EN(h:j.natAbs<2^9000):Builtin.divisionGoesByPylong i j=false:=by
 unfold Builtin.divisionGoesByPylong;have e:((if(j==0)=true then 0 else j.natAbs.log2 / 30+1)>300)=False:=by
  apply eq_false;split
  .lia
  .rename_i z;have nz:j.natAbs≠0:=λq=>z (by rw[Int.natAbs_eq_zero.mp q];rfl);have:=(Nat.log2_lt nz).mpr h
   lia
 simp only[e];rfl
section
variable{X:Cx}
theorem kh:ii X (binaryOp .Mult) (rI FS λi j=>.int (i*j)):=Pn λ_ _ _ _ _ _ _ hc q=>mul_int q hc.ok
theorem uE:ii X (inplaceOp .Mult) (rI FS λi j=>.int (i*j)):=Pn λ_ _ _ _ _ _ _ hc q=>imul_int q hc.ok
theorem uF:ii X (binaryOp .FloorDiv) (rI PM λi j=>.int (i / j)):=Pn λi j _ _ _ _ _ hc q=>by
 have h1:(0:Int)<j:=hc.1;exact floordiv_int (by lia) (by rw[Int.fdiv_eq_ediv_of_nonneg i (by lia)];exact q) (.inl (EN hc.2))
end
def RZ(K:cV):R2:=λx y H Q=>JL x y H Q∨∃p xs z,x=.ref p/\y=.str z/\jk K H p xs/\Q (.bl false) H
theorem R0(hu:X.A.units+64<cLine):ii X (compareOp .Eq) (RZ X.K):=by
 intro pins s U H x y v u Q I rx ry h;rcases h with h|⟨p,xs,z,rfl,rfl,hq,q⟩
 .exact qM pins s U H x y v u Q I rx ry h
 .cases rx;obtain⟨t,rfl⟩:=ry;obtain⟨Xa,rv,ht,hz⟩:=I.tuple hq;have:=SeqAt.RcAt.tuple_str z t ht (aN (bU _ _) hu);exact this _ _ _ _ ⟨.bl false,H,I,rfl,q⟩
structure Gr(K:cV)(mg:Str->Option Value)(x:Str)(k:cS)(kvs:List (fb×V)):Prop where
 mg_:mg x=some (.ref k)
 ns:(k==sysModules)=false
 dic:∀(P:Program)(w:World)(h:Heap),K.In h->∃vs,KV kvs vs/\h.DictOf (fZ P w) k vs
structure Gs(K:cV)(mg:Str->Option Value)(x:Str)(k:cS)(kvs:List (List fb×V)):Prop where
 mg_:mg x=some (.ref k)
 ns:(k==sysModules)=false
 dic:∀(P:Program)(w:World)(h:Heap),K.In h->∃xs:List (List fb×cS×Value),h.DictOfH (tupleKind (fZ P w)) k xs/\Paired (λ(p:List fb×V) (q:List fb×cS×Value)=>p.1=q.1/\dR p.2 q.2.2) kvs xs
theorem M0(r:Paired (λ(p:List fb×V) (q:List fb×cS×Value)=>p.1=q.1/\dR p.2 q.2.2) kvs xs)(k:List fb):iD (ft kvs k) ((atKey xs k).map (·.2)):=by
 induction r with
 | nil=>exact True.intro
 | @cons p q ps qs h t ih=>
  obtain⟨h1,h2⟩:=h;by_cases e:p.1=k
  .have e':q.1=k:=h1.symm.trans e;have b:atKey (q::qs) k=some q.2:=by simp[atKey,bC,e']
   rw[iq e,b];exact h2
  .have e':¬q.1=k:=λz=>e (h1.trans z);have b:atKey (q::qs) k=atKey qs k:=by simp[atKey,bC,e']
   rw[gf e,b];exact ih
section
variable{X:Cx}{x:Str}{k:cS}
def UD(k:cS)(kvs:List (fb×V)):R2:=λx y H Q=>∃i,x=kV i/\y=.ref k/\Q (.bl (ft kvs i).isSome) H
theorem Sa(D:Gr X.K X.mg x k kvs):ii X (compareOp .In) (UD k kvs):=by
 intro pins s U H x y v u Q I rx ry h;obtain⟨i,rfl,rfl,q⟩:=h;obtain rfl:u=Value.ref k:=ry;obtain⟨vs,rel,dd⟩:=D.dic X.prog X.w s.heap I.kIn;refine wpAny_in_of (uz rx) D.ns dd.mapOf ?_;rw[←(rel.val i).isSome_eq];exact⟨.bl (ft kvs i).isSome,H,I.tok _,rfl,q⟩
def UE(k:cS)(kvs:List (List fb×V)):R2:=λx y H Q=>∃b ks,x=.ref b/\H b=some (.tup (ks.map kV))/\y=.ref k/\Q (.bl (ft kvs ks).isSome) H
theorem Sb(hu:X.A.units+1<cLine)(D:Gs X.K X.mg x k kvs):ii X (compareOp .In) (UE k kvs):=by
 intro pins s U H x y v u Q I rx ry h;obtain⟨b,ks,rfl,hb,rfl,q⟩:=h;obtain rfl:u=Value.ref k:=ry;obtain rfl:v=Value.ref b:=rx;obtain⟨xs,dd,rel⟩:=D.dic X.prog X.w s.heap I.kIn;refine wpAny_in_heap (tupleKind_room_in1 hu) (pM I.hok hb) D.ns dd ?_;have z:=(M0 rel ks).isSome_eq;rw[Option.isSome_map] at z;rw[←z];exact⟨.bl (ft kvs ks).isSome,H,I.tok _,rfl,q⟩
variable{o i:Expr}{pos:Pos}{td ty:TE}
def Ts(k:cS)(kvs:List (fb×V)):R2:=λx y H Q=>∃i v,x=.ref k/\y=kV i/\ft kvs i=some v/\Q v H
theorem Qy(D:Gr X.K X.mg x k kvs)(ho:PE X o td)(hi:PE X i ty)(hs:KQ i):PE X (.Subscript o i pos) (kM (Ts k kvs) td ty):=by
 intro pins s U H Q I h;refine Cj cM.lookup hs (dJ (ho pins s U H _ I h) λu s1 ⟨x,H1,I1,rx,q1⟩=>dJ (hi pins s1 U H1 _ I1 q1) λiv s2 ⟨y,H2,I2,ry,j,v,ex,ey,l,q2⟩=>?_);subst ex ey;obtain rfl:u=Value.ref k:=rx;obtain⟨vs,rel,dd⟩:=D.dic X.prog X.w s2.heap I2.kIn;obtain⟨w',hw,YW⟩:=iD.some_of (v:=v) (o:=valueAt vs j) (by rw[←l];exact rel.val j);exact⟨dd.typeIs,wpAny_getItem_of (uz ry) dd.mapOf hw ⟨v,H2,I2.tok _,YW,q2⟩⟩
def Tt(k:cS)(kvs:List (List fb×V)):R2:=λx y H Q=>∃b ks v,x=.ref k/\y=.ref b/\H b=some (.tup (ks.map kV))/\ft kvs ks=some v/\Q v H
theorem Qz(hu:X.A.units+1<cLine)(D:Gs X.K X.mg x k kvs)(ho:PE X o td)(hi:PE X i ty)(hs:KQ i):PE X (.Subscript o i pos) (kM (Tt k kvs) td ty):=by
 intro pins s U H Q I h;refine Cj cM.lookup hs (dJ (ho pins s U H _ I h) λu s1 ⟨x,H1,I1,rx,q1⟩=>dJ (hi pins s1 U H1 _ I1 q1) λiv s2 ⟨y,H2,I2,ry,b,ks,v,ex,ey,hb,l,q2⟩=>?_);subst ex ey;obtain rfl:u=Value.ref k:=rx;obtain rfl:iv=Value.ref b:=ry;obtain⟨xs,dd,rel⟩:=D.dic X.prog X.w s2.heap I2.kIn;obtain⟨w',hw,YW⟩:=iD.some_of (v:=v) (o:=(atKey xs ks).map (·.2)) (by rw[←l];exact M0 rel ks);obtain⟨p,hp,XQ⟩:=cw.mp hw;refine⟨dd.typeIs,wpAny_getItem_heap (tupleKind_room_in1 hu) (pM I2.hok hb) dd hp ?_⟩;rw[XQ];exact⟨v,H2,I2.tok _,YW,q2⟩
end
end L2
namespace PySem
open Sem (wp)
namespace F
theorem nolen_lri:typeLookup (.type "list_reverseiterator") "__len__"=pure none:=by rw[typeLookup_type,builtinLookup_eq_fast];kernel_rfl
theorem hint_lri:typeLookup (.type "list_reverseiterator") "__length_hint__"=pure (some (.builtin "list_reverseiterator.__length_hint__")):=by rw[typeLookup_type,builtinLookup_eq_fast];kernel_rfl
end F
section
variable{prog:Program}{w:World}{A:Around}{s:cU}{R:Result->cU->Prop}{E:Value->cU->Prop}
variable{I:cS}{fp wr:List cS}{G:Array GenState->Array GenState->Prop}{n:Nat}{P:Nat->Value->Prop}{St:Nat->cU->Prop}
theorem zS(W:WalksS prog w A.in1 I fp wr G n P St)(hT:∀i s,St i s->s.TypeIs (.ref I) "list_reverseiterator")(S:cS)(res:Value)(c₀:Nat)(Xf:St 0 s)(aaI:S∉fp)(hI:I∈fp)(hS:s.heap.get? S=some {cls:=.type "list",data:=.seq #[] c₀})(hR:∀s' X7 c',Moved (S::wr) G s s'->s'.heap.get? S=some {cls:=.type "list",dict:=none,data:=.seq X7 c',slots:=#[]}->ItemsOf P X7 n->R (.ok (.ret res)) s')(hn:n<=sizeLine:=by size_fits):wpAny (model prog w) A.in1 (Builtin.List.listExtendWith (.ref S) (.ref I) res) (λfin s'=>match fin with|.done f=>R (.ok f) s'|.again c'=>c'.quiet=true/\codeAny (model prog w) A c' R s') (λe s'=>R (.error e) s') s:=by
 have hSI:S≠I:=λe=>aaI (e▸hI);unfold Builtin.List.listExtendWith;refine ag (wpAny_typeOf (hT 0 _ Xf) ?_);have h1:Builtin.List.listSameRef (.ref S) (.ref I)=false:=by simp[Builtin.List.listSameRef,hSI]
 have h2:(Value.type "list_reverseiterator"== Value.type "list")=false:=by decide
 have h3:(Value.type "list_reverseiterator"== Value.type "tuple")=false:=by decide
 simp only[h1,h2,h3,Bool.or_false,bo,if_false];refine ag (W.self 0 _ _ _ Xf ?_);refine ag (wpAny_holding ?_);unfold Builtin.List.listLengthHint;refine ag (wpAny_specialOf (hT 0 _ Xf) F.nolen_lri ?_);show wpAny _ A.in1 (specialOf (Value.ref I) (Str.ofString "__length_hint__") >>= _) _ _ _;refine ag (wpAny_specialOf (hT 0 _ Xf) F.hint_lri ?_);generalize afH:("list_reverseiterator.__length_hint__":String)=id0
 wp_delta
 rw[show splitId id0=some ("list_reverseiterator","__length_hint__") from by subst afH;rfl'];subst afH;refine ag (wpAny_isInstance (b:=true) (hT 0 _ Xf) (by rw[isSubtype_type];kernel_rfl) ?_);refine wpAny_pure ?_;rw[aa (by decide)];exact wpAny_pure ⟨plainId_quiet F.plain_extend_loop _,codeAny_extend_loopS W hn _ aaI _ n 0 _ _ _ rfl (aI _) Xf hS (ItemsOf.nil P) λs' X7 c' hm aac aaJ=>hR s' X7 c' hm aac aaJ⟩
theorem vY(W:WalksS prog w A.in1 I fp wr G n P St)(hT:∀i s,St i s->s.TypeIs (.ref I) "list_reverseiterator")(S:cS)(Xf:St 0 s)(aaI:S∉fp)(hI:I∈fp)(hS:s.heap.get? S=some {cls:=.type "list",data:=.seq #[]})(hR:∀s' X7 c',Moved (S::wr) G s s'->s'.heap.get? S=some {cls:=.type "list",dict:=none,data:=.seq X7 c',slots:=#[]}->ItemsOf P X7 n->R (.ok (.ret .none)) s')(hn:n<=sizeLine:=by size_fits):wpAny (model prog w) A.in1 (Builtin.«list.__init__» ⟨[.ref S,.ref I],[]⟩) (λfin s'=>match fin with|.done f=>R (.ok f) s'|.again c'=>c'.quiet=true/\codeAny (model prog w) A c' R s') (λe s'=>R (.error e) s') s:=by
 show wpAny _ A.in1 (do let old ←Builtin.List.listItems (.ref S);Builtin.List.listUpdate (.ref S) (λ_=>#[]);letGo old.toList.reverse;Builtin.List.listExtendWith (.ref S) (.ref I) .none) _ _ s;refine ag ?_;unfold Builtin.List.listItems;refine ag (wpAny_seqItems hS rfl (wpAny_pure ?_));show wpAny _ A.in1 (updateSeq S (λ_=>#[]) >>= λ_=>letGo (#[]:Array Value).toList.reverse >>= λ_=>Builtin.List.listExtendWith (.ref S) (.ref I) .none) _ _ s;refine ag (wpAny_updateSeq hS rfl ?_);have hS₂:=cB (Obj.mapSeq (λ_=>(#[]:Array Value))) hS rfl;have afI:∀b o,b≠S->s.heap.get? b=some o->(s.heap.update S (Obj.mapSeq (λ_=>(#[]:Array Value)))).get? b=some o:=
  λb o hb e=>(bB _ _ (Ne.symm hb)).trans e
 refine ag (wpAny_letGo ?_);refine zS (hn:=hn) W hT S .none _ (W.frame 0 s _ s.toks Xf (ah _) λb hb o e=>afI b o (λh=>aaI (h▸hb)) e) aaI hI hS₂ λs' X7 c' hm aac aaJ=>?_;exact hR s' X7 c' (Moved.trans W.gtrans ((Moved.refl W.grefl).then_heap (ah _) λb o hb e=>afI b o (λh=>hb (h▸aU)) e) hm) aac aaJ
theorem EO(hh:A.handled=none)(XV:l≠I)(hl:s.heap.IsList l items)(hit:s.heap.IsRevIter I l ((items.size:Int)-1))(hn:items.size<=sizeLine)(hQ:∀h' tk X7 c',(∀b o,b≠I->s.heap.get? b=some o->h'.get? b=some o)->h'.get? s.heap.objs.size=some {cls:=.type "list",dict:=none,data:=.seq X7 c',slots:=#[]}->ItemsOf (λi v=>items[items.size-1-i]?=some v) X7 items.size->Q (.ref s.heap.objs.size) {s with heap:=h',toks:=tk}):wpAny (model prog w) A (call (.type "list") [.ref I]) Q E s:=by
 have W:=(Walks.listRev (prog:=prog) (w:=w) (A:=A.in1.in1) hh I l XV items).toS;have hIs:I<s.heap.objs.size:=let ⟨o,ho,_⟩:=hit;aj ho;have hls:l<s.heap.objs.size:=let ⟨o,ho,_⟩:=hl;aj ho;have aaI:s.heap.objs.size∉[I,l]:=λhm=>by
  simp at hm;rcases hm with h|h
  .exact a0 _ (h▸hIs)
  .exact a0 _ (h▸hls)
 refine callType_codes (Q₁:=λobj s₁=>obj=.ref s.heap.objs.size/\s₁={s with heap:=s.heap.push {cls:=.type "list",data:=.seq #[]}}) F.called_list (F.typeCall_list_1 _) F.entry_list_init
  (code_list_new _ ⟨rfl,rfl⟩) λobj s₁ h₁=>?_
 obtain⟨rfl,rfl⟩:=h₁;have hS:(s.heap.push {cls:=.type "list",data:=.seq #[]}).get? s.heap.objs.size=some {cls:=.type "list",data:=.seq #[]}:=aM _ rfl;refine⟨⟨_,hS,rfl⟩,F.args_list_init_2 _ _,vY (hn:=hn) W (λi s x=>x.2.1.typeIs) _ ⟨aI _,?_,hl.at λo e=>aB _ e⟩ aaI (by simp) hS λs' X7 c' hm aac aaJ=>?_⟩
 .have e0:(items.size:Int)-1-((0:Nat):Int)=(items.size:Int)-1:=by lia
  rw[e0];exact hit.at λo e=>aB _ e
 .refine⟨rfl,?_⟩;have e:=Moved.eq_with hm;rw[e];refine hQ s'.heap s'.toks X7 c' (λb o hb e=>hm.heap b o (λaaK=>?_) (aB _ e)) aac aaJ;rcases aw.mp aaK with e'|aaK
  .exact absurd (aj e) (by rw[e'];exact a0 _)
  .exact hb (by simpa using aaK)
end
end PySem
namespace L2
open PySem PySem.Spec PyProof.Rows
def K6(x:V)(H1:Hp)(Q:VK):Prop:=∃a xs,x=.ref a/\H1 a=some (.lst xs)/\∀l,H1 l=none->Q (.ref l) (upd H1 l (.lst xs.reverse))
def PN(te:TE):TE:=λU H Q=>te U H λx H1=>K6 x H1 Q
theorem K7:bootBuiltins "list"=some (.type "list"):=by rfl'
theorem Co:bootBuiltins "reversed"=some (.type "reversed"):=by rfl'
theorem M1{Xa:List Value}{acc:Array Value}(h:ItemsOf (λi v=>Xa.toArray[Xa.toArray.size-1-i]?=some v) acc Xa.toArray.size):acc=Xa.reverse.toArray:=by
 obtain⟨h1,h2⟩:=h;apply Array.ext
 .simpa using h1
 .intro i hi hj;have:=h2 i acc[i] (by simp[hi]);rw[aG] at h1 this;rw[List.getElem?_toArray] at this;obtain⟨hk,e⟩:=ax.mp this;rw[←e];simp
theorem AV{X:Cx}{e:Expr}{te:TE}{p p2 pos Zj:Pos}(hc:X.calm=true)(hg:Gl X "list")(hg2:Gl X "reversed")(hm:X.mg "list"=none)(acT:X.mg "reversed"=none)(ha:PE X e te)(hs:starEach [.Call (.Name "reversed" p2) [e] [] Zj] X.env=[(false,eval (.Call (.Name "reversed" p2) [e] [] Zj) X.env)]:=by rfl)(abP:starEach [e] X.env=[(false,eval e X.env)]:=by rfl):PE X (.Call (.Name "list" p) [.Call (.Name "reversed" p2) [e] [] Zj] [] pos) (PN te):=by
 intro pins s U H Q I h;refine wpAny_Call_Name_kw (kL I hg hm K7 (callWith_type1 ?_ hs rfl));rw[hs];show wpAny _ _ (spliced ((false,eval (.Call (.Name "reversed" p2) [e] [] Zj) X.env)::[])) _ _ s;refine cA ?_;refine wpAny_Call_Name_kw (kL I hg2 acT Co (callWith_type1 ?_ abP rfl));rw[abP];show wpAny _ _ (spliced ((false,eval e X.env)::[])) _ _ s;refine cA (dJ (ha pins s U H _ I h) λu s1 ⟨x,H1,I1,r1,q1⟩=>Calls.spliced_nil ?_);obtain⟨a,xs,rfl,hq,q⟩:=q1;cases r1;obtain⟨Xa,rv,p',hz⟩:=I1.list (dU.of hq);have hl:=rv.length;have Xg:a<s1.heap.objs.size:=let ⟨o,ho,_⟩:=p'.isList;aj ho;refine call_reversed_list p'.isList (Calls.spliced_nil ?_);have e1:(s1.heap.push (revObj a ((Xa.toArray.size:Int)-1))).objs.size=s1.heap.objs.size+1:=by simp[Heap.push]
 refine EO (l:=a) (items:=Xa.toArray) (I1.ok.hd hc) (aF Xg) (p'.isList.at λo e=>aB _ e) ⟨_,aM _ rfl,rfl,rfl⟩ (by rw[aG];lia) λh' tk X7 c' kp e hi=>?_;have ea:=M1 hi;subst ea;have YD:∀b o,s1.heap.get? b=some o->h'.get? b=some o:=λb o eo=>kp b o (aF (aj eo)) (aB _ eo);refine⟨.ref (s1.heap.push (revObj a ((Xa.toArray.size:Int)-1))).objs.size,_,I1.laid (t':=tk) YD (by rw[e1];exact Nat.le_succ _) (show eR X.prog X.w _ h' _ (.lst xs.reverse) from ⟨by rw[List.length_reverse];exact hz,Xa.reverse,c',rv.reverse,e⟩),rfl,q _ (I1.hok.fresh (by rw[e1];exact Nat.le_succ _))⟩
structure ki(k:Nat)(A:Around):Prop where
 dp:A.depth+3*k+5<recursionLimit
 un:A.units+16*k+200<cLine
theorem eJ.hnd(r:eJ k A):ki k (A.mark v):=⟨r.dp,r.un⟩
theorem ki.deeper(r:ki (k+1) A)(env:Env):ki k (A.deeper env):=
 ⟨by have:=r.dp;show A.depth+1+3*k+5<_;lia,by have:=r.un;show A.units+3+16*k+200<_;lia⟩
theorem ki.make(r:ki (k+1) A)(C:cS)(us:List Value)(kw:List (Str×Value)):ki k (A.under (.builtin "type.__call__" ⟨.ref C::us,kw⟩)):=
 ⟨by have:=r.dp;rw[AH];lia,by have:=r.un;rw[AI];lia⟩
theorem ki.mono(r:ki k A)(h:j<=k):ki j A:=⟨by have:=r.dp;lia,by have:=r.un;lia⟩
structure K8(P:Program)(w:World)(K:cV)(mg:Str->Option Value)(base:Heap)(k:Nat)(f:cS)(fd:cT)(ps:List Str)(sp:Sp):Prop where
 len:∀vs H Q E,sp vs H Q E->vs.length=ps.length
 run:∀(A:Around)(outer:List Env)(s:cU)(H:Hp)(args:Args)(us:List Value)(vs:List V)(Q:VK)(E:XK),ki k A->mL P w K mg base A outer s H->BindsTo s fd args (ps.zip us)->dM vs us->sp vs H Q E->
  codeAny (model P w) A (.call (.ref f) args) (CR lP outer P w H s Q E) s
abbrev Sc(P:Program)(w:World)(K:cV)(mg:Str->Option Value)(base:Heap)(N:List Str)(qual:Str)(scope:Scope)(f:cS)(cd:Value)(A:Around)(outer:List Env)(s:cU)(H:Hp)(E:XK):Cx:=
 {j7 lP P w K mg base N qual scope f cd A outer s H E with calm:=false,xe:=λ_ _=>False}
section
variable{P:Program}{w:World}{K:cV}{mg:Str->Option Value}{base:Heap}
theorem md.okH{x qual:Str}{st:Stmt}{f:cS}{fd:cT}{N ps:List Str}{k:Nat}{sp:Sp}(F:md K x qual st f fd)(S:jm N ps (dr st))(len:∀vs H Q E,sp vs H Q E->vs.length=ps.length)(Yg:∀(W8:Value)(A:Around)(outer:List Env)(s:cU)(H:Hp)(vs:List V)(Q:VK)(E:XK),ki k (A.deeper (envOfC qual (dr st) s.heap.objs.size f W8))->sp vs H Q E->∃t,kK (Sc P w K mg base N qual (dr st) f W8 A outer s H E) (fA st) t/\t {nx:=λ_ H'=>Q .non H',rt:=Q} (start N vs) H):K8 P w K mg base (k+1) f fd ps sp:=by
 obtain⟨oc,od,kV,doc,pm,an,W8,ct,XU,rfl,lk,YU⟩:=F.ex;refine⟨len,λA outer s H args us vs Q E hr e0 hb r Xn=>?_⟩;have hl:=len _ _ _ _ Xn;have KX:K.In s.heap:=e0.mod.kin.keeps λb o e=>(e0.bs b o e).1;have lim:s.heap.NoLimit:=e0.mod.nolimit.keeps λb o e=>(e0.bs b o e).1;have abw:∀y∈ps.zip us,(dr st).names.lookup y.1=some .local ∨((dr st).names.lookup y.1=some .cell/\((cellsFrom (s.heap.objs.size+1) (dr st).names []).lookup y.1).isSome=true):=λ⟨n,v⟩ hy=>by
  rcases S.par n (bS hy).1 with q|q
  .exact .inl q
  .exact .inr ⟨q,PySem.W.cellsFrom_some _ _ _ (.inl q)⟩
 refine codeAny_call_function (by have:=hr.dp;lia) (KX _ _ lk) rfl S.co S.gen rfl (PySem.W.codeRec_of KX YU) (hb _ _ _ _ ?_);refine wpAny_newFunctionEnv_cells S.kind abw λenv he s1 x=>?_;subst he;refine⟨lim.keeps x.toInCall.keep,codeAny_func ?_⟩;obtain⟨t,ht,hq⟩:=Yg W8 A outer s H vs Q E (hr.deeper _) Xn;have e0':mL P w K mg base {A with handled:=none} outer s H:=⟨e0.frames,e0.mod,e0.bs,e0.bsz,e0.funs,e0.frf,e0.hok,e0.bare⟩;have I0:cY (j7 lP P w K mg base N qual (dr st) f W8 {A with handled:=none} outer s H E) [] (start N vs) H s1:=DY S rfl e0' hl r x;have ok:=I0.ok;have I:cY (Sc P w K mg base N qual (dr st) f W8 A outer s H E) [] (start N vs) H s1:=
  ⟨⟨ok.mod,ok.kind,ok.glob,ok.blt,ok.above,ok.inj,ok.has,ok.cab,(λz=>Bool.noConfusion z),Around.frames_deeper e0.frames,ok.stk,ok.exf,ok.bs,ok.bsz,ok.noex,ok.exfs,ok.funs,ok.frf⟩,I0.os,I0.bare,I0.base,I0.loc,I0.cell,I0.free,I0.freeC,I0.pin,I0.hok,I0.len⟩
 refine aK (ht [] s1 (start N vs) H _ I hq) (λfl s' hs=>?_) λe s' hs=>False.elim hs;have fin:∀{U':St} {H':Hp} {v:V} {u:Value},cY (Sc P w K mg base N qual (dr st) f W8 A outer s H E) [] U' H' s'->dR v u->Q v H'->CE outer P w H s Q u s':=
  λ{U' H' v u} J rv q=>⟨v,H',J.os,J.bare,J.base,J.hok,rv,q⟩
 cases fl with
 | ret u=>
  obtain⟨v,U',H',J,rv,q⟩:=hs;exact fin J rv q
 | next=>
  obtain⟨U',H',J,q⟩:=hs;exact fin (v:=V.non) (u:=Value.none) J rfl q
 | brk=>
  obtain⟨_,_,_,q⟩:=hs;exact False.elim q
 | cont=>
  obtain⟨_,_,_,q⟩:=hs;exact False.elim q
end
section
variable{X:Cx}{k j:Nat}{f C:cS}{fd:cT}{ps fs:List Str}{sp:Sp}{x m qual cn:Str}{st:Stmt}{p pos apos:Pos}{e o:Expr}{es:List Expr}{ta:TE}{t:TA}
theorem Sd(c:gX X.K X.mg C x fs)(D:iF X.K C qual st ps f fd)(F:K8 X.prog X.w X.K X.mg X.base k f fd ps sp)(hr:ki j X.A)(ha:PA X (e::es) t)(hk:k+1<=j:=by decide)(hg:Gl X x:=by rfl)(XI:(x==("__debug__":Str))=false:=by decide)(he:starEach (e::es) X.env=(false,eval e X.env)::starEach es X.env:=by rfl)(Xj:(backTo pos (starEach es X.env)).any (·.1)=false:=by rfl):PE X (.Call (.Name x p) (e::es) [] pos) (qN C sp [] E0 t):=by
 intro pins s0 U H0 Q I0 h0;refine wpAny_Call_Name_kw (jP I0 hg c.mg_ ?_ XI);refine bK (h₀:=X.base) I0.ok.mod.kin D.made.kp (dJ (ha pos pins s0 U H0 _ I0 h0) λus s ⟨vs,H,I,r,h⟩=>⟨I.kIn,?_⟩) he Xj;have hq:=h (s.heap.objs.size+1) s.heap.objs.size (I.hok.fresh (Nat.le_succ _)) (I.hok.fresh (ah _)) (aF (bj _));have I2:=cY.made (C:=C) I;have r2:dM (V.ref (s.heap.objs.size+1)::(vs++[])) (Value.ref (s.heap.objs.size+1)::(us++[])):=.cons rfl (r.append .nil);have hl:(Value.ref (s.heap.objs.size+1)::us++[]).length=ps.length:=by
  have e:=r2.length;rw[F.len _ _ _ _ hq] at e;exact e.symm
 have afJ:=D.bd _ (Value.ref (s.heap.objs.size+1)::us) I2.kIn hl;rw[List.cons_append] at afJ
 refine wpAny_call (F4 (f:=f) I.kIn D.made.makes D.made.init (ba.mp D.made.fn) (bu (F.run _ X.stack _ _ ⟨Value.ref (s.heap.objs.size+1)::us,[]⟩ (Value.ref (s.heap.objs.size+1)::(us++[])) _ _ E0 ((hr.mono hk).make C us [])
  (I2.env0.make C us []) afJ r2 hq) λr s' YV=>?_))
 cases r with
 | error e=>exact False.elim YV
 | ok fl=>
  cases fl with
  | ret u=>
   obtain⟨v,H',I3,rv,ev,q3⟩:=I2.after YV;subst ev;exact⟨rv,⟨V.ref (s.heap.objs.size+1),H',I3,rfl,q3⟩⟩
  | next=>exact False.elim YV
  | brk=>exact False.elim YV
  | cont=>exact False.elim YV
end
def yN(X:Cx)(pins:List (cS×Obj))(C:cS)(U:St)(E:XK):Value->cU->Prop:=λe s'=>∃(x dx:cS)(H':Hp),e=.ref x/\cY X pins U H' s'/\AT X.s_0.heap H' C x dx s'.heap/\(∀p∈X.pn++pins,p.1≠x)/\E (.ref C) (some dx) H'
def tE(C:cS)(th:TS)(D:mK)(U:St):XK:=λ_ d H'=>∃dx,d=some dx/\∀x vs,H' x=none->dx≠x->th D U (upd H' x (XO x C (some dx) vs))
def PP(i:Nat)(C:cS)(sp:Sp)(ta:TA)(th:TS):TS:=λD U H=>ta U H λvs H1=>sp vs H1 (λv H2=>D.nx (U.set i (some v)) H2) (tE C th D U)
theorem QA{X:Cx}{C fI f:cS}{as ps:List Str}{cn fn xn:Str}{np Yp pos p1 aaL Zj px:Pos}{ZJ:List Stmt}{b0:Stmt}{th:TS}{ta:TA}{i k j:Nat}{st:Stmt}{fd:cT}{sp:Sp}{e:Expr}{es:List Expr}(T:rS X.K C fI as)(hg:Gl X cn)(hm:X.mg cn=some (.ref C))(hex:X.ex=[])(Xf:X.stack=X.env::X.outer)(Yl:X.env.frame=some X.env.locals)(Df:di X.K X.mg fn st ps f fd)(F:eS X.prog X.w X.K X.mg X.base (kH X.prog X.w C) k f fd ps sp)(hr:eJ j X.A)(adT:Gl X fn)(ha:∀pins W,PA (X.tryC pins W) (e::es) ta)(hN:X.N.Nodup)(hi:X.N[i]?=some xn)(hl:Az X.env.scope xn)(hf:X.fn xn=true∨X.env.scope.names.lookup xn=some .local)(hh:∀pins x,kK (X.hndC pins x) (b0::ZJ) th)(hk:k<=j:=by decide)(XI:(cn==("__debug__":Str))=false:=by decide)(abc:(fn==("__debug__":Str))=false:=by decide)(hs:swapsWith (.Call (.Name fn p1) (e::es) [] aaL) (some (.Name xn px)) Zj.line X.env=pure false:=by rfl)(he:starEach (e::es) X.env=(false,eval e X.env)::starEach es X.env:=by rfl)(Xj:(backTo aaL (starEach es X.env)).any (·.1)=false:=by rfl):PS X (.Try [.Assign [.Name xn px] (.Call (.Name fn p1) (e::es) [] aaL) Zj] [.ExceptHandler (some (.Name cn np)) none (b0::ZJ) Yp] [] [] pos) (PP i C sp ta th):=by
 intro pins s U H D I h;refine wpAny_Try_except (aK (Q:=SP (X.tryC pins (yN X pins C U (tE C th D U))) [] D) (E:=yN X pins C U (tE C th D U)) ?body (λf s1 q=>?_) λe s1 q=>?_)
 case body=>
  have IT:cY (X.tryC pins (yN X pins C U (tE C th D U))) [] U H s:=I.toTry;have afj:wpAny (model X.prog X.w) X.A (exec (.Assign [.Name xn px] (.Call (.Name fn p1) (e::es) [] aaL) Zj) X.env) (SP (X.tryC pins (yN X pins C U (tE C th D U))) [] D) (yN X pins C U (tE C th D U)) s:=by
   refine wpAny_Assign_Name (Q:=SP (X.tryC pins (yN X pins C U (tE C th D U))) [] D) (dJ (Q:=EP (X.tryC pins (yN X pins C U (tE C th D U))) [] U (λv H2=>D.nx (U.set i (some v)) H2)) ?_ λv s1 ⟨y,H1,I1,r1,q1⟩=>?_) hs
   .refine wpAny_Call_Name_kw (jP (X:=X.tryC pins (yN X pins C U (tE C th D U))) IT adT Df.mg_ ?_ abc);refine bK (h₀:=X.base) I.ok.mod.kin Df.fn.kp (dJ (ha pins (yN X pins C U (tE C th D U)) aaL [] s U H _ IT h) λus s1 ⟨vs,H1,I1,r,q⟩=>⟨I1.kIn,?_⟩) he Xj;have r2:dM (vs++[]) (us++[]):=r.append .nil;have q':sp (vs++[]) H1 (λv H2=>D.nx (U.set i (some v)) H2) (tE C th D U):=(by rw[aZ];exact q);have hl:(us++[]).length=ps.length:=(by rw[←r2.length];exact F.len _ _ _ _ q');refine wpAny_call (bu (F.run X.A X.stack s1 H1 ⟨us,[]⟩ (us++[]) (vs++[]) _ _ (hr.mono hk) I1.env0 (Df.bd s1 us I1.kIn hl) r2 q') λr s' hq=>?_);cases r with
    | error e=>
     obtain⟨x,dx,H',rfl,os,bare,un,hok,Fl,hE⟩:=hq;have I':=I1.call' os un hok bare (λ_ z=>nomatch z);exact⟨x,dx,H',rfl,I'.ofTry,⟨I1.young hex Fl.new,Fl.free,Fl.ne,Fl.obj⟩,(λp hp z=>by have e:=(I1.ofTry.pin p hp).1;rw[z,Fl.new] at e;cases e),hE⟩
    | ok fl=>
     cases fl with
     | ret u=>exact I1.after hq
     | next=>exact False.elim hq
     | brk=>exact False.elim hq
     | cont=>exact False.elim hq
   .exact pG (X:=X.tryC pins (yN X pins C U (tE C th D U))) I1 hN hi hl r1 (λs2 I2=>⟨_,H1,I2,q1⟩) hf
  refine wpAny_execs_cons (dJ afj λf s1 q=>?_);cases f with
  | next=>exact wpAny_execs_nil q
  | ret v=>exact q
  | brk=>exact q
  | cont=>exact q
 .cases f with
  | next=>exact wpAny_execs_nil (SP.ofTry q)
  | brk=>exact SP.ofTry q
  | cont=>exact SP.ofTry q
  | ret u=>exact SP.ofTry q
 .obtain⟨x,dx,H',rfl,I',Fl,adR,Yf,hE,adS⟩:=q;cases hE;refine MW hex Xf Yl rfl I' Fl adR λh2 vs tbv I3 h1 ht=>?_;obtain⟨oe,o1,o2,o3,o4⟩:=tz I3.hok bv;refine wpAny_handleBy_cons (codeAny_handlers_test (jP (X:=X.hndC pins x) I3.toHnd hg hm ?_ XI)) (by intro z;cases z);obtain⟨nm,qn,N,bs,sn,sub,ab,col,dd,k0,k1,k2,k3,k5,mN,oI,hC,_⟩:=T.at I3.kIn;refine wpAny_excMatches_sub_self hC o1 o2 (by decide) ?_;refine codeAny_handlers_suite (Eh o1 o4 h1 ht ?_);refine aK (hh pins x [] _ U _ D I3.toHnd (adS x vs Fl.free Fl.ne)) (λf s3 q=>?_) λ_ _ z=>False.elim z;exact SP.ofHnd I.ok q
section
variable{nx bk ct:St->Hp->Prop}{rt:VK}{U:St}{H:Hp}{Q:VK}{t u:TS}{te ta tb tc td ty tv tl:TE}{g:TG}{i:Nat}{v x y:V}{ti:Pj}{f:Str}{K:cV}{c tA ZD:TT}{B:Bool->Hp->Prop}{tr:TA}{L:List V->Hp->Prop}
theorem Tu(h:t ⟨u ⟨nx,rt,bk,ct⟩,rt,bk,ct⟩ U H):zM t u ⟨nx,rt,bk,ct⟩ U H:=h
theorem M2(h:nx U H):FP ⟨nx,rt,bk,ct⟩ U H:=h
theorem WT(h:te U H λx H1=>g x U H1 nx):zN te g ⟨nx,rt,bk,ct⟩ U H:=h
theorem Tv(hv:U[i]?=some (some x))(h:te U H λy H1=>ti x y H1 λz H2=>nx (U.set i (some z)) H2):N5 i te ti ⟨nx,rt,bk,ct⟩ U H:=⟨x,hv,h⟩
theorem Wm(h:q (U.set i (some v)) H):jU i v U H q:=h
theorem M3(h:te U H λ_ H1=>nx U H1):KC te ⟨nx,rt,bk,ct⟩ U H:=h
theorem FT(h:te U H rt):wg te ⟨nx,rt,bk,ct⟩ U H:=h
theorem WU(h:c U H λb H1=>if b=true then t ⟨nx,rt,bk,ct⟩ U H1 else u ⟨nx,rt,bk,ct⟩ U H1):F1 c t u ⟨nx,rt,bk,ct⟩ U H:=h
theorem Tw(h:U[i]?=some (some v))(k:Q v H):gD i U H Q:=⟨v,h,k⟩
theorem r_c(k:Q v H):tC v U H Q:=k
theorem r_op(h:ta U H λx H1=>tb U H1 λy H2=>r x y H2 Q):kM r ta tb U H Q:=h
theorem r_un(h:ta U H λx H1=>r x H1 Q):Ug r ta U H Q:=h
theorem r_I0{p:Int->Int->V}{i j:Int}(h:Q (p i j) H):oQ p (.int i) (.int j) H Q:=⟨i,j,rfl,rfl,h⟩
theorem kO{C:Int->Int->Prop}{p:Int->Int->V}{i j:Int}(hc:C i j)(h:Q (p i j) H):rI C p (.int i) (.int j) H Q:=⟨i,j,rfl,rfl,hc,h⟩
theorem r_U{p:Int->V}{i:Int}(h:Q (p i) H):rU p (.int i) H Q:=⟨i,rfl,h⟩
theorem UF(hs:KJ x y=true)(h:Q (.bl (decide (x=y))) H):JL x y H Q:=⟨hs,h⟩
theorem UG(hs:KJ x y=true)(h:Q (.bl (!decide (x=y))) H):Rz x y H Q:=⟨hs,h⟩
theorem Ww(h:te U H λx H'=>∃k,x=.bl k/\B k H'):m5 te U H B:=h
theorem r_tB(h:te U H λx H'=>∃k,x=.bl k/\B k H'):tB te U H B:=h
theorem r_bl{b:Bool}{B:Bool->Prop}(h:B b):∃k,V.bl b=.bl k/\B k:=⟨b,rfl,h⟩
theorem WV(h:tA U H λb H1=>if b=true then ZD U H1 B else B false H1):Rn tA ZD U H B:=h
theorem r_or(h:tA U H λb H1=>if b=true then B true H1 else ZD U H1 B):Ud tA ZD U H B:=h
theorem WW(h:tA U H λb H1=>B (!b) H1):Ro tA U H B:=h
theorem Wx(h:ta U H λx H1=>∃k,x=.bl k/\if k=true then tb U H1 Q else Q (.bl false) H1):Ph ta tb U H Q:=h
theorem WX(h:ta U H λx H1=>∃k,x=.bl k/\if k=true then Q (.bl true) H1 else tb U H1 Q):KB ta tb U H Q:=h
theorem Wy(h:ta U H λx H1=>∃k,x=.bl k/\Q (.bl (!k)) H1):Pi ta U H Q:=h
theorem r_if(h:c U H λb H1=>if b=true then ta U H1 Q else tb U H1 Q):Ue c ta tb U H Q:=h
def Se(K:cV)(f:Str)(x:V)(H1:Hp)(Q:VK):Prop:=∃a C dx fs v,x=.ref a/\H1 a=some (.ins C dx fs)/\sZ K C/\iy K C f/\fs.lookup f=some v/\Q v H1
theorem WY(h:ta U H λx H1=>Se K f x H1 Q):F5 K ta f U H Q:=h
theorem Sf(e:H a=some (.ins C dx fs))(c:gX K mg C cn as)(m:f∈as)(l:fs.lookup f=some v)(k:Q v H):Se K f (.ref a) H Q:=⟨a,C,dx,fs,v,rfl,e,c.cl,c.na f m,l,k⟩
def PQ(K:cV)(f:Str)(y x:V)(H2:Hp)(U:St)(nx:St->Hp->Prop):Prop:=∃a C dx fs,x=.ref a/\H2 a=some (.ins C dx fs)/\sZ K C/\iy K C f/\fs.length<1000/\nx U (upd H2 a (.ins C dx (gZ f y fs)))
theorem Wz(h:tv U H λy H1=>ta U H1 λx H2=>PQ K f y x H2 U nx):Oc K ta tv f ⟨nx,rt,bk,ct⟩ U H:=h
theorem Cp(e:H a=some (.ins C dx fs))(c:gX K mg C cn as)(m:f∈as)(l:fs.length<1000)(p:gZ f y fs=YI)(k:nx U (upd H a (.ins C dx YI))):PQ K f y (.ref a) H U nx:=⟨a,C,dx,fs,rfl,e,c.cl,c.na f m,l,by rw[p];exact k⟩
theorem WA(h:tr U H λvs H1=>sp (vs++dvs) H1 Q E):ma sp dvs E tr U H Q:=h
theorem Wn(h:te U H λv H0=>v=.ref a/\tr U H0 λvs H1=>sp vs H1 Q E):MY a sp E te tr U H Q:=h
def PR(C:cS)(m:Str)(x:V)(H1:Hp)(k:Hp->Prop):Prop:=∃a dx fs,x=.ref a/\H1 a=some (.ins C dx fs)/\fs.lookup m=none/\k H1
theorem WB(h:ta U H λx H1=>PR C m x H1 λH1=>tr U H1 λvs H2=>sp (x::(vs++dvs)) H2 Q E):m6 C m sp dvs E ta tr U H Q:=h
theorem QB(e:H a=some (.ins C dx fs))(l:fs.lookup m=none)(h:k H):PR C m (.ref a) H k:=⟨a,dx,fs,rfl,e,l,h⟩
theorem WC(h:tr U H λvs H1=>∀x dx,H1 x=none->H1 dx=none->dx≠x->sp (.ref x::(vs++dvs)) (upd (upd H1 dx (.own x)) x (.ins C dx [])) (λv H2=>v=.non/\Q (.ref x) H2) E):qN C sp dvs E tr U H Q:=h
theorem WZ(h:L [] H):gv U H L:=h
theorem WD(h:ta U H λx H1=>tr U H1 λxs H2=>L (x::xs) H2):fF ta tr U H L:=h
theorem r_cb(h:tr U H λvs H1=>r vs H1 Q):Ps r tr U H Q:=h
theorem W1(h:tr U H λxs H1=>xs.length<=sizeLine/\∀p,H1 p=none->Q (.ref p) (upd H1 p (.lst xs))):F6 tr U H Q:=h
theorem eg{a:cS}{xs:List V}{i:Int}{j:Nat}(e:H a=some (.lst xs))(hj:i=j)(hx:xs[j]?=some v)(k:Q v H):KM K (.ref a) (.int i) H Q:=⟨a,xs,i,v,rfl,rfl,.inl (.inl e),KS hj hx,k⟩
def K9(K:cV):List V->Hp->VK->Prop:=λxs H Q=>∃p ys,xs=[.ref p]/\(dU K H p ys∨jk K H p ys)/\Q (.int ys.length) H
theorem Tx(e:H a=some (.lst xs))(k:Q (.int xs.length) H):K9 K [.ref a] H Q:=⟨a,xs,rfl,.inl (.inl (.inl e)),k⟩
theorem WE(e:H a=some (.tup xs))(k:Q (.int xs.length) H):K9 K [.ref a] H Q:=⟨a,xs,rfl,.inr (.inl (.inl e)),k⟩
theorem Cq(W:Nat->St->Hp->Prop)(m0:Nat)(h0:W m0 U H)(h:∀m U H,W m U H->c U H λb H1=>if b=true then ∃N:St->Hp->Prop,(∀U' H',N U' H'->∃m',m'<m/\W m' U' H')/\t ⟨N,rt,nx,N⟩ U H1 else nx U H1):F2 c t ⟨nx,rt,bk,ct⟩ U H:=⟨W,⟨m0,h0⟩,h⟩
theorem W2(h:wi U H λJ H1=>∃W:Nat->Nat->St->Hp->Prop,(∃m,W 0 m U H1)/\∀i m U H,W i m U H->(J.stop i H/\nx U H)∨(J.go i H/\∃N:St->Hp->Prop,(∀U' H',N U' H'->∃m',m'<m/\W (i+1) m' U' H')/\∀x H',J.yld i H x H'->g x U H' λU2 H2=>t ⟨N,rt,nx,N⟩ U2 H2)):Rx wi g t ⟨nx,rt,bk,ct⟩ U H:=h
theorem r_bm{Ty:String}{r:V->List V->Hp->VK->Prop}(h:te U H λx H1=>Pw K Ty x H1/\tr U H1 λxs H2=>r x xs H2 Q):MD K Ty r te tr U H Q:=h
theorem ik(e:H a=some (.lst xs))(h:R):Pw K "list" (.ref a) H/\R:=⟨.inl ⟨rfl,_,dU.of e⟩,h⟩
def M4(C:cS)(f1 f2:Str)(E:XK)(vs:List V)(H1:Hp):Prop:=∃a b,vs=[a,b]/\∀dx H2,H1 dx=none->bn H1 H2->H2 dx=some (XA dx [(f1,a),(f2,b)])->E (.ref C) (some dx) H2
theorem Wo(h:tr U H λvs H1=>M4 C f1 f2 E vs H1):MV C f1 f2 E tr ⟨nx,rt,bk,ct⟩ U H:=h
end
section
variable{P:Program}{w:World}{K:cV}{mg:Str->Option Value}{base:Heap}
theorem md.okx{x qual:Str}{st:Stmt}{f C:cS}{fd:cT}{N ps:List Str}{k:Nat}{sp:Sp}(F:md K x qual st f fd)(S:jm N ps (dr st))(len:∀vs H Q E,sp vs H Q E->vs.length=ps.length)(Yg:∀(W8:Value)(A:Around)(outer:List Env)(s:cU)(H:Hp)(vs:List V)(Q:VK)(E:XK),eJ k (A.deeper (envOfC qual (dr st) s.heap.objs.size f W8))->sp vs H Q E->∃t,kK (j7 (kH P w C) P w K mg base N qual (dr st) f W8 A outer s H E) (fA st) t/\t {nx:=λ_ H'=>Q .non H',rt:=Q} (start N vs) H):eS P w K mg base (kH P w C) (k+1) f fd ps sp:=by
 obtain⟨oc,od,kV,doc,pm,an,W8,ct,XU,rfl,lk,YU⟩:=F.ex;exact Pr lk YU S len λA outer s H vs Q E hr Xn=>Yg W8 A outer s H vs Q E hr Xn
end
def fC(M:cS->Prop)(H H':Hp):Prop:=∀b o,H b=some o->¬M b->H' b=some o
theorem fC.trans(a:fC M H H1)(b:fC M H1 H2):fC M H H2:=λc o h n=>b c o (a c o h n) n
theorem bn.but(h:bn H H'):fC M H H':=λb o e _=>h b o e
theorem fC.upd(h:M p):fC M H (upd H p o):=λb u e n=>by
 have q:b≠p:=λz=>n (by rw[z];exact h);rw[ap q];exact e
theorem bn.upd(h:H p=none):bn H (upd H p o):=λb u e=>by
 rw[ap (ca e h)];exact e
theorem fC.mono(h:fC M H H')(k:∀b,M b->M' b):fC M' H H':=λb o e n=>h b o e λz=>n (k b z)
theorem fC.trans'(a:fC M H H1)(b:∀c o,H c=some o->H2 c=H1 c):fC M H H2:=λc o h n=>by
 rw[b c o h];exact a c o h n
section
variable{nx bk ct:St->Hp->Prop}{rt:VK}{U:St}{H:Hp}{Q:VK}{tb:TS}{tl:TE}{g:TG}{K:cV}{ta:TA}{R:It->Hp->Prop}
def Ul(K:cV)(x:V)(H1:Hp)(R:It->Hp->Prop):Prop:=∃a,x=.ref a/\(∃xs,dU K H1 a xs)/\R (oP K a) H1
theorem Wp(h:tl U H λx H1=>Ul K x H1 R):Pk K tl U H R:=h
theorem r_iL(e:H a=some (.lst xs))(h:R (oP K a) H):Ul K (.ref a) H R:=⟨a,rfl,⟨xs,dU.of e⟩,h⟩
def Um(K:cV)(x:V)(H1:Hp)(R:It->Hp->Prop):Prop:=∃a,x=.ref a/\(∃xs,jk K H1 a xs)/\R (yK K a) H1
theorem WG(h:tl U H λx H1=>Um K x H1 R):Rw K tl U H R:=h
theorem r_iT(e:H a=some (.tup xs))(h:R (yK K a) H):Um K (.ref a) H R:=⟨a,rfl,⟨xs,.inl (.inl e)⟩,h⟩
def Uo(vs:List V)(H1:Hp)(R:It->Hp->Prop):Prop:=∃j:Int,vs=[.int j]/\-(2^62)<=j/\j<2^62/\R (qJ 0 j.toNat) H1
theorem Wq(h:ta U H λvs H1=>Uo vs H1 R):Pl ta U H R:=h
theorem UH(h1:-(2^62)<=j)(h2:j<2^62)(h:R (qJ 0 j.toNat) H):Uo [.int j] H R:=⟨j,rfl,h1,h2,h⟩
def rR3(vs:List V)(H1:Hp)(R:It->Hp->Prop):Prop:=∃(i j c:Int)(n:Nat),vs=[.int i,.int j,.int c]/\ML i j c n/\R (AN i c n) H1
theorem Wr(h:ta U H λvs H1=>rR3 vs H1 R):PB ta U H R:=h
def Up(K:cV)(vs:List V)(H1:Hp)(R:It->Hp->Prop):Prop:=∃a xs,vs=[.ref a]/\dU K H1 a xs/\R (Gh K a) H1
theorem Ws(h:ta U H λvs H1=>Up K vs H1 R):PD K ta U H R:=h
theorem r_En(e:H a=some (.lst xs))(h:R (Gh K a) H):Up K [.ref a] H R:=⟨a,xs,rfl,dU.of e,h⟩
def Uq(K:cV)(vs:List V)(H1:Hp)(R:It->Hp->Prop):Prop:=∃a b xs ys,vs=[.ref a,.ref b]/\dU K H1 a xs/\dU K H1 b ys/\R (Gi K a b) H1
theorem WH(h:ta U H λvs H1=>Uq K vs H1 R):RQ K ta U H R:=h
theorem UI(e:H a=some (.lst xs))(f:H b=some (.lst ys))(h:R (Gi K a b) H):Uq K [.ref a,.ref b] H R:=⟨a,b,xs,ys,rfl,dU.of e,dU.of f,h⟩
def Ur(K:cV)(vs:List V)(H1:Hp)(R:It->Hp->Prop):Prop:=∃(a:cS)(xs:List V),vs=[.ref a]/\dU K H1 a xs/\R (Gf K a xs.length) H1
theorem WI(h:ta U H λvs H1=>Ur K vs H1 R):RN K ta U H R:=h
theorem r_Rv(e:H a=some (.lst xs))(h:R (Gf K a xs.length) H):Ur K [.ref a] H R:=⟨a,xs,rfl,dU.of e,h⟩
theorem WJ(h:tl U H λv H1=>∃x,v=.str x/\R (JZ x) H1):RO tl U H R:=h
theorem r_lc(h:wi U H λJ H1=>∀D,H1 D=none->∃W:Nat->Nat->Hp->Prop,(∃m,W 0 m (upd H1 D (.lst [])))/\∀i m H,W i m H->(J.stop i H/\Q (.ref D) H)∨(J.go i H/\∃Nx:Hp->Prop,(∀H',Nx H'->∃m',m'<m/\W (i+1) m' H')/\∀x H',J.yld i H x H'->g x (fq U vs) H' λU2 H2=>fq U2 vs=fq U vs/\tt U2 H2 λb H3=>if b=true then te U2 H3 λy H4=>∃acc,H4 D=some (.lst acc)/\acc.length<sizeLine/\Nx (upd H4 D (.lst (acc++[y]))) else Nx H3)):JT wi g tt te vs U H Q:=h
theorem W3(h:B true H):zP U H B:=h
def PU(K:cV)(n:Nat)(t:JK)(v:V)(U:St)(H:Hp)(q:St->Hp->Prop):Prop:=∃a xs,v=.ref a/\jk K H a xs/\xs.length=n/\t xs U H q
theorem WK(h:PU K n t v U H q):Rt K n t v U H q:=h
theorem tF(e:H a=some (.tup [x,y]))(h:q ((U.set i (some x)).set j (some y)) H):PU K 2 (KD (jU i) (KD (jU j) Rs)) (.ref a) U H q:=
 ⟨a,[x,y],rfl,.inl (.inl e),rfl,x,[y],rfl,y,[],rfl,rfl,h⟩
theorem lE(Pv:Nat->St->Hp->Prop)(h0:Pv 0 U H)(hl:∀i U H,i<=xs.length->Pv i U H->H a=some (.lst xs))(hs:∀i x U H,xs[i]?=some x->Pv i U H->g x U H λU2 H2=>tb ⟨Pv (i+1),rt,nx,Pv (i+1)⟩ U2 H2)(hd:∀U H,Pv xs.length U H->nx U H):∃W:Nat->Nat->St->Hp->Prop,(∃m,W 0 m U H)/\∀i m U H,W i m U H->((oP K a).stop i H/\nx U H)∨((oP K a).go i H/\∃N:St->Hp->Prop,(∀U' H',N U' H'->∃m',m'<m/\W (i+1) m' U' H')/\∀x H',(oP K a).yld i H x H'->g x U H' λU2 H2=>tb ⟨N,rt,nx,N⟩ U2 H2):=
 N7 (D:=⟨nx,rt,λ_ _=>False,λ_ _=>False⟩) Pv h0 (λi U H h p=>dU.of (hl i U H h p)) hs hd
theorem Sg(Pv:Nat->St->Hp->Prop)(h0:Pv 0 U H)(hl:∀i U H,i<=xs.length->Pv i U H->H a=some (.tup xs))(hs:∀i x U H,xs[i]?=some x->Pv i U H->g x U H λU2 H2=>tb ⟨Pv (i+1),rt,nx,Pv (i+1)⟩ U2 H2)(hd:∀U H,Pv xs.length U H->nx U H):∃W:Nat->Nat->St->Hp->Prop,(∃m,W 0 m U H)/\∀i m U H,W i m U H->((yK K a).stop i H/\nx U H)∨((yK K a).go i H/\∃N:St->Hp->Prop,(∀U' H',N U' H'->∃m',m'<m/\W (i+1) m' U' H')/\∀x H',(yK K a).yld i H x H'->g x U H' λU2 H2=>tb ⟨N,rt,nx,N⟩ U2 H2):=
 Qg (D:=⟨nx,rt,λ_ _=>False,λ_ _=>False⟩) Pv h0 (λi U H h p=>.inl (.inl (hl i U H h p))) hs hd
theorem Sh{lo:Int}{n:Nat}(Pv:Nat->St->Hp->Prop)(h0:Pv 0 U H)(hs:∀i U H,i<n->Pv i U H->g (.int (lo+i)) U H λU2 H2=>tb ⟨Pv (i+1),rt,nx,Pv (i+1)⟩ U2 H2)(hd:∀U H,Pv n U H->nx U H):∃W:Nat->Nat->St->Hp->Prop,(∃m,W 0 m U H)/\∀i m U H,W i m U H->((qJ lo n).stop i H/\nx U H)∨((qJ lo n).go i H/\∃N:St->Hp->Prop,(∀U' H',N U' H'->∃m',m'<m/\W (i+1) m' U' H')/\∀x H',(qJ lo n).yld i H x H'->g x U H' λU2 H2=>tb ⟨N,rt,nx,N⟩ U2 H2):=
 Mu (D:=⟨nx,rt,λ_ _=>False,λ_ _=>False⟩) Pv h0 hs hd
theorem UJ{lo c:Int}{n:Nat}(Pv:Nat->St->Hp->Prop)(h0:Pv 0 U H)(hs:∀i U H,i<n->Pv i U H->g (.int (lo+(i:Nat)*c)) U H λU2 H2=>tb ⟨Pv (i+1),rt,nx,Pv (i+1)⟩ U2 H2)(hd:∀U H,Pv n U H->nx U H):∃W:Nat->Nat->St->Hp->Prop,(∃m,W 0 m U H)/\∀i m U H,W i m U H->((AN lo c n).stop i H/\nx U H)∨((AN lo c n).go i H/\∃N:St->Hp->Prop,(∀U' H',N U' H'->∃m',m'<m/\W (i+1) m' U' H')/\∀x H',(AN lo c n).yld i H x H'->g x U H' λU2 H2=>tb ⟨N,rt,nx,N⟩ U2 H2):=
 KR (D:=⟨nx,rt,λ_ _=>False,λ_ _=>False⟩) Pv h0 hs hd
theorem Os{J:It}{n:Nat}(Pv:Nat->St->Hp->Prop)(h0:Pv 0 U H)(go:∀i U H,i<n->Pv i U H->J.go i H)(stop:∀U H,Pv n U H->J.stop n H)(hs:∀i U H x H',i<n->Pv i U H->J.yld i H x H'->g x U H' λU2 H2=>tb ⟨Pv (i+1),rt,nx,Pv (i+1)⟩ U2 H2)(hd:∀U H,Pv n U H->nx U H):∃W:Nat->Nat->St->Hp->Prop,(∃m,W 0 m U H)/\∀i m U H,W i m U H->(J.stop i H/\nx U H)∨(J.go i H/\∃N:St->Hp->Prop,(∀U' H',N U' H'->∃m',m'<m/\W (i+1) m' U' H')/\∀x H',J.yld i H x H'->g x U H' λU2 H2=>tb ⟨N,rt,nx,N⟩ U2 H2):=by
 refine⟨λi m U H=>m=n-i/\i<=n/\Pv i U H,⟨n,by simp,aI _,h0⟩,?_⟩;rintro i m U H ⟨rfl,hi,p⟩;by_cases Xg:i<n
 .exact .inr ⟨go i U H Xg p,Pv (i+1),λU' H' p'=>⟨n-(i+1),by lia,rfl,Xg,p'⟩,λx H' y=>hs i U H x H' Xg p y⟩
 .have e:i=n:=by lia
  subst e;exact .inl ⟨stop U H p,hd U H p⟩
theorem Si(Pv:Nat->St->Hp->Prop)(h0:Pv 0 U H)(hl:∀i U H,i<=xs.length->Pv i U H->H a=some (.lst xs))(hs:∀i x T U H,xs[i]?=some x->Pv i U H->H T=none->g (.ref T) U (upd H T (.tup [.int (i:Nat),x])) λU2 H2=>tb ⟨Pv (i+1),rt,nx,Pv (i+1)⟩ U2 H2)(hd:∀U H,Pv xs.length U H->nx U H):∃W:Nat->Nat->St->Hp->Prop,(∃m,W 0 m U H)/\∀i m U H,W i m U H->((Gh K a).stop i H/\nx U H)∨((Gh K a).go i H/\∃N:St->Hp->Prop,(∀U' H',N U' H'->∃m',m'<m/\W (i+1) m' U' H')/\∀x H',(Gh K a).yld i H x H'->g x U H' λU2 H2=>tb ⟨N,rt,nx,N⟩ U2 H2):=by
 refine Os (n:=xs.length) Pv h0 (λi U H hi p=>⟨xs,xs[i],dU.of (hl i U H (a9 hi) p),by simp[hi]⟩) (λU H p=>⟨xs,dU.of (hl _ U H (ah _) p),ah _⟩) ?_ hd;rintro i U H v H' hi p ⟨T,x,rfl,hT,rfl,hx⟩;exact hs i x T U H (hx xs (dU.of (hl i U H (a9 hi) p))) p hT
theorem Ot(Pv:Nat->St->Hp->Prop)(h0:Pv 0 U H)(he:xs.length<=ys.length)(hl:∀i U H,i<=xs.length->Pv i U H->H a=some (.lst xs)/\H b=some (.lst ys))(hs:∀i x y T U H,xs[i]?=some x->ys[i]?=some y->Pv i U H->H T=none->g (.ref T) U (upd H T (.tup [x,y])) λU2 H2=>tb ⟨Pv (i+1),rt,nx,Pv (i+1)⟩ U2 H2)(hd:∀U H,Pv xs.length U H->nx U H):∃W:Nat->Nat->St->Hp->Prop,(∃m,W 0 m U H)/\∀i m U H,W i m U H->((Gi K a b).stop i H/\nx U H)∨((Gi K a b).go i H/\∃N:St->Hp->Prop,(∀U' H',N U' H'->∃m',m'<m/\W (i+1) m' U' H')/\∀x H',(Gi K a b).yld i H x H'->g x U H' λU2 H2=>tb ⟨N,rt,nx,N⟩ U2 H2):=by
 refine Os (n:=xs.length) Pv h0 (λi U H hi p=>?_) (λU H p=>?_) ?_ hd
 .obtain⟨e1,e2⟩:=hl i U H (a9 hi) p;have abh:i<ys.length:=aE hi he;exact⟨xs,ys,xs[i],ys[i],dU.of e1,dU.of e2,by simp[hi],by simp[abh]⟩
 .obtain⟨e1,e2⟩:=hl _ U H (ah _) p;exact⟨xs,ys,dU.of e1,dU.of e2,.inl (ah _)⟩
 .rintro i U H v H' hi p ⟨T,x,y,rfl,hT,rfl,hx,hy⟩;obtain⟨e1,e2⟩:=hl i U H (a9 hi) p;exact hs i x y T U H (hx xs (dU.of e1)) (hy ys (dU.of e2)) p hT
theorem UK(Pv:Nat->St->Hp->Prop)(h0:Pv 0 U H)(hl:∀i U H,i<=xs.length->Pv i U H->H a=some (.lst xs))(hs:∀i x U H,i<xs.length->xs[xs.length-1-i]?=some x->Pv i U H->g x U H λU2 H2=>tb ⟨Pv (i+1),rt,nx,Pv (i+1)⟩ U2 H2)(hd:∀U H,Pv xs.length U H->nx U H):∃W:Nat->Nat->St->Hp->Prop,(∃m,W 0 m U H)/\∀i m U H,W i m U H->((Gf K a xs.length).stop i H/\nx U H)∨((Gf K a xs.length).go i H/\∃N:St->Hp->Prop,(∀U' H',N U' H'->∃m',m'<m/\W (i+1) m' U' H')/\∀x H',(Gf K a xs.length).yld i H x H'->g x U H' λU2 H2=>tb ⟨N,rt,nx,N⟩ U2 H2):=by
 refine Os (n:=xs.length) Pv h0 (λi U H hi p=>?_) (λU H p=>ah _) ?_ hd
 .have h1:xs.length-1-i<xs.length:=by lia
  exact⟨hi,xs,xs[xs.length-1-i],dU.of (hl i U H (a9 hi) p),by simp[h1]⟩
 .rintro i U H v H' hi p ⟨rfl,hx⟩;exact hs i v U _ hi (hx xs (dU.of (hl i U _ (a9 hi) p))) p
end
section
variable{X:Cx}{H:Hp}{Q:VK}{K:cV}
theorem M5:lf X (.builtin "len") (K9 X.K):=wu
def Sj:List V->Hp->VK->Prop:=λxs H Q=>∃x,xs=[.str x]/\x.length=1/\Q (.int (x.cps.getD 0 0:Nat)) H
theorem M6:lf X (.builtin "ord") Sj:=Oa
theorem W4(q:Q (.int (c:Nat)) H):Sj [.str ⟨#[c]⟩] H Q:=⟨_,rfl,rfl,q⟩
def PV:List V->Hp->VK->Prop:=λxs H Q=>∃i j,xs=[.int i,.int j]/\Q (.int (if j<i then j else i)) H
theorem M7(hc:X.calm=true):lf X (.builtin "min") PV:=Mx hc
theorem WL(q:Q (.int (if j<i then j else i)) H):PV [.int i,.int j] H Q:=⟨i,j,rfl,q⟩
def PX:List V->Hp->VK->Prop:=λxs H Q=>∃i,xs=[.int i]/\i.natAbs.log2<1920/\Q (.str (toString i)) H
theorem qS:lf X (.type "str") PX:=F3
def M8(K:cV):List V->Hp->VK->Prop:=λxs H Q=>∃p ys,xs=[.ref p]/\((dU K H p ys/\∀l,H l=none->Q (.ref l) (upd H l (.tup ys)))∨(jk K H p ys/\Q (.ref p) H))
theorem rT:lf X (.type "tuple") (M8 X.K):=EM
theorem Cr(e:H a=some (.lst xs))(q:∀l,H l=none->Q (.ref l) (upd H l (.tup xs))):M8 K [.ref a] H Q:=⟨a,xs,rfl,.inl ⟨dU.of e,q⟩⟩
theorem r_sl{r:V->Option Int->Option Int->Hp->VK->Prop}{te:TE}{tl th:TO}{U:St}(h:te U H λx H1=>tl U H1 λl H2=>th U H2 λu H3=>r x l u H3 Q):Ui r te tl th U H Q:=h
theorem WM(h:te U H λx H1=>∃i,x=.int i/\R (some i) H1):Pt te U H R:=h
theorem Wt{i:Int}{R:Int->Prop}(h:R i):∃j,V.int i=.int j/\R j:=⟨i,rfl,h⟩
theorem Gu(xs:List V)(i j:Nat)(hj:j<=xs.length):wq xs (some (i:Int)) (some (j:Int))=(xs.drop i).take (j-i):=by
 unfold wq;rw[HT.x5,HT.x5];by_cases h:i<=xs.length
 .rw[Nat.min_eq_left h,Nat.min_eq_left hj]
 .have e1:min i xs.length=xs.length:=Nat.min_eq_right (by lia);rw[e1,bg,bD (by lia)];simp
theorem PY(e:H a=some (.lst xs))(hj:j<=xs.length)(q:∀p,H p=none->Q (.ref p) (upd H p (.lst ((xs.drop i).take (j-i))))):Og K (.ref a) (some (i:Int)) (some (j:Int)) H Q:=
 ⟨a,xs,rfl,dU.of e,λp hp=>by rw[Gu xs i j hj];exact q p hp⟩
theorem AW{z:Str}{i:Int}{j c:Nat}(hz:z.length<=sizeLine)(hj:i=j)(hc:z.cps.toList[j]?=some c)(q:Q (.str ⟨#[c]⟩) H):KN (.str z) (.int i) H Q:=⟨z,i,c,rfl,rfl,hz,by rw[hj];exact JR hc,q⟩
end
section
variable{H:Hp}{Q:VK}{K:cV}{U:St}{g:TG}{te:TE}{vs:List Nat}{H1:Hp}{D:cS}{Qd:Hp->Prop}
theorem yO(ys:List V)(hy:ys.length=xs.length)(ha:H1 a=some (.lst xs))(hD:H1 D=none)(hz:xs.length<=sizeLine)(hs:∀(i:Nat)(x y:V)(H':Hp)(R:VK),xs[i]?=some x->ys[i]?=some y->bn H1 H'->(∀H4,bn H' H4->R y H4)->g x (fq U vs) H' λU2 H2=>fq U2 vs=fq U vs/\te U2 H2 R)(mono:∀x U H' (R R':St->Hp->Prop),(∀U2 H2,R U2 H2->R' U2 H2)->g x U H' R->g x U H' R')(hd:∀H',bn H1 H'->H' D=some (.lst ys)->Qd H'):∃W:Nat->Nat->Hp->Prop,(∃m,W 0 m (upd H1 D (.lst [])))/\∀i m H,W i m H->((oP K a).stop i H/\Qd H)∨((oP K a).go i H/\∃Nx:Hp->Prop,(∀H',Nx H'->∃m',m'<m/\W (i+1) m' H')/\∀x H',(oP K a).yld i H x H'->g x (fq U vs) H' λU2 H2=>fq U2 vs=fq U vs/\zP U2 H2 λb H3=>if b=true then te U2 H3 λy H4=>∃acc,H4 D=some (.lst acc)/\acc.length<sizeLine/\Nx (upd H4 D (.lst (acc++[y]))) else Nx H3):=by
 refine Qq (xs:=xs) (λi H'=>bn H1 H'/\H' D=some (.lst (ys.take i))) ⟨bn.upd hD,bv⟩ (λi H' _ h=>dU.of (h.1 _ _ ha)) ?_ ?_
 .rintro i x H' hx ⟨sm,XF⟩;obtain⟨hi,_⟩:=ax.mp hx;have abi:i<ys.length:=by lia
  have abY:ys[i]?=some ys[i]:=by simp[abi]
  have key:=hs i x ys[i] H' (λy H4=>∃acc,H4 D=some (.lst acc)/\acc.length<sizeLine/\(bn H1 (upd H4 D (.lst (acc++[y])))/\upd H4 D (.lst (acc++[y])) D=some (.lst (ys.take (i+1))))) hx abY sm λH4 s4=>by
   refine⟨ys.take i,s4 _ _ XF,by rw[aL];lia,λb o e=>?_,?_⟩
   .rw[ap (ca e hD)];exact s4 _ _ (sm _ _ e)
   .rw[bv,bX,abY];rfl
  refine mono _ _ _ _ _ (λU2 H2 h=>⟨h.1,?_⟩) key;simp only[zP,if_true];exact h.2
 .rintro H' ⟨sm,h⟩;rw[←hy,aQ] at h;exact hd H' sm h
theorem gK:∀x U H' (R R':St->Hp->Prop),(∀U2 H2,R U2 H2->R' U2 H2)->jU i x U H' R->jU i x U H' R':=λ_ _ _ _ _ h r=>h _ _ r
theorem iQ(W:Nat->St->Hp->Prop)(adU:St->Hp->Prop)(m0:Nat)(h0:W m0 U H)(hp:∀U H',adU U H'->nx U H')(h:(∀U H',adU U H'->nx U H')->∀m U H,W m U H->c U H λb H1=>if b=true then ∃N:St->Hp->Prop,(∀U' H',N U' H'->∃m',m'<m/\W m' U' H')/\t ⟨N,rt,nx,N⟩ U H1 else nx U H1):F2 c t ⟨nx,rt,bk,ct⟩ U H:=⟨W,⟨m0,h0⟩,h hp⟩
theorem r_m1(h:to U H λx H1=>(∃a,x=.str a)/\te U H1 λy H2=>r x [y] H2 Q):PF r to te U H Q:=h
theorem W5(h:R):(∃a,V.str z=.str a)/\R:=⟨⟨z,rfl⟩,h⟩
open TL in
theorem Ou(ys:List Str):tl (Txt.join "" ys)=ys.flatMap tl:=by
 rw[J1,Cm];have e:tl ("":Str)=[]:=by rfl'
 rw[e]
 induction ys with
 | nil=>rfl
 | cons x r ih=>
  cases r with
  | nil=>simp[uB]
  | cons y r=>
   show tl x++([]++uB [] ((y::r).map tl))=_;rw[ih,bP];rfl
open TL in
theorem qT(h:tl x=l):x=⟨l.toArray⟩:=by
 rw[←h]
end
section
variable{H:Hp}{Q:VK}{U:St}{td ty tv:TE}{nx bk ct:St->Hp->Prop}{rt:VK}{d:cS}{kvs:List (fb×V)}{z:Str}{v:V}
def Sk(y x:V)(H2:Hp)(Q:VK):Prop:=∃a o,x=.ref a/\lD H2 a y o/\Q (.bl o.isSome) H2
def J8(y x:V)(H2:Hp)(Q:VK):Prop:=∃a o,x=.ref a/\lD H2 a y o/\Q (.bl (!o.isSome)) H2
def PZ(x y:V)(H2:Hp)(Q:VK):Prop:=∃a v,x=.ref a/\lD H2 a y (some v)/\Q v H2
def P0(v x y:V)(H3:Hp)(R:Hp->Prop):Prop:=∃a H4,x=.ref a/\Ci H3 a y v H4/\R H4
theorem W6(h:ty U H λy H1=>td U H1 λx H2=>Sk y x H2 Q):RL ty td U H Q:=h
theorem UL(h:ty U H λy H1=>td U H1 λx H2=>J8 y x H2 Q):JX ty td U H Q:=h
theorem WN(h:td U H λx H1=>ty U H1 λy H2=>PZ x y H2 Q):Py td ty U H Q:=h
theorem WO(h:tv U H λv H1=>td U H1 λx H2=>ty U H2 λy H3=>P0 v x y H3 (nx U)):Pz td ty tv ⟨nx,rt,bk,ct⟩ U H:=h
theorem WP(e:H d=some (.dK kvs))(q:Q (.bl (ft kvs (.inr z)).isSome) H):Sk (.str z) (.ref d) H Q:=⟨d,_,rfl,lD.k (k:=.inr z) e,q⟩
theorem Us(e:H d=some (.dK kvs))(q:Q (.bl (!(ft kvs (.inr z)).isSome)) H):J8 (.str z) (.ref d) H Q:=⟨d,_,rfl,lD.k (k:=.inr z) e,q⟩
theorem QC(e:H d=some (.dK kvs))(hv:ft kvs (.inr z)=some v)(q:Q v H):PZ (.ref d) (.str z) H Q:=⟨d,v,rfl,(by rw[←hv];exact lD.k (k:=.inr z) e),q⟩
theorem J9(e:H d=some (.dK kvs))(hl:kvs.length<sizeLine)(q:R (upd H d (.dK (jS kvs (.inr z) v)))):P0 v (.ref d) (.str z) H R:=⟨d,_,rfl,Ci.k (k:=.inr z) e hl,q⟩
theorem WQ(h:∀p,H p=none->Q (.ref p) (upd H p (.dK []))):MK U H Q:=h
end
section
variable{nx bk ct:St->Hp->Prop}{rt:VK}{U:St}{H:Hp}{Q:VK}{te ta tb tc:TE}{tr:TA}
theorem WR(h:te U H λx H1=>K6 x H1 Q):PN te U H Q:=h
theorem Wu(e:H a=some (.lst xs))(q:∀l,H l=none->Q (.ref l) (upd H l (.lst xs.reverse))):K6 (.ref a) H Q:=⟨a,xs,rfl,e,q⟩
theorem W7(h:ta U H λx H1=>Q (.bl (decide (x=.non))) H1):Rm ta U H Q:=h
theorem Wv(h:ta U H λx H1=>tb U H1 λy H2=>r x y H2 λz H3=>∃k,z=.bl k/\(if k=true then tc U H3 λw' H4=>r' y w' H4 Q else Q (.bl false) H3)):AC r r' ta tb tc U H Q:=h
theorem WS(h:tr U H λvs H1=>sp vs H1 (λv H2=>nx (U.set i (some v)) H2) (tE C th ⟨nx,rt,bk,ct⟩ U)):PP i C sp tr th ⟨nx,rt,bk,ct⟩ U H:=h
theorem Ka{n i:Nat}{C:cS}{tb:XK->TS}{th:TS}(h:tb (K5 n i C th ⟨nx,rt,bk,ct⟩) ⟨nx,rt,bk,ct⟩ U H):MX n i C tb th ⟨nx,rt,bk,ct⟩ U H:=h
theorem P1{K:cV}{a:cS}{xs:List V}{i:Int}{j:Nat}{v:V}(e:jk K H a xs)(hj:i=j)(hx:xs[j]?=some v)(k:Q v H):RD K (.ref a) (.int i) H Q:=⟨a,xs,i,v,rfl,rfl,e,KS hj hx,k⟩
theorem yh(e:H l=some (.lst xs))(hz:xs.length<sizeLine)(q:Q .non (upd H l (.lst (xs++[y])))):Cf (.ref l) [y] H Q:=⟨l,xs,y,rfl,rfl,e,hz,q⟩
theorem yi(e:H l=some (.lst xs))(f:H b=some (.lst zs))(hz:xs.length+zs.length<=sizeLine)(q:Q .non (upd H l (.lst (xs++zs)))):yb (.ref l) [.ref b] H Q:=⟨l,b,xs,zs,rfl,rfl,e,f,hz,q⟩
theorem Tz(e:H l=some (.lst xs))(f:H b=some (.lst zs))(hz:xs.length+zs.length<=sizeLine)(q:∀p,H p=none->Q (.ref p) (upd H p (.lst (xs++zs)))):RG (.ref l) (.ref b) H Q:=⟨l,b,xs,zs,rfl,rfl,e,f,hz,q⟩
end
section
variable{X:Cx}{a b e o value:Expr}{es:List Expr}{ta tb te tv to:TE}{pos p pos' apos:Pos}{x f:Str}{op:Operator}{ti:Pj}
theorem dz(i:Nat)(hN:X.N.Nodup)(he:PE X e te)(hi:X.N[i]?=some x:=by rfl)(hx:Az X.env.scope x:=by first|exact Or.inl rfl|exact Or.inr rfl)(hs:swapsWith e (some (.Name x pos')) pos.line X.env=pure false:=by rfl)(hf:X.fn x=true∨X.env.scope.names.lookup x=some .local :=by first|exact .inl rfl|exact .inr rfl):PS X (.Assign [.Name x pos'] e pos) (zN te (jU i)):=AA hN hi hx he hs hf
theorem gh(i:Nat)(hN:X.N.Nodup)(hi:X.N[i]?=some x:=by rfl)(hx:Az X.env.scope x:=by first|exact Or.inl rfl|exact Or.inr rfl)(hf:X.fn x=true∨X.env.scope.names.lookup x=some .local :=by first|exact .inl rfl|exact .inr rfl):PG X (.Name x pos) (jU i):=Qe hN hi hx hf
theorem mf(i:Nat)(hN:X.N.Nodup)(he:PE X e te)(ho:Uf X op ti)(hi:X.N[i]?=some x:=by rfl)(hx:Az X.env.scope x:=by first|exact Or.inl rfl|exact Or.inr rfl)(hf:X.fn x=true∨X.env.scope.names.lookup x=some .local :=by first|exact .inl rfl|exact .inr rfl):PS X (.AugAssign (.Name x pos') op e pos) (N5 i te ti):=Ru hN hi hx he ho hf
theorem da(he:PE X e ta)(hb:attributeBase e f X.env (eval e X.env)=eval e X.env:=by rfl):PE X (.Attribute e f pos) (F5 X.K ta f):=My he hb
theorem fR(ha:PE X o ta)(hv:PE X value tv)(hs:swapsWith value (some (.Attribute o f pos')) pos.line X.env=pure false:=by rfl):PS X (.Assign [.Attribute o f pos'] value pos) (Oc X.K ta tv f):=RA ha hv hs
theorem eF(ha:PE X a ta)(hb:PE X b tb)(hs:JS b:=by exact λ_ _=>rfl):PE X (.Subscript a b pos) (kM (KM X.K) ta tb):=qO Qp ha hb hs
theorem fM(ha:PE X a ta)(hb:PE X b tb):PT X (.Compare a [.Eq] [b] pos) (m5 (kM JL ta tb)):=jl qM ha hb (gJ _)
theorem jw(ha:PE X a ta)(hb:PE X b tb):PT X (.Compare a [.NotEq] [b] pos) (m5 (kM Rz ta tb)):=jl Tk ha hb (gJ _)
theorem jW(ha:PE X a ta)(hb:PE X b tb):PT X (.Compare a [.Lt] [b] pos) (m5 (kM (oQ λi j=>.bl (decide (i<j))) ta tb)):=jl Po ha hb (gJ _)
theorem wB(ha:PE X a ta)(hb:PE X b tb):PT X (.Compare a [.Gt] [b] pos) (m5 (kM (oQ λi j=>.bl (decide (j<i))) ta tb)):=jl Pp ha hb (gJ _)
theorem yP(ha:PE X a ta)(hb:PE X b tb):PT X (.Compare a [.GtE] [b] pos) (m5 (kM (oQ λi j=>.bl (decide (j<=i))) ta tb)):=jl Pq ha hb (gJ _)
theorem dq(ha:PE X e te)(hs:starEach (e::[]) X.env=(false,eval e X.env)::starEach [] X.env:=by rfl):PA X [e] (fF te gv):=db ha eA hs
theorem dg(ha:PE X a ta)(hb:PE X b tb)(h1:starEach [a,b] X.env=(false,eval a X.env)::starEach [b] X.env:=by rfl)(h2:starEach [b] X.env=(false,eval b X.env)::starEach [] X.env:=by rfl):PA X [a,b] (fF ta (fF tb gv)):=db ha (db hb eA h2) h1
theorem fS(hm:X.mg "len"=none)(ha:PE X e te)(hg:Gl X "len":=by rfl)(hs:starEach (e::[]) X.env=(false,eval e X.env)::starEach [] X.env:=by rfl):PE X (.Call (.Name "len" p) [e] [] pos) (Ps (K9 X.K) (fF te gv)):=
 uu M5 hg hm PySem.boot_len (db ha eA hs) (he:=hs)
theorem ve(ho:PE X o to)(hb:PE X b tb)(X0:attributeBase o "append" X.env (eval o X.env)=eval o X.env:=by rfl)(Yh:(apos.endLine==pos.line)=true:=by rfl)(hs:starEach (b::[]) X.env=(false,eval b X.env)::starEach [] X.env:=by rfl)(aaB:((backTo pos (starEach (b::[]) X.env)).all (λx=>!x.1)&&(backToKw pos (keywordEach [] X.env)).all (λx=>x.1.isSome)&&decide ((b::([]:List Expr)).length+([]:List Keyword).length+(if([]:List Keyword).isEmpty then 0 else 1)<30))=true:=by rfl):PE X (.Call (.Attribute o "append" apos) [b] [] pos) (MD X.K "list" Cf to (fF tb gv)):=KO cO PySem.F.slot_list_append PySem.F.type_list_append D9 ho (db hb eA hs) X0 aaB Yh hs
theorem Gv(ho:PE X o to)(hb:PE X b tb)(X0:attributeBase o "extend" X.env (eval o X.env)=eval o X.env:=by rfl)(Yh:(apos.endLine==pos.line)=true:=by rfl)(hs:starEach (b::[]) X.env=(false,eval b X.env)::starEach [] X.env:=by rfl)(aaB:((backTo pos (starEach (b::[]) X.env)).all (λx=>!x.1)&&(backToKw pos (keywordEach [] X.env)).all (λx=>x.1.isSome)&&decide ((b::([]:List Expr)).length+([]:List Keyword).length+(if([]:List Keyword).isEmpty then 0 else 1)<30))=true:=by rfl):PE X (.Call (.Attribute o "extend" apos) [b] [] pos) (MD X.K "list" yb to (fF tb gv)):=KO cO PySem.F.slot_list_extend PySem.F.type_list_extend ME ho (db hb eA hs) X0 aaB Yh hs
theorem wC{elt iter tg:Expr}{scope:Scope}{wi:TI}{g:TG}(own:List (Str×Nat))(hN:X.N.Nodup)(hi:PI X tg iter wi)(hg:∀(s:cU)(H:Hp)(C:cS)(cl:List (Str×cS))(fp:List cS),PG (X.blk s H scope (compEnvC scope cl C X.env) fp) tg g)(he:∀(s:cU)(H:Hp)(C:cS)(cl:List (Str×cS))(fp:List cS),PE (X.blk s H scope (compEnvC scope cl C X.env) fp) elt te)(hc:X.calm=true:=by rfl)(ok:Oi X.N X.env.scope scope own=true:=by rfl)(hs:∀x,foldedSetIterable iter X.env x=pure x:=by intro _;rfl):PE X (.ListComp elt [⟨tg,iter,[],0⟩] scope pos) (JT wi g zP te (own.map (·.2))):=Tn hc hN hi (zQ ok) hg (λ_ _ _ _ _=>Cg) he hs
end
section
variable{P:Program}{w:World}{K:cV}{mg:Str->Option Value}{base:Heap}{x qual cn m:Str}{st:Stmt}{f C:cS}{fd:cT}{ps:List Str}{k:Nat}{sp:Sp}
theorem md.okN(N:List Str)(F:md K x qual st f fd)(Yg:∀(W8:Value)(A:Around)(outer:List Env)(s:cU)(H:Hp)(vs:List V)(Q:VK)(E:XK),eJ k (A.deeper (envOfC qual (dr st) s.heap.objs.size f W8))->sp vs H Q E->N.Nodup->(A.deeper (envOfC qual (dr st) s.heap.objs.size f W8)).units+1<cLine->(A.deeper (envOfC qual (dr st) s.heap.objs.size f W8)).units+64<cLine->let X:=(j7 lP P w K mg base N qual (dr st) f W8 A outer s H E).nox;∃t,kK X (fA st) t/\t {nx:=λ_ H'=>Q .non H',rt:=Q} (start N vs) H)(len:∀vs H Q E,sp vs H Q E->vs.length=ps.length:=by intro vs H Q E h;(repeat (cases h;rename_i h));all_goals (subst_vars;rfl))(S:jm N ps (dr st):=by exact⟨rfl,rfl,rfl,by rfl',rfl,by rfl',by rfl'⟩):eS P w K mg base lP (k+1) f fd ps sp:=
 F.ok S len λW8 A outer s H vs Q E hr h=>Yg W8 A outer s H vs Q E hr h S.nd (PH hr) hr.units
theorem md.okX(N:List Str)(F:md K x qual st f fd)(Yg:∀(W8:Value)(A:Around)(outer:List Env)(s:cU)(H:Hp)(vs:List V)(Q:VK)(E:XK),eJ k (A.deeper (envOfC qual (dr st) s.heap.objs.size f W8))->sp vs H Q E->N.Nodup->(A.deeper (envOfC qual (dr st) s.heap.objs.size f W8)).units+1<cLine->(A.deeper (envOfC qual (dr st) s.heap.objs.size f W8)).units+64<cLine->tq (j7 (kH P w C) P w K mg base N qual (dr st) f W8 A outer s H E) C E->let X:=(j7 (kH P w C) P w K mg base N qual (dr st) f W8 A outer s H E);∃t,kK X (fA st) t/\t {nx:=λ_ H'=>Q .non H',rt:=Q} (start N vs) H)(len:∀vs H Q E,sp vs H Q E->vs.length=ps.length:=by intro vs H Q E h;(repeat (cases h;rename_i h));all_goals (subst_vars;rfl))(S:jm N ps (dr st):=by exact⟨rfl,rfl,rfl,by rfl',rfl,by rfl',by rfl'⟩):eS P w K mg base (kH P w C) (k+1) f fd ps sp:=
 F.okx S len λW8 A outer s H vs Q E hr h=>Yg W8 A outer s H vs Q E hr h S.nd (PH hr) hr.units ID
variable(P w base)
abbrev fc(_:di K mg x st ps f fd)(k:Nat)(sp:Sp):Prop:=eS P w K mg base lP k f fd ps sp
abbrev ir(C:cS)(_:di K mg x st ps f fd)(k:Nat)(sp:Sp):Prop:=eS P w K mg base (kH P w C) k f fd ps sp
abbrev iA(_:d6 K C x qual st ps f fd)(mg:Str->Option Value)(k:Nat)(sp:Sp):Prop:=eS P w K mg base lP k f fd ps sp
abbrev Cs(D:cS)(_:d6 K C x qual st ps f fd)(mg:Str->Option Value)(k:Nat)(sp:Sp):Prop:=eS P w K mg base (kH P w D) k f fd ps sp
abbrev wD(_:iF K C qual st ps f fd)(mg:Str->Option Value)(k:Nat)(sp:Sp):Prop:=eS P w K mg base lP k f fd ps sp
abbrev UM(D:cS)(_:iF K C qual st ps f fd)(mg:Str->Option Value)(k:Nat)(sp:Sp):Prop:=eS P w K mg base (kH P w D) k f fd ps sp
end
section
variable{X:Cx}{pins:List (cS×Obj)}{U:St}{H:Hp}{s:cU}
theorem cY.adopt(I:cY X pins U H s)(f:iP X pins H D)(hD:X.s_0.heap.objs.size<=D)(new:eR X.prog X.w (upd H D o) s.heap D o):cY X pins U (upd H D o) s:=by
 obtain⟨f0,f1,f2,f3,f4,f5⟩:=f;have old:∀b u,X.s_0.heap.get? b=some u->b≠D:=λb u e=>aF (aE (aj e) hD);refine⟨I.ok,I.os,I.bare,⟨I.base.keep,I.base.slot,λb u e n hz=>by rw[ap (old b u e)];exact I.base.free b u e n hz,I.base.there,λb xs e=>?_,λb ob u e=>?_,λb ps e=>?_⟩,I.loc,I.cell,by rw[ap (Ne.symm f1)];exact I.free,λy c e=>by rw[ap (f4 y c e)];exact I.freeC y c e,λp hp=>?_,λb u e=>?_,I.len⟩
 .have e1:=I.base.tups b xs e;rw[ap (ca e1 f0)];exact e1
 .have e1:=I.base.frzs b ob u e;rw[ap (ca e1 f0)];exact e1
 .obtain⟨m1,e1⟩:=I.base.tbls b ps e;exact⟨m1,by rw[ap (ca e1 f0)];exact e1⟩
 .obtain⟨e,n,ne,nf,d⟩:=I.pin p hp;exact⟨e,by rw[ap (f5 p hp)];exact n,ne,nf,d⟩
 .by_cases hb:b=D
  .subst hb;rw[bv] at e;cases e;exact new
  .rw[ap hb] at e;exact(I.hok b u e).stay (λc v _ q=>q) (λc q=>by rw[ap (ca q f0)];exact q) λc xs q=>by rw[ap (ca q f0)];exact q
end
def tG(kz:List Str)(vs out:List Value):Prop:=
 ∃ps:List (Str×Value),ps.Perm (kz.zip vs)/\out=ps.map Prod.snd/\ps.Pairwise (λp q=>decide (q.1.cps.toList<p.1.cps.toList)=false)
theorem Sl{keys:Array Value}{vs:List Value}{kz:List Str}(hk:StrsAre keys.toList kz){xs:Array Keyed}(hp:xs.Perm (keys.zip vs.toArray))(hs:SortedToK strKind xs xs.size):tG kz vs (xs.map (·.2)).toList:=by
 have hl:xs.toList.Perm (keys.toList.zip vs):=by rw[←ksk_zip];exact Array.perm_iff_toList_perm.mp hp
 refine⟨xs.toList.map (λp:Keyed=>(PyProof.Rows.strOf p.1,p.2)),?_,?_,?_⟩
 .have e2:(keys.toList.zip vs).map (λp:Keyed=>(PyProof.Rows.strOf p.1,p.2))=kz.zip vs:=by
   rw[←hk.strs,List.zip_map_left];exact cC λ⟨x,y⟩ _=>rfl
  rw[←e2];exact hl.map _
 .rw[Array.toList_map,aO];rfl
 .rw[List.pairwise_iff_getElem];intro i j hi hj afK;have abi:i<xs.size:=by simpa using hi
  have aaM:j<xs.size:=by simpa using hj
  have q:=hs i j (a9 afK) aaM;have hm:∀(n:Nat)(hn:n<xs.size),∃x t,xs[n].1=.str x t:=λn hn=>by
   have:xs[n]∈keys.toList.zip vs:=hl.mem_iff.mp (by simp)
   let ⟨x,t,z⟩:=hk.all _ (bS (a:=xs[n].1) (b:=xs[n].2) this).1;exact⟨x,t,z⟩
  obtain⟨x,t,ex⟩:=hm i abi;obtain⟨y,u,ey⟩:=hm j aaM;rw[KK_str abi (x:=x) (t:=t) (q:=xs[i].2) (Prod.ext ex rfl),KK_str aaM (x:=y) (t:=u) (q:=xs[j].2) (Prod.ext ey rfl)] at q;change decide (y.cps.toList<x.cps.toList)=false at q;simp only[List.getElem_map,Array.getElem_toList];rw[show PyProof.Rows.strOf xs[i].1=x by rw[ex];rfl,show PyProof.Rows.strOf xs[j].1=y by rw[ey];rfl];exact q
theorem Ej:∀{vs:List Value} {ss:List Str},StrsAre vs ss->StrsAre (vs++[.str x t]) (ss++[x])
 | _,_,.nil=>.cons x t .nil
 | _,_,.cons x' t' h=>.cons x' t' (Ej h)
theorem zT:∀{vs:List Value} {ss:List Str},StrsAre vs ss->vs.length=ss.length
 | _,_,.nil=>rfl
 | _,_,.cons x' t' h=>by rw[az,az,zT h]
section
variable{X:Cx}{pins:List (cS×Obj)}{U:St}{H:Hp}{s:cU}{A:Around}{E:Value->cU->Prop}{d kS:cS}{vs:List Value}{kz:List Str}{keys:Array Value}{e e1:Nat}{P:PySem.Fin->cU->Prop}
theorem AX{a:cS}{xs:Array Value}{n:Nat}{f:Array Value->Array Value}{t':Nat}(I:cY X pins U H s)(fa:iP X pins H a):cY X pins U H {s with heap:=s.heap.update a (Obj.mapSeq f),toks:=t'}:=
 I.turned (it:=a) (λb o hb e=>by rw[bW _ _ _ _ hb];exact e) fa.1 fa.2.1 fa.2.2.2.1 fa.2.2.2.2.1 fa.2.2.2.2.2
theorem Kb{st:SortSt}(I:cY X pins U H s)(abj:s.heap.get? kS=some (seqObj "list" keys e))(ZK:s.heap.get? d=some (seqObj "list" #[] e1))(XV:kS≠d)(fk:iP X pins H kS)(fd:iP X pins H d)(hsz:keys.size=vs.length)(hz:vs.length<=5000)(hp:(arrOf st).Perm (keys.zip vs.toArray))(hs:SortedToK strKind (arrOf st) (arrOf st).size)(hk:StrsAre keys.toList kz)(hfl:failedOf st=none)(h:∀s' out c,cY X pins U H s'->s'.heap.get? d=some (seqObj "list" out c)->tG kz vs out.toList->P (.done (.ret .none)) s'):wpAny (model X.prog X.w) A (ksk_tail d false e1 (.ref kS) st) P E s:=by
 have acw:(arrOf st).size=vs.length:=by rw[hp.size_eq,Array.size_zip,hsz,aG,Nat.min_self]
 have aby:((arrOf st).map (·.2)).size=vs.length:=by rw[Array.size_map];exact acw
 have BJ:(s.heap.update kS (Obj.mapSeq λ_=>(#[]:Array Value))).get? d=some (seqObj "list" #[] e1):=by rw[bW _ _ _ _ (Ne.symm XV)];exact ZK
 obtain⟨c2,YE⟩:∃c2,((s.heap.update kS (Obj.mapSeq λ_=>(#[]:Array Value))).update d (Obj.mapSeq λ_=>(arrOf st).map (·.2))).get? d=some (seqObj "list" ((arrOf st).map (·.2)) c2):=
  ⟨_,get?_update_seq BJ λ_=>(arrOf st).map (·.2)⟩
 have z1:vs.length<=sizeLine:=by rw[sizeLine_eq];lia
 unfold ksk_tail
 try dsimp only
 refine ag (listUpdate_at abj rfl ?_ (by rw[hsz];exact z1) (aI _));refine ag (wpAny_letGo ?_);refine ag (seqEpoch_at BJ rfl ?_);refine ag (listUpdate_at BJ rfl ?_ (aI _) (Nat.le_succ_of_le (aA (Nat.le_of_eq aby) z1)));rw[hfl];simp only[bne_self_eq_false,bo,if_false];refine wpAny_pure (h _ _ c2 ?_ YE (Sl hk hp hs));have I1:cY X pins U H {s with heap:=s.heap.update kS (Obj.mapSeq λ_=>(#[]:Array Value))}:=AX (xs:=keys) (n:=e) (t':=s.toks) I fk;exact AX (xs:=#[]) (n:=e1) (t':=s.toks) I1 fd
theorem QD(hk:StrsAre keys.toList kz)(h2:2<=keys.size):keyKind' keys=pure oneType':=by
 obtain⟨v₁,v₂,rest,e⟩:∃v₁ v₂ rest,keys.toList=v₁::v₂::rest:=by
  have hl:2<=keys.toList.length:=by rw[cg];exact h2
  cases q:keys.toList with
  | nil=>rw[q] at hl;simp at hl
  | cons v₁ r=>
   cases r with
   | nil=>rw[q] at hl;simp at hl
   | cons v₂ rest=>exact⟨v₁,v₂,rest,rfl⟩
 have ek:keys=(v₁::v₂::rest).toArray:=by rw[←e,Array.toArray_toList]
 rw[e] at hk;rw[ek];exact keyKind_strs hk
theorem Sm(I:cY X pins U H s)(abj:s.heap.get? kS=some (seqObj "list" keys e))(ZK:s.heap.get? d=some (seqObj "list" #[] e1))(XV:kS≠d)(fk:iP X pins H kS)(fd:iP X pins H d)(hsz:keys.size=vs.length)(hz:vs.length<=5000)(hk:StrsAre keys.toList kz)(h:∀s' out c,cY X pins U H s'->s'.heap.get? d=some (seqObj "list" out c)->tG kz vs out.toList->P (.done (.ret .none)) s'):wpAny (model X.prog X.w) A (ksk_end d false vs.toArray e1 (.ref kS) keys) P E s:=by
 have afL:(keys.zip vs.toArray).size=vs.length:=by rw[Array.size_zip,hsz,aG,Nat.min_self]
 unfold ksk_end;simp only[bo,if_false];by_cases h2:vs.toArray.size<2
 .rw[ae h2,ae h2];refine ag (wpAny_pure ?_);rw[StateT.run_pure];refine ag (wpAny_pure ?_)
  try dsimp only
  refine Kb (st:=SortSt.mk' general' (keys.zip vs.toArray) #[] 7 none) I abj ZK XV fk fd hsz hz (Array.Perm.refl _) ?_ hk rfl h;intro i j afK hj;have hj2:j<(keys.zip vs.toArray).size:=hj;rw[afL] at hj2;rw[aG] at h2;have:i=j:=by lia
  subst this;exact KeyOrd.kle_refl _
 .rw[aa h2,aa h2];rw[aG] at h2;rw[QD hk (by rw[hsz];lia)];refine ag (wpAny_pure ?_)
  refine ag (aK (wpS_sortRunsAny (κ:=strKind) (a₀:=keys.zip vs.toArray) (st:=SortSt.mk' oneType' (keys.zip vs.toArray) #[] 7 none)
   (Q:=λ_ XT=>(arrOf XT).Perm (keys.zip vs.toArray)/\failedOf XT=none/\SortedToK strKind (arrOf XT) (keys.zip vs.toArray).size)
   strKind_oneLt (λp hp=>?_) ⟨Array.Perm.refl _,rfl,rfl⟩ rfl (by rw[afL];lia) λXT a1 a2 a3=>⟨a1,a2,a3⟩) ?_ λ_ _ e=>e)
  .rw[ksk_zip] at hp;obtain⟨x,t,ex⟩:=hk.all p.1 (bS (a:=p.1) (b:=p.2) hp).1;exact⟨x.cps.toList,by rw[ex]⟩
  .rintro⟨⟨⟩,XT⟩ s' ⟨rfl,hp,hf,hs⟩
   try dsimp only
   exact Kb I abj ZK XV fk fd hsz hz hp (by rw[hp.size_eq];exact hs) hk hf h
theorem QE(I:cY X pins U H s)(abj:s.heap.get? kS=some (seqObj "list" #[] 0))(ZK:s.heap.get? d=some (seqObj "list" #[] e1))(XV:kS≠d)(fk:iP X pins H kS)(fd:iP X pins H d)(hlen:kz.length=vs.length)(hz:vs.length<=5000)(turn:∀(i:Nat)(v:Value)(k:Str),vs[i]?=some v->kz[i]?=some k->∀(XS:List (cS×Obj))(s':cU),cY X XS U H s'->wpAny (model X.prog X.w) A (call f [v]) (λu s2=>(∃t,u=.str k t)/\cY X XS U H s2) (λ_ _=>False) s')(h:∀s' out c,cY X pins U H s'->s'.heap.get? d=some (seqObj "list" out c)->tG kz vs out.toList->P (.done (.ret .none)) s'):wpAny (model X.prog X.w) A (ksk_rest d f false vs.toArray e1 (.ref kS)) P E s:=by
 have z1:vs.length<=sizeLine:=by rw[sizeLine_eq];lia
 unfold ksk_rest;refine ag (wpAny_rule ?_)
 first
  | rw[List.forIn_toArray]
  | (rw[←Array.forIn_toList];simp only[List.toList_toArray])
  | rw[←Array.forIn_toList]
 refine ag (ksk_fold (λi s'=>∃kA e,cY X pins U H s'/\s'.heap.get? kS=some (seqObj "list" kA e)/\s'.heap.get? d=some (seqObj "list" #[] e1)/\StrsAre kA.toList (kz.take i)) vs 0 s
  ⟨#[],0,I,abj,ZK,by simpa using StrsAre.nil⟩ ?step ?done)
 case step=>
  rintro j x s' hx ⟨kA,e,I',X9,aa7,hk⟩;simp only[Nat.zero_add] at hk ⊢;have hj:j<vs.length:=(ax.mp hx).1;obtain⟨k,ZL⟩:∃k,kz[j]?=some k:=⟨_,aR (by lia)⟩;have hzk:kA.size<=vs.length:=by
   have h1:=zT hk;rw[cg,aL] at h1
   lia
  have IP:=I'.pinned (fp:=[kS,d]) (λb hb=>by
   rcases aw.mp hb with rfl|hb
   .exact fk
   .rw[bV.mp hb];exact fd) (λb hb=>by
   rcases aw.mp hb with rfl|hb
   .exact⟨_,X9,λv z=>by cases z⟩
   .rw[bV.mp hb];exact⟨_,aa7,λv z=>by cases z⟩)
  refine ag (wpAny_attempt (aK (turn j x k hx ZL _ s' IP) (λv Zt he=>?_) λ_ _ hF=>hF.elim));obtain⟨⟨t2,rfl⟩,I2⟩:=he
  try dsimp only
  have nk:Zt.heap.get? kS=some (seqObj "list" kA e):=(I2.pin (kS,_) (a7 _ (a7 _ (l9 (by simp) X9)))).1;have na:Zt.heap.get? d=some (seqObj "list" #[] e1):=(I2.pin (d,_) (a7 _ (a7 _ (l9 (by simp) aa7)))).1;obtain⟨c2,YE⟩:∃c2,(Zt.heap.update kS (Obj.mapSeq (·.push (.str k t2)))).get? kS=some (seqObj "list" (kA.push (.str k t2)) c2):=⟨_,get?_update_seq nk (·.push (.str k t2))⟩;have ek:kz.take (j+1)=kz.take j++[k]:=by rw[bX,ZL];simp
  have ea:(kA.push (Value.str k t2)).toList=kA.toList++[Value.str k t2]:=by simp
  refine ag (listUpdate_at nk rfl ?_ (aA hzk z1) (aA (Nat.le_of_eq (Array.size_push ..)) (by rw[sizeLine_eq];lia)));refine wpAny_pure ⟨rfl,kA.push (.str k t2),c2,AX (xs:=kA) (n:=e) (t':=Zt.toks) I2.unpinned fk,YE,by show(Zt.heap.update kS _).get? d=_;rw[bW _ _ _ _ (Ne.symm XV)];exact na,by rw[ea,ek];exact Ej hk⟩
 case done=>
  rintro s' ⟨kA,e,I',X9,aa7,hk⟩;have afM:StrsAre kA.toList kz:=by
   have e3:kz.take (0+vs.length)=kz:=cD (by lia);rw[e3] at hk;exact hk
  try dsimp only
  refine ag (listItems_at X9 rfl ?_);have h1:=zT afM;rw[cg] at h1;exact Sm I' X9 aa7 XV fk fd (by lia) hz afM h
end
section
variable{X:Cx}{pins:List (cS×Obj)}{U:St}{H:Hp}{s:cU}{E:Value->cU->Prop}{l:cS}{vs:List Value}{kz:List Str}{Q:Value->cU->Prop}
theorem M9(I:cY X pins U H s)(hl:s.heap.IsList l vs.toArray)(hlen:kz.length=vs.length)(hz:vs.length<=5000)(turn:∀(i:Nat)(v:Value)(k:Str),vs[i]?=some v->kz[i]?=some k->∀(XS:List (cS×Obj))(s':cU),cY X XS U H s'->wpAny (model X.prog X.w) X.A.in1.in1 (call (.ref f) [v]) (λu s2=>(∃t,u=.str k t)/\cY X XS U H s2) (λ_ _=>False) s')(h:∀s' D out c,cY X pins U H s'->s'.heap.get? D=some (seqObj "list" out c)->iP X pins H D->X.s_0.heap.objs.size<=D->tG kz vs out.toList->Q (.ref D) s'):wpAny (model X.prog X.w) X.A (call (.builtin "sorted") [.ref l] [(Str.ofString "key",.ref f)]) Q E s:=by
 have z1:vs.length<=sizeLine:=by rw[sizeLine_eq];lia
 refine call_function_entry_kw kind_sorted plain_sorted entry_sorted (ksk_s1 _ _) ?_;unfold Builtin.«sorted»;refine ag (m:=checkCount "sorted" 1 1 _) (wpAny_pure ?_);refine ag (collect_list hl ?_ z1);refine ag (wpAny_newList ?_ z1);have hsz:((s.heap.push (seqObj "list" #[] 0)).update s.heap.objs.size (Obj.mapSeq (·++vs.toArray))).objs.size=s.heap.objs.size+1:=by
  rw[Heap.size_update,size_push']
 have aaA:(((s.heap.push (seqObj "list" #[] 0)).update s.heap.objs.size (Obj.mapSeq (·++vs.toArray))).push (seqObj "list" vs.toArray 0)).get? (s.heap.objs.size+1)=some (seqObj "list" vs.toArray 0):=by
  rw[←hsz];exact aM _ rfl
 have keep:∀b o,s.heap.get? b=some o->(((s.heap.push (seqObj "list" #[] 0)).update s.heap.objs.size (Obj.mapSeq (·++vs.toArray))).push (seqObj "list" vs.toArray 0)).get? b=some o:=λb o q=>by
  have Xg:b<s.heap.objs.size:=aj q;rw[Heap.get?_push_ne _ _ _ (by rw[hsz];exact aF (cp Xg)),bW _ _ _ _ (aF Xg),Heap.get?_push_ne _ _ _ (aF Xg)];exact q
 show wpAny _ _ _ _ _ {s with heap:=((s.heap.push (seqObj "list" #[] 0)).update s.heap.objs.size (Obj.mapSeq (·++vs.toArray))).push (seqObj "list" vs.toArray 0)};rw[hsz];have fD:iP X pins H (s.heap.objs.size+1):=I.fpOk (Nat.le_succ _) (I.hok.fresh (Nat.le_succ _));have fK:iP X pins H (s.heap.objs.size+3):=I.fpOk (by lia) (I.hok.fresh (by lia));have hDs:X.s_0.heap.objs.size<=s.heap.objs.size+1:=Nat.le_succ_of_le I.sz;generalize hh1:((s.heap.push (seqObj "list" #[] 0)).update s.heap.objs.size (Obj.mapSeq (·++vs.toArray))).push (seqObj "list" vs.toArray 0)=h1 at aaA keep;have agJ:h1.objs.size=s.heap.objs.size+2:=by rw[←hh1,size_push',hsz]
 have I1:cY X pins U H {s with heap:=h1}:=I.kept (t':=s.toks) keep;refine ag (wpAny_holding (wpAny_call_entry_kw slot_list_sort ⟨_,aaA,rfl⟩ entry_list_sort ?body (ksk_l1 _ _)))
 case body=>
  show wpAny (model X.prog X.w) X.A.in1.in1 (Builtin.«list.sort» ⟨[.ref (s.heap.objs.size+1)],[(Str.ofString "key",.ref f)]⟩) _ _ _;rw[ksk_t1];obtain⟨e1,YF⟩:∃e1,(h1.update (s.heap.objs.size+1) (Obj.mapSeq λ_=>(#[]:Array Value))).get? (s.heap.objs.size+1)=some (seqObj "list" #[] e1):=⟨_,get?_update_seq aaA λ_=>#[]⟩;have I2:cY X pins U H {s with heap:=h1.update (s.heap.objs.size+1) (Obj.mapSeq λ_=>(#[]:Array Value))}:=AX (s:={s with heap:=h1}) (xs:=vs.toArray) (n:=0) (t':=s.toks) I1 fD;generalize Yr:h1.update (s.heap.objs.size+1) (Obj.mapSeq λ_=>(#[]:Array Value))=h2 at YF I2;have acw:h2.objs.size=s.heap.objs.size+2:=by rw[←Yr,Heap.size_update,agJ]
  have I3:cY X pins U H {s with heap:=(h2.push (seqObj "tuple" vs.toArray 0)).push (seqObj "list" #[] 0)}:=I2.kept (t':=s.toks) λb o q=>aB _ (aB _ q);have afN:(h2.push (seqObj "tuple" vs.toArray 0)).objs.size=s.heap.objs.size+3:=by rw[size_push',acw]
  unfold ksk_tree;refine ag (listItems_at aaA rfl ?_);refine ag (listUpdate_at aaA rfl ?_ (by rw[aG];exact z1) (aI _));show wpAny _ _ _ _ _ {s with heap:=h1.update (s.heap.objs.size+1) (Obj.mapSeq λ_=>(#[]:Array Value))};rw[Yr];refine ag (seqEpoch_at YF rfl ?_);refine ag (wpAny_newTuple ?_ (by show vs.length<=_;exact z1));refine ag (wpAny_newList ?_ (aI _));refine wpAny_holding ?_;show wpAny _ _ (ksk_rest (s.heap.objs.size+1) (.ref f) false vs.toArray e1 (.ref (h2.push (seqObj "tuple" vs.toArray 0)).objs.size)) _ _ {s with heap:=(h2.push (seqObj "tuple" vs.toArray 0)).push (seqObj "list" #[] 0)};rw[afN];refine QE (kS:=s.heap.objs.size+3) (d:=s.heap.objs.size+1) I3 (by show((h2.push (seqObj "tuple" vs.toArray 0)).push (seqObj "list" #[] 0)).get? _=_;rw[←afN];exact aM _ rfl) (aB _ (aB _ YF)) (bA (Nat.add_lt_add_left (by decide:1<3) _)) fK fD hlen hz turn λs' out c I' hd ho=>⟨_,rfl,?_⟩;exact wpAny_pure ⟨_,rfl,h s' _ out c I' hd fD hDs ho⟩
end
def Na(sp:Sp)(t:TA):TE:=λU H Q=>t U H λvs H1=>∃(a:cS)(xs:List V)(kz:List Str),vs=[.ref a]/\H1 a=some (.lst xs)/\kz.length=xs.length/\xs.length<=5000/\
 (∀(i:Nat)(v:V)(k:Str),xs[i]?=some v->kz[i]?=some k->sp [v] H1 (λy H'=>y=.str k/\H'=H1) E0)/\
 ∀(ps:List (Str×V))(p:cS),ps.Perm (kz.zip xs)->ps.Pairwise (λp q=>decide (q.1.cps.toList<p.1.cps.toList)=false)->H1 p=none->Q (.ref p) (upd H1 p (.lst (ps.map Prod.snd)))
theorem Nb{kz:List Str}:∀{ps:List (Str×Value)} {qs:List (Str×Value)},ps.Perm qs->∀{xs:List (Str×V)},Paired (λ(p:Str×V) (q:Str×Value)=>p.1=q.1/\dR p.2 q.2) xs qs->∃ys:List (Str×V),ys.Perm xs/\Paired (λ(p:Str×V) (q:Str×Value)=>p.1=q.1/\dR p.2 q.2) ys ps:=by
 intro ps qs h
 induction h with
 | nil=>intro xs r;cases r;exact⟨[],.nil,.nil⟩
 | cons x h ih=>
  intro xs r;cases r with
  | cons r1 r2=>
   obtain⟨ys,p,q⟩:=ih r2;exact⟨_::ys,p.cons _,.cons r1 q⟩
 | swap x y l=>
  intro xs r;cases r with
  | cons r1 r2=>
   cases r2 with
   | cons r3 r4=>exact⟨_,List.Perm.swap _ _ _,.cons r3 (.cons r1 r4)⟩
 | trans h1 h2 adV adW=>
  intro xs r;obtain⟨ys,p,q⟩:=adW r;obtain⟨zs,p2,q2⟩:=adV q;exact⟨zs,p2.trans p,q2⟩
theorem Gw:∀{kz:List Str} {xs:List V} {us:List Value},dM xs us->Paired (λ(p:Str×V) (q:Str×Value)=>p.1=q.1/\dR p.2 q.2) (kz.zip xs) (kz.zip us)
 | [],_,_,_=>.nil
 | _::_,[],_,.nil=>.nil
 | k::kz,_::_,_,.cons r rs=>.cons ⟨rfl,r⟩ (Gw rs)
theorem yQ:∀{ys:List (Str×V)} {ps:List (Str×Value)},Paired (λ(p:Str×V) (q:Str×Value)=>p.1=q.1/\dR p.2 q.2) ys ps->dM (ys.map Prod.snd) (ps.map Prod.snd)/\ys.map Prod.fst=ps.map Prod.fst
 | _,_,.nil=>⟨.nil,rfl⟩
 | _,_,.cons r rs=>by
  obtain⟨a,b⟩:=yQ rs;exact⟨.cons r.2 a,by rw[ay,ay,r.1,b]⟩
section
variable{X:Cx}{k j:Nat}{f:cS}{fd:cT}{sp:Sp}{p pos adX kpos:Pos}{e:Expr}{te:TE}{x:Str}
theorem La{st:Stmt}{pn:Str}{t:TA}(D:di X.K X.mg x st [pn] f fd)(G:eS X.prog X.w X.K X.mg X.base lP k f fd [pn] sp)(hr:eJ j X.A)(hm:X.mg "sorted"=none)(ha:PA X [e] t)(hk:k+2<=j:=by decide)(hgs:Gl X "sorted":=by rfl)(adT:Gl X x:=by rfl)(abc:(x==("__debug__":Str))=false:=by decide)(Zk:backTo pos (starEach [e] X.env)=(false,eval e X.env)::backTo pos (starEach [] X.env):=by rfl)(Yu:(backTo pos (starEach [e] X.env)).any (·.1)=false:=by rfl):PE X (.Call (.Name "sorted" p) [e] [⟨some "key",.Name x adX,kpos⟩] pos) (Na sp t):=by
 intro pins s U H Q I h;have Zw:eJ k X.A.in1.in1:=((hr.mono hk).in1).in1;refine wpAny_Call_Name_kw (kL I hgs hm boot_sorted ?_);refine PyProof.Rows.callWith_kw (e:=e) (rest:=[]) (kws:=[⟨some "key",.Name x adX,kpos⟩]) ?_ Zk Yu;refine dJ (ha pos pins s U H _ I h) λus s1 ⟨vs,H1,I1,r,a,xs,kz,ev,aaG,hlen,hz,acu,q⟩=>?_;subst ev;rw[dM.ref1 r];refine dJ ((Qn (nm:=some "key") (kpos:=kpos) (sX adT D.mg_ (v:=.ref f) rfl abc) RB) pos pins s1 U H1 (λzs H'=>zs=[.ref f]/\H'=H1) I1 ⟨rfl,rfl⟩) λws s2 ⟨zs,H2,I2,rz,ez,eH⟩=>?_;subst ez eH;rw[dM.ref1 rz];obtain⟨Xa,rv,hl,_⟩:=I2.list (dU.of aaG);have hli:=rv.length;show wpAny _ _ (call (.builtin "sorted") [.ref a] [(Str.ofString "key",.ref f)]) _ _ s2;refine M9 (kz:=kz) I2 hl.isList (by lia) (by lia) (λi v ks hv adY XS s' I'=>?_) λs' D' out c I' hd fD hD ho=>?_
 .obtain⟨vv,hvv,rvv⟩:∃vv,xs[i]?=some vv/\dR vv v:=by
   obtain⟨hi,e⟩:=ax.mp hv;have abh:i<xs.length:=by lia
   obtain⟨u,hu,ru⟩:=rv.get (i:=i) (x:=xs[i]) (by simp[abh]);rw[hv] at hu;cases hu;exact⟨xs[i],by simp[abh],ru⟩
  have Xn:=acu i vv ks hvv adY;have r2:dM [vv] [v]:=.cons rvv .nil;refine wpAny_call (bu (G.run X.A.in1.in1 X.stack s' H2 ⟨[v],[]⟩ ([v]++[]) [vv] _ E0 Zw (I'.env0.in1.in1) (D.bd s' [v] I'.kIn rfl) (by rw[aZ];exact r2) Xn) λr' Zt hq=>?_);cases r' with
  | error z=>exact False.elim hq
  | ok fl=>
   cases fl with
   | next=>exact False.elim hq
   | brk=>exact False.elim hq
   | cont=>exact False.elim hq
   | ret u=>
    obtain⟨y,H',I3,ry,ey,eH⟩:=I'.after hq;subst ey eH;exact⟨ry,I3⟩
 .obtain⟨ps,hp,rfl',hs⟩:=ho;obtain⟨ys,yp,yr⟩:=Nb (kz:=kz) hp (Gw (kz:=kz) rv);obtain⟨yv,yf⟩:=yQ yr;have acU:ys.Pairwise (λp q=>decide (q.1.cps.toList<p.1.cps.toList)=false):=by
   have h1:(ps.map Prod.fst).Pairwise (λp q:Str=>decide (q.cps.toList<p.cps.toList)=false):=by rw[bY];exact hs
   rw[←yf,bY] at h1;exact h1
  have hn:H2 D'=none:=fD.1;have afk:(ys.map Prod.snd).length<=sizeLine:=by
   rw[af,yp.length_eq,List.length_zip,sizeLine_eq]
   lia
  have eo:out=(ps.map Prod.snd).toArray:=by rw[←rfl',Array.toArray_toList]
  refine⟨.ref D',upd H2 D' (.lst (ys.map Prod.snd)),I'.adopt fD hD ⟨afk,ps.map Prod.snd,c,yv,?_⟩,rfl,q ys D' yp acU hn⟩;rw[hd,eo]
end
end L2
namespace CN
open VasesBase (Range Bytes)
open Vasesq (textsBelow rangeSize rangesSize)
theorem AY(n:Nat):0<256^n:=Nat.pow_pos (by decide)
theorem j9:∀n,255*textsBelow n+1=256^n
 | 0=>rfl
 | n+1=>by
  have ih:=j9 n;unfold textsBelow at ih ⊢;have hp:256^(n+1)=256^n*256:=bp 256 n;have h1:=AY n;have h2:(256^(n+1)-1)=255*((256^n-1) / 255*256+1):=by lia
  rw[h2,Nat.mul_div_cancel_left _ (by decide)]
  lia
theorem qU(n:Nat):textsBelow (n+1)=textsBelow n*256+1:=by
 have h1:=j9 n;have h2:=j9 (n+1);have hp:256^(n+1)=256^n*256:=bp 256 n
 lia
theorem lF(n:Nat):textsBelow (n+1)=textsBelow n+256^n:=by
 have h1:=j9 n;have h2:=j9 (n+1);have hp:256^(n+1)=256^n*256:=bp 256 n
 lia
theorem vf(n:Nat):textsBelow n<256^n:=by
 have h1:=j9 n;have:=AY n
 lia
theorem mh(h:m<=n):textsBelow m<=textsBelow n:=by
 have h1:=j9 m;have h2:=j9 n;have:=bh (n:=256) (by decide) h
 lia
def fe:Range->Prop
 | .flag=>True
 | .num lo hi=>lo<=hi/\-1000000000<=lo/\hi<=1000000000
 | .text k=>k<=255
theorem mi(h:fe r):rangeSize r<2^2048:=by
 have big:(3000000000:Nat)<2^2048:=by rfl'
 cases r with
 | flag=>exact aX (by decide) big
 | num lo hi=>
  obtain⟨h1,h2,h3⟩:=h;refine aN ?_ big;show(hi-lo+1).toNat<=3000000000
  lia
 | text k=>
  have hk:k<=255:=h;have h1:=vf (k+1);have h2:256^(k+1)<=256^256:=bh (by decide) (by lia);have h3:(256:Nat)^256=2^2048:=by rfl'
  rw[←h3];exact aE h1 h2
theorem ou(h:fe r):0<rangeSize r:=by
 cases r with
 | flag=>decide
 | num lo hi=>
  obtain⟨h1,_⟩:=h;show 0<(hi-lo+1).toNat
  lia
 | text k=>
  show 0<textsBelow (k+1);rw[qU]
  lia
theorem il:∀(l:List Range)(r:Range),rangesSize (l++[r])=rangesSize l*rangeSize r
 | [],r=>by simp[rangesSize]
 | x::l,r=>by
  show rangeSize x*rangesSize (l++[r])=rangeSize x*rangesSize l*rangeSize r;rw[il l r,Nat.mul_assoc]
theorem vg:∀(l:List Range),(∀r∈l,fe r)->rangesSize l<=2^(2048*l.length)
 | [],_=>by simp[rangesSize]
 | x::l,h=>by
  have h1:=mi (h x (by simp));have h2:=vg l λr hr=>h r (by simp[hr]);show rangeSize x*rangesSize l<=2^(2048*(l.length+1));rw[Nat.mul_add,Nat.mul_one,Nat.pow_add,Nat.mul_comm (2^(2048*l.length))];exact Nat.mul_le_mul (a9 h1) h2
theorem kj:∀(l:List Range),(∀r∈l,fe r)->0<rangesSize l
 | [],_=>by simp[rangesSize]
 | x::l,h=>Nat.mul_pos (ou (h x (by simp))) (kj l λr hr=>h r (by simp[hr]))
theorem ln(h:∀r∈l,fe r)(hl:l.length<=4):rangesSize l<2^8200:=by
 have h1:=vg l h;have h2:2^(2048*l.length)<=2^8192:=bh (by decide) (by lia);have h3:(2:Nat)^8192<2^8200:=a5 (by decide) (by decide);exact aN (aA h1 h2) h3
end CN
namespace CN
open VasesBase (Range Bytes)
open Vasesd (Part Branch before insertBranch sorted)
open Vasesq (textsBelow rangeSize rangesSize valRank valsRank valAt valsAt numberBytes bytesNumber textLength rows rowAt total nextRow MOST Msg)
open Vasesb (Val)
theorem ow:∀a:Bytes,before a a=false
 | []=>rfl
 | x::r=>by show(if x=x then before r r else _)=false;rw[ae rfl];exact ow r
theorem pO:∀{a b c:Bytes},before a b=true->before b c=true->before a c=true
 | [],[],_,h,_=>by cases h
 | [],_::_,[],_,h=>by cases h
 | [],_::_,_::_,_,_=>rfl
 | _::_,[],_,h,_=>by cases h
 | _::_,_::_,[],_,h=>by cases h
 | x::r,y::s,z::t,h1,h2=>by
  change (if x=y then before r s else decide (x.toNat<y.toNat))=true at h1;change (if y=z then before s t else decide (y.toNat<z.toNat))=true at h2;show(if x=z then before r t else decide (x.toNat<z.toNat))=true;by_cases e1:x=y
  .subst e1;rw[ae rfl] at h1;by_cases e2:x=z
   .subst e2;rw[ae rfl] at h2 ⊢;exact pO h1 h2
   .rw[aa e2] at h2 ⊢;exact h2
  .rw[aa e1] at h1;by_cases e2:y=z
   .subst e2;rw[aa e1];exact h1
   .rw[aa e2] at h2;have h3:=ai h1;have h4:=ai h2;rw[aa (λe=>by subst e;lia)];exact ao (by lia)
theorem wE(h:before a b=true):before b a=false:=by
 cases e:before b a with
 | false=>rfl
 | true=>exact absurd (pO h e) (by rw[ow];exact aq)
theorem uG:∀{a b:Bytes},before a b=false->before b a=false->a=b
 | [],[],_,_=>rfl
 | [],_::_,h,_=>by cases h
 | _::_,[],_,h=>by cases h
 | x::r,y::s,h1,h2=>by
  change (if x=y then before r s else decide (x.toNat<y.toNat))=false at h1;change (if y=x then before s r else decide (y.toNat<x.toNat))=false at h2;by_cases e1:x=y
  .subst e1;rw[ae rfl] at h1 h2;rw[uG h1 h2]
  .rw[aa e1] at h1;rw[aa (Ne.symm e1)] at h2;have h3:=of_decide_eq_false h1;have h4:=of_decide_eq_false h2;exact absurd (UInt8.toNat_inj.mp (by lia)) e1
theorem Ek:∀{a b:Bytes},before a b=decide (a.map UInt8.toNat<b.map UInt8.toNat)
 | [],[]=>by simp[before]
 | [],_::_=>by simp[before]
 | _::_,[]=>by simp[before]
 | x::r,y::s=>by
  show(if x=y then before r s else decide (x.toNat<y.toNat))=_;rw[ay,ay];by_cases e:x=y
  .subst e;rw[ae rfl,Ek];simp[List.cons_lt_cons_iff]
  .rw[aa e];have:x.toNat≠y.toNat:=λz=>e (UInt8.toNat_inj.mp z);simp[List.cons_lt_cons_iff,this]
def Le(x y:Branch):Prop:=before y.label x.label=false
theorem rV(b:Branch):∀l,(insertBranch b l).Perm (b::l)
 | []=>.refl _
 | c::r=>by
  show(if before b.label c.label=true then b::c::r else c::insertBranch b r).Perm _;split
  .exact .refl _
  .exact((rV b r).cons c).trans (.swap b c r)
theorem vh(b:Branch):∀{l},l.Pairwise Le->(insertBranch b l).Pairwise Le
 | [],_=>by show [b].Pairwise Le;simp
 | c::r,h=>by
  obtain⟨h1,h2⟩:=cF.mp h;show(if before b.label c.label=true then b::c::r else c::insertBranch b r).Pairwise Le;split
  .rename_i hb;refine cF.mpr ⟨λy hy=>?_,h⟩;rcases aw.mp hy with rfl|hy
   .exact wE hb
   .cases e:before y.label b.label with
    | false=>exact e
    | true=>exact absurd (pO e hb) (by rw[show before y.label c.label=false from h1 y hy];exact aq)
  .rename_i hb;refine cF.mpr ⟨λy hy=>?_,vh b h2⟩;rcases aw.mp ((rV b r).mem_iff.mp hy) with rfl|hy
   .exact Bool.eq_false_iff.mpr hb
   .exact h1 y hy
theorem uH:∀(l m:List Branch),m.Pairwise Le->(l.foldl (λm b=>insertBranch b m) m).Perm (m++l)/\(l.foldl (λm b=>insertBranch b m) m).Pairwise Le
 | [],m,h=>⟨by simp,h⟩
 | b::l,m,h=>by
  obtain⟨h1,h2⟩:=uH l (insertBranch b m) (vh b h);refine⟨h1.trans (((rV b m).append_right l).trans ?_),h2⟩;show(b::(m++l)).Perm (m++b::l);exact List.perm_middle.symm
theorem gY(l:List Branch):(sorted l).Perm l:=by
 have:=(uH l [] .nil).1;rw[List.nil_append] at this;exact this
theorem El(l:List Branch):(sorted l).Pairwise Le:=(uH l [] .nil).2
theorem Gx{l:List Branch}(h:(l.map (·.label)).Nodup):∀x∈l,∀y∈l,x.label=y.label->x=y:=by
 intro x hx y hy e;obtain⟨i,hi⟩:=bw hx;obtain⟨j,hj⟩:=bw hy;have h1:(l.map (·.label))[i]?=some x.label:=by rw[ak,hi];rfl
 have h2:(l.map (·.label))[j]?=some x.label:=by rw[ak,hj,e];rfl
 obtain⟨k1,e1⟩:=ax.mp h1;obtain⟨k2,e2⟩:=ax.mp h2;have:=(List.getElem_inj h).mp (e1.trans e2.symm);subst this;rw[hi] at hj;exact aH hj
theorem IE{l m:List Branch}(hn:(l.map (·.label)).Nodup)(hp:m.Perm l)(hs:m.Pairwise Le):m=sorted l:=
 List.Perm.eq_of_pairwise (le:=Le) (λa b ha hb h1 h2=>Gx hn a (hp.mem_iff.mp ha) b ((gY l).mem_iff.mp hb) (uG h2 h1)) hs (El l) (hp.trans (gY l).symm)
def Lt(x y:Branch):Prop:=before x.label y.label=true
theorem Nc{l:List Branch}(hn:(l.map (·.label)).Nodup)(hs:l.Pairwise Le):l.Pairwise Lt:=by
 rw[List.Nodup,bY] at hn;exact(hs.and hn).imp λ{x y} ⟨h1,h2⟩=>by
  cases e:before x.label y.label with
  | true=>exact e
  | false=>exact absurd (uG e h1) h2
theorem EQ{l:List Branch}(hn:(l.map (·.label)).Nodup):(sorted l).Pairwise Lt:=Nc (((gY l).map _).nodup_iff.mpr hn) (El l)
noncomputable def wF(f:Branch->Nat)(label:Bytes):List Branch->Nat
 | []=>0
 | b::r=>if b.label=label then 0 else f b+wF f label r
noncomputable def jA(f:Branch->Nat)(label:Bytes)(l:List Branch):Nat:=((l.filter λb=>before b.label label).map f).sum
theorem Kc:∀{l:List Branch},l.Pairwise Lt->∀{b},b∈l->wF f b.label l=jA f b.label l
 | [],_,b,hb=>by cases hb
 | c::r,h,b,hb=>by
  obtain⟨h1,h2⟩:=cF.mp h;show(if c.label=b.label then 0 else f c+wF f b.label r)=_;unfold jA;by_cases e:c.label=b.label
  .rw[ae e,List.filter_cons_of_neg (by rw[e,ow];exact aq)];have:(r.filter λy=>before y.label b.label)=[]:=by
    rw[List.filter_eq_nil_iff];intro y hy;have:=h1 y hy;rw[Lt,e] at this;rw[wE this];exact aq
   rw[this];rfl
  .rw[aa e];have Y9:b∈r:=by
    rcases aw.mp hb with z|z
    .exact absurd (by rw[z]) e
    .exact z
   rw[List.filter_cons_of_pos (p:=λy:Branch=>before y.label b.label) (h1 b Y9),ay,bF,Kc h2 Y9];rfl
theorem Nd(h:l.Perm m):jA f label l=jA f label m:=((h.filter _).map f).sum_nat
theorem yR(hn:(l.map (·.label)).Nodup)(hb:b∈l):wF f b.label (sorted l)=jA f b.label l:=by
 rw[Kc (EQ hn) ((gY l).mem_iff.mpr hb),Nd (gY l)]
noncomputable def wG(f:Branch->Nat):List Branch->Nat->Option (Branch×Nat)
 | [],_=>none
 | b::l,r=>if r<f b then some (b,r) else wG f l (r-f b)
theorem Gy:∀{l:List Branch} {r:Nat},r<(l.map f).sum->∃b k,wG f l r=some (b,k)
 | [],r,h=>by simp at h
 | c::l,r,h=>by
  rw[ay,bF] at h;show ∃b k,(if r<f c then some (c,r) else wG f l (r-f c))=_;by_cases e:r<f c
  .rw[ae e];exact⟨c,r,rfl⟩
  .rw[aa e];exact Gy (by lia)
theorem Nf:∀{l:List Branch},(l.map (·.label)).Nodup->∀{r k:Nat} {b:Branch},wG f l r=some (b,k)->b∈l/\k<f b/\r=wF f b.label l+k
 | [],_,r,k,b,h=>by cases h
 | c::l,hn,r,k,b,h=>by
  change (if r<f c then some (c,r) else wG f l (r-f c))=some (b,k) at h;rw[ay,bL] at hn;by_cases e:r<f c
  .rw[ae e] at h;cases h;refine⟨by simp,e,?_⟩;show r=(if c.label=c.label then 0 else _)+r;rw[ae rfl];lia
  .rw[aa e] at h;obtain⟨h1,h2,h3⟩:=Nf hn.2 h;refine⟨by simp[h1],h2,?_⟩;show r=(if c.label=b.label then 0 else f c+wF f b.label l)+k;rw[aa (λz=>hn.1 (by rw[z];exact aW.mpr ⟨b,h1,rfl⟩))]
   lia
noncomputable def iV(t:Part):Nat->List Nat
 | 0=>t.states.map λ_=>1
 | n+1=>nextRow t (iV t n)
def eD(t:Part)(n s:Nat):Nat:=(iV t n)[s]?.getD 0
theorem Kd(t:Part):∀n,rows t n=(List.range (n+1)).map (iV t)
 | 0=>rfl
 | n+1=>by
  show rows t n++[nextRow t ((rows t n).getLast?.getD [])]=_;rw[Kd t n,List.range_succ (n:=n+1),aD]
  congr 1
  rw[List.range_succ,aD];simp[iV]
theorem uI(h:k<=N):rowAt (rows t N) k s=eD t k s:=by
 unfold rowAt eD;rw[Kd,ak,List.getElem?_range (by lia)];rfl
theorem ka:total t n s=eD t n s:=uI (ah _)
theorem pP(t:Part):∀n,(iV t n).length=t.states.length
 | 0=>by simp[iV]
 | n+1=>by simp[iV,nextRow]
def gG(t:Part)(n:Nat)(b:Branch):Nat:=rangesSize b.ranges*eD t n b.to
theorem je{t:Part}{s:Nat}(h:s<t.states.length):t.branches s=(t.states[s]).2.branches:=by
 unfold Part.branches Part.node;rw[aR h]
theorem Gz{t:Part}{n s:Nat}(h:s<t.states.length):eD t (n+1) s=min MOST ((t.branches s).map (gG t n)).sum:=by
 rw[je h];show((nextRow t (iV t n))[s]?).getD 0=_;unfold nextRow;rw[ak,aR h];rfl
theorem GA(t:Part):∀n s,eD t n s<=MOST
 | 0,s=>by
  unfold eD iV;rw[ak];cases t.states[s]? with
  | none=>exact aI _
  | some x=>exact Nat.one_le_pow _ _ (by decide)
 | n+1,s=>by
  show((nextRow t (iV t n))[s]?).getD 0<=_;unfold nextRow;rw[ak];cases t.states[s]? with
  | none=>exact aI _
  | some x=>exact Nat.min_le_left _ _
theorem tH:∀l,Vasesq.beforeLabel T n label l=wF (λb=>rangesSize b.ranges*rowAt T n b.to) label l
 | []=>rfl
 | b::r=>by
  show(if b.label=label then 0 else _+Vasesq.beforeLabel T n label r)=(if b.label=label then 0 else _+wF _ label r);rw[tH r]
theorem rW:∀l r,Vasesq.branchOf T n l r=wG (λb=>rangesSize b.ranges*rowAt T n b.to) l r
 | [],_=>rfl
 | b::l,r=>by
  show(if r<_ then some (b,r) else Vasesq.branchOf T n l _)=(if r<_ then some (b,r) else wG _ l _);rw[rW l]
theorem GB(h:n<=N):(λb:Branch=>rangesSize b.ranges*rowAt (rows t N) n b.to)=gG t n:=by
 funext b
 unfold gG;rw[uI h]
noncomputable def mj(t:Part)(s:Nat)(label:Bytes):Option Branch:=(t.branches s).find? λb=>b.label==label
noncomputable def jB(t:Part):Nat->List Msg->Nat
 | _,[]=>0
 | s,m::r=>match mj t s m.label with
  | none=>0
  | some b=>jA (gG t r.length) b.label (t.branches s)+valsRank m.vals b.ranges*eD t r.length b.to+jB t b.to r
theorem uJ(h:mj t s label=some b):b∈t.branches s/\b.label=label:=
 ⟨List.mem_of_find?_eq_some h,by simpa using List.find?_some h⟩
def FU(t:Part):Prop:=∀s,((t.branches s).map (·.label)).Nodup
theorem Em(hl:FU t):∀(l:List Msg)(s:Nat),l.length<=N->Vasesq.rankIn t (rows t N) s l=jB t s l
 | [],s,_=>rfl
 | m::r,s,h=>by
  have hr:r.length<=N:=by simp at h;lia
  show(match mj t s m.label with|none=>0|some b=>_)=(match mj t s m.label with|none=>0|some b=>_);cases e:mj t s m.label with
  | none=>rfl
  | some b=>
   obtain⟨hb,YQ⟩:=uJ e;dsimp only;rw[tH,GB hr,uI hr,Em hl r b.to hr,←YQ];unfold Vasesq.branchesAt;rw[yR (hl s) hb]
theorem tI(hl:FU t):Vasesq.rank t s l=jB t s l:=Em hl l s (ah _)
theorem yS(hl:FU t)(hN:n<=N)(hs:s<t.states.length)(hr:r<eD t (n+1) s):∃b k,Vasesq.branchOf (rows t N) n (Vasesq.branchesAt t s) r=some (b,k)/\b∈t.branches s/\k<gG t n b/\r=jA (gG t n) b.label (t.branches s)+k/\Vasesq.courseIn t (rows t N) (n+1) s r=⟨b.label,valsAt b.ranges (k / eD t n b.to),b.hands⟩::Vasesq.courseIn t (rows t N) n b.to (k%eD t n b.to):=by
 rw[Gz hs] at hr;have Zw:r<((Vasesq.branchesAt t s).map (gG t n)).sum:=by
  unfold Vasesq.branchesAt;rw[((gY (t.branches s)).map (gG t n)).sum_nat];exact aE hr (Nat.min_le_right _ _)
 obtain⟨b,k,e⟩:=Gy Zw;have hn:((Vasesq.branchesAt t s).map (·.label)).Nodup:=((gY _).map _).nodup_iff.mpr (hl s);obtain⟨h1,h2,h3⟩:=Nf hn e;have hb:=(gY (t.branches s)).mem_iff.mp h1;have e2:Vasesq.branchOf (rows t N) n (Vasesq.branchesAt t s) r=some (b,k):=by rw[rW,GB hN,e]
 refine⟨b,k,e2,hb,h2,?_,?_⟩
 .rw[h3];unfold Vasesq.branchesAt;rw[yR (hl s) hb]
 .show (match Vasesq.branchOf (rows t N) n (Vasesq.branchesAt t s) r with|none=>[]|some (b,k)=>_)=_;rw[e2];dsimp only;rw[uI hN]
theorem En(h:k<gG t n b):0<eD t n b.to/\k / eD t n b.to<rangesSize b.ranges/\k%eD t n b.to<eD t n b.to:=by
 unfold gG at h;have hp:0<eD t n b.to:=by
  apply Nat.pos_of_ne_zero;intro z;rw[z,Nat.mul_zero] at h
  lia
 exact⟨hp,(Nat.div_lt_iff_lt_mul hp).mpr h,Nat.mod_lt _ hp⟩
theorem yT:∀(rs:List Range)(r:Range)(n:Nat),0<rangesSize rs->0<rangeSize r->n<rangesSize (rs++[r])->valsAt (rs++[r]) n=valsAt rs (n / rangeSize r)++[valAt r (n%rangeSize r)]
 | [],r,n,_,h2,hn=>by
  have:n<rangeSize r:=by simpa [rangesSize] using hn
  show [valAt r (n / 1)]=[valAt r (n%rangeSize r)];rw[Nat.div_one,Nat.mod_eq_of_lt this]
 | x::xs,r,n,h1,h2,hn=>by
  have ZG:0<rangesSize xs:=Nat.pos_of_mul_pos_left h1;have hp:0<rangesSize xs*rangeSize r:=Nat.mul_pos ZG h2;show valAt x (n / rangesSize (xs++[r]))::valsAt (xs++[r]) (n%rangesSize (xs++[r]))=valAt x (n / rangeSize r / rangesSize xs)::(valsAt xs (n / rangeSize r%rangesSize xs)++[valAt r (n%rangeSize r)]);rw[yT xs r _ ZG h2 (Nat.mod_lt _ (by rw[il];exact hp)),il];rw[Nat.div_div_eq_div_mul,Nat.mul_comm (rangeSize r),Nat.mod_mul_left_mod];rw[Nat.mul_comm (rangesSize xs),Nat.mod_mul_right_div_self]
theorem vj:∀(vs:List Val)(rs:List Range)(v:Val)(r:Range),vs.length=rs.length->valsRank (vs++[v]) (rs++[r])=valsRank vs rs*rangeSize r+valRank v r
 | [],[],v,r,_=>by simp[valsRank,rangesSize]
 | [],_::_,_,_,h=>by simp at h
 | _::_,[],_,_,h=>by simp at h
 | x::xs,y::ys,v,r,h=>by
  show valRank x y*rangesSize (ys++[r])+valsRank (xs++[v]) (ys++[r])=(valRank x y*rangesSize ys+valsRank xs ys)*rangeSize r+valRank v r;rw[vj xs ys v r (by simpa using h),il,Nat.add_mul,Nat.mul_assoc]
  lia
theorem lG(b:Bytes)(c:UInt8):bytesNumber (b++[c])=256*bytesNumber b+c.toNat:=by
 unfold bytesNumber;rw[List.foldl_append];rfl
theorem Ov{α:Type}{P:List α->Prop}(h0:P [])(h1:∀l x,P l->P (l++[x]))(l:List α):P l:=by
 rw[←List.reverse_reverse l]
 induction l.reverse with
 | nil=>exact h0
 | cons x r ih=>rw[ck];exact h1 _ _ ih
theorem tJ(b:Bytes):bytesNumber b<256^b.length:=by
 induction b using Ov with
 | h0=>decide
 | h1 l x ih=>
  rw[lG,aC,bN,bp];have:=x.toNat_lt
  lia
theorem Lb(h:Vasesb.fits v r=true)(wf:fe r):valRank v r<rangeSize r:=by
 cases v with
 | flag b=>cases r with
  | flag=>cases b<;>decide
  | num _ _=>cases h
  | text _=>cases h
 | num n=>cases r with
  | flag=>cases h
  | num lo hi=>
   have:=ai h;show(n-lo).toNat<(hi-lo+1).toNat
   lia
  | text _=>cases h
 | text b=>cases r with
  | flag=>cases h
  | num _ _=>cases h
  | text k=>
   have hb:b.length<=k:=ai h;show textsBelow b.length+bytesNumber b<textsBelow (k+1);have h1:=tJ b;have h2:=lF b.length;have h3:=mh (m:=b.length+1) (n:=k+1) (by lia)
   lia
theorem vk(h1:textsBelow n<=r)(h2:r<textsBelow (n+1)):∀(k m:Nat),m<=n->n<=m+k->textLength k m r=n
 | 0,m,h3,h4=>by show m=n;lia
 | k+1,m,h3,h4=>by
  show(if r<textsBelow (m+1) then m else textLength k (m+1) r)=n;by_cases e:r<textsBelow (m+1)
  .rw[ae e];have:¬m+1<=n:=λz=>by have:=mh z;lia
   lia
  .rw[aa e];have:m≠n:=λz=>by subst z;exact e h2
   exact vk h1 h2 k (m+1) (by lia) (by lia)
theorem jX:∀k n,(numberBytes k n).length=k
 | 0,_=>rfl
 | k+1,n=>by
  show(numberBytes k (n / 256)++[_]).length=k+1;rw[aC,jX];rfl
theorem AZ(h1:n<=256^w)(h2:∀j,j<w->256^j<n):∀(f k:Nat),k<=w->w<=k+f->Vasesq.widthOf f k n=w
 | 0,k,h3,h4=>by show k=w;lia
 | f+1,k,h3,h4=>by
  show(if n<=256^k then k else Vasesq.widthOf f (k+1) n)=w;by_cases e:n<=256^k
  .rw[ae e];by_cases z:k<w
   .have:=h2 k z;lia
   .lia
  .rw[aa e];have:k≠w:=λz=>by subst z;exact e h1
   exact AZ h1 h2 f (k+1) (by lia) (by lia)
end CN
namespace CN
open PySem PySem.Spec PyProof.Rows L2
noncomputable def dy(i:Nat):Stmt:=PySem.Challenge.pw_coursenumbers_s01_answers.main.body.getD i (.Pass ⟨0,0,0,0⟩)
abbrev oS:Stmt:=dy 2
abbrev yU:Stmt:=dy 42
abbrev vm:Stmt:=dy 43
abbrev A0:Stmt:=dy 44
abbrev A1:Stmt:=dy 45
abbrev rX:Stmt:=dy 46
abbrev uK:Stmt:=dy 47
abbrev nQ:Stmt:=dy 48
abbrev tK:Stmt:=dy 49
abbrev yV:Stmt:=dy 50
abbrev yW:Stmt:=dy 51
abbrev yX:Stmt:=dy 52
abbrev yY:Stmt:=dy 53
abbrev vn:Stmt:=dy 54
abbrev A2:Stmt:=dy 55
abbrev yZ:Stmt:=dy 56
abbrev tL:Stmt:=dy 57
abbrev Eo:Stmt:=dy 58
abbrev A3:Stmt:=dy 63
abbrev pQ:Stmt:=dy 64
abbrev vo:Stmt:=dy 65
abbrev y4:Stmt:=dy 66
abbrev A4:Stmt:=dy 68
abbrev qV:Stmt:=dy 69
abbrev oU:Stmt:=dy 70
abbrev Ng:Stmt:=dy 77
abbrev vp:Stmt:=dy 78
abbrev wH:Stmt:=dy 79
abbrev qW:Stmt:=dy 80
abbrev vq:Stmt:=dy 81
abbrev wI:Stmt:=dy 82
abbrev A5:Stmt:=dy 83
abbrev Ep:Stmt:=dy 84
abbrev y6:Stmt:=dy 96
abbrev wJ:Stmt:=dy 97
abbrev A6:Stmt:=dy 98
abbrev qX:Stmt:=dy 99
abbrev vt:Stmt:=dy 100
abbrev y8:Stmt:=dy 101
abbrev A7:Stmt:=dy 102
abbrev y9:Stmt:=dy 103
abbrev vw:Stmt:=dy 113
abbrev tM:Stmt:=dy 114
abbrev wK:Stmt:=dy 115
abbrev Er:Stmt:=dy 116
abbrev GC:Stmt:=dy 117
abbrev wL:Stmt:=dy 118
abbrev za:Stmt:=dy 119
abbrev Es:Stmt:=dy 120
abbrev A8:Stmt:=dy 123
abbrev zb:Stmt:=dy 124
abbrev wM:Stmt:=dy 125
abbrev vx:Stmt:=dy 126
abbrev zc:Stmt:=dy 127
abbrev vy:Stmt:=dy 128
abbrev vz:Stmt:=dy 129
abbrev tN:Stmt:=dy 130
abbrev wN:Stmt:=dy 131
abbrev vA:Stmt:=dy 132
abbrev nR:Stmt:=dy 133
abbrev Et:Stmt:=dy 135
abbrev qY:Stmt:=dy 136
abbrev vB:Stmt:=dy 137
abbrev nS:Stmt:=dy 138
abbrev zd:Stmt:=dy 139
abbrev vC:Stmt:=dy 140
abbrev pR:Stmt:=dy 141
abbrev tO:Stmt:=dy 142
abbrev Nh:Stmt:=dy 143
abbrev A9:Stmt:=dy 144
abbrev Eu:Stmt:=dy 146
abbrev pS:Stmt:=dy 147
abbrev qZ:Stmt:=dy 148
abbrev ze:Stmt:=dy 149
abbrev zf:Stmt:=dy 150
abbrev wO:Stmt:=dy 151
abbrev Ba:Stmt:=dy 185
abbrev Ev:Stmt:=dy 186
abbrev Ew:Stmt:=dy 188
abbrev zg:Stmt:=dy 189
abbrev zh:Stmt:=dy 190
abbrev vD:Stmt:=dC (dy 3) 0
abbrev wP:Stmt:=dC (dy 41) 0
abbrev vF:Stmt:=dC (dy 62) 0
abbrev zi:Stmt:=dC (dy 75) 0
abbrev wQ:Stmt:=dC (dy 76) 0
abbrev vG:Stmt:=dC (dy 93) 0
abbrev wR:Stmt:=dC (dy 94) 0
abbrev zj:Stmt:=dC (dy 95) 0
abbrev tP:Stmt:=dC (dy 112) 0
abbrev rY:Stmt:=dC (dy 183) 0
abbrev vH:Stmt:=dC (dy 184) 0
abbrev zk:Stmt:=dC (dy 187) 0
abbrev tQ:Stmt:=dC (dy 3) 1
abbrev lQ:Stmt:=dC (dy 3) 2
abbrev mG:Stmt:=dC (dy 3) 3
abbrev tR:Stmt:=dC (dy 62) 1
abbrev oV:Stmt:=dC (dy 62) 2
abbrev vI:Stmt:=dC (dy 62) 3
abbrev nU:Stmt:=dC (dy 62) 4
abbrev ra:Stmt:=dC (dy 62) 5
abbrev mm:Stmt:=dC (dy 62) 6
abbrev vJ:Stmt:=dC (dy 62) 7
abbrev nV:Stmt:=dC (dy 62) 8
abbrev nX:Stmt:=dC (dy 62) 9
abbrev jY:Stmt:=dC (dy 62) 10
abbrev mn:Stmt:=dC (dy 62) 11
abbrev vK:Stmt:=dC (dy 184) 1
abbrev tS:Stmt:=dC (dy 184) 2
abbrev vL:Stmt:=dC (dy 184) 3
abbrev tT:Stmt:=dC (dy 184) 4
abbrev vM:Stmt:=dC (dy 184) 5
abbrev rb:Stmt:=dC (dy 184) 6
abbrev tU:Stmt:=dC (dy 184) 7
abbrev pT:Stmt:=dC (dy 184) 8
abbrev tV:Stmt:=dC (dy 184) 9
abbrev tW:Stmt:=dC (dy 184) 10
abbrev vN:Stmt:=dC (dy 184) 11
abbrev rc:Stmt:=dC (dy 184) 12
abbrev vO:Stmt:=dC (dy 184) 13
abbrev mH:Stmt:=dC (dy 184) 14
abbrev re:Stmt:=dC (dy 184) 15
abbrev nY:Stmt:=dC (dy 184) 16
abbrev kP:Stmt:=dC (dy 184) 17
abbrev kQ:Stmt:=dC (dy 184) 18
abbrev kI:Stmt:=dC (dy 184) 19
abbrev kR:Stmt:=dC (dy 184) 20
abbrev mq:Stmt:=dC (dy 184) 21
abbrev oW:Stmt:=dC (dy 184) 22
abbrev tX:Stmt:=dC (dy 187) 1
abbrev Bb:Stmt:=dC (dy 187) 2
abbrev Bc:Stmt:=dC (dy 187) 3
abbrev mr:Stmt:=dC (dy 15) 0
set_option genInjectivity false in
structure dj where
 yD:cS
 xU:cT
 Ju:cS
 HM:cT
 Fr:cS
 Do:cT
 L4:cS
 JG:cT
 L7:cS
 Jw:cT
 zF:cS
 xM:cT
 BZ:cS
 zJ:cT
 rE:cS
 Mf:cT
 Dl:cS
 BV:cT
 JI:cS
 Im:cT
 IY:cS
 HI:cT
 Jo:cS
 Ir:cT
 Jl:cS
 HW:cT
 Fb:cS
 DP:cT
 L8:cS
 Jn:cT
 Jf:cS
 HX:cT
 DA:cS
 B6:cT
 N1:cS
 LR:cT
 pA:cS
 nF:cT
 jI:cS
 jj:cT
 FD:cS
 DI:cT
 zG:cS
 HG:cT
 L9:cS
 Jg:cT
 BU:cS
 An:cT
 yF:cS
 xS:cT
 Td:cS
 Rb:cT
 Fd:cS
 DB:cT
 HK:cS
 FO:cT
 B1:cS
 Au:cT
 Fa:cS
 DL:cT
 HS:cS
 Fe:cT
 Mg:cS
 Jh:cT
 NV:cS
 L5:cT
 Jb:cS
 Ik:cT
 Ig:cS
 Fw:cT
 Md:cS
 Jk:cT
 BX:cS
 Ay:cT
 vW:cS
 DQ:cT
 zK:cS
 Ih:cT
 LV:cS
 Jm:cT
 Jx:cS
 HE:cT
 FE:cS
 C5:cT
 DJ:cS
 B3:cT
 xH:cS
 FA:cT
 NY:cS
 Ma:cT
 Pe:cS
 NP:cT
 HJ:cS
 Fk:cT
 Jt:cS
 HF:cT
 NX:cS
 Mj:cT
 Me:cS
 JF:cT
 Jr:cS
 HR:cT
 Il:cS
 Ff:cT
 E9:cS
 Dr:cT
 Ja:cS
 HB:cT
 Fv:cS
 C2:cT
 Fg:cS
 CY:cT
 Dn:cS
 B2:cT
 Id:cS
 Ft:cT
 FG:cS
 Dg:cT
 xN:cS
 v8:cT
 NO:cS
 LU:cT
 BP:cS
 Ac:cT
 FK:cS
 Dq:cT
 xE:cS
 v9:cT
 JH:cS
 Ip:cT
 Fq:cS
 CZ:cT
 Ak:cS
 yG:cT
 Da:cS
 Cb:cT
 Te:cS
 Rc:cT
 Mi:cS
 JA:cT
 NR:cS
 LW:cT
 Aw:cS
 yI:cT
 Cc:cS
 Ad:cT
 JC:cS
 HN:cT
 Jz:cS
 Io:cT
 HV:cS
 FH:cT
 Mb:cS
 Jj:cT
 NS:cS
 L6:cT
 NQ:cS
 Mc:cT
 Je:cS
 Ie:cT
 IZ:cS
 Iq:cT
 fi:cS
 iO:cS
 dS:cS
 kX:cS
 yz:cS
 eM:cS
 ge:cS
 ic:cS
 lZ:cS
 qB:cS
 dN:cS
 ig:cS
 FF:cS
 Dy:cT
 Ij:cS
 FL:cT
 Fj:cS
 C3:cT
 JB:cS
 HD:cT
 HA:cS
 Fn:cT
 Fx:cS
 Ds:cT
 HL:cS
 Fh:cT
 Jq:cS
 HU:cT
 Dv:cS
 BL:cT
 zI:cS
 xA:cT
 Fp:cS
 DH:cT
 JE:cS
 Ib:cT
 C9:cS
 BN:cT
 uq:cS
 sF:cT
 v5:cS
 uZ:cT
 Di:cS
 B8:cT
 yJ:cS
 xB:cT
 Fy:cS
 Dm:cT
 xQ:cS
 wa:cT
 B4:cS
 As:cT
 u5:cS
 ul:cT
 Fc:cS
 DE:cT
 xy:cS
 v6:cT
 xO:cS
 v4:cT
 pz:cS
 oM:cT
 u9:cS
 up:cT
 FJ:cS
 C0:cT
 Dk:cS
 BW:cT
 Fm:cS
 DN:cT
 Db:cS
 BQ:cT
 E8:cS
 Du:cT
 Ca:cS
 Ap:cT
 DC:cS
 B9:cT
 At:cS
 yH:cT
 Dx:cS
 B0:cT
 Dj:cS
 B7:cT
 Fs:cS
 De:cT
 BS:cS
 Ax:cT
 FI:cS
 DK:cT
 wb:cS
 u7:cT
 B5:cS
 Af:cT
 xT:cS
 v7:cT
 sL:cS
 qG:cT
 sC:cS
 qF:cT
 qH:cS
 qr:cT
 sQ:cS
 qE:cT
 uX:cS
 um:cT
 yE:cS
 xz:cT
 DG:cS
 BM:cT
 LY:cS
 Jd:cT
 LP:cS
 Js:cT
 du:cS
 mD:cS
 oN:cT
 Pa:cS
 Ae:cS
 Ao:cS
 LT:cS
 N0:cS
 S8:cS
structure Txt(K:cV)(mg:Str->Option Value)(a:dj):Prop where
 mF:di K mg "limit_of_totals" oS [] a.yD a.xU
 xD:di K mg "tokens_of" yU ["text"] a.Ju a.HM
 nB:di K mg "past_blanks" vm ["text","place"] a.Fr a.Do
 Al:di K mg "line_end" A0 ["text","place"] a.L4 a.JG
 Am:di K mg "token_at" A1 ["text","place"] a.L7 a.Jw
 xI:di K mg "is_letter" rX ["byte"] a.zF a.xM
 mY:di K mg "is_digit" uK ["byte"] a.BZ a.zJ
 Dd:di K mg "word_at" nQ ["text","place"] a.rE a.Mf
 qC:di K mg "character_of" tK ["byte"] a.Dl a.BV
 rF:di K mg "number_at" yV ["text","place","first_digit"] a.JI a.Im
 xL:di K mg "is_number" yW ["digits","negative"] a.IY a.HI
 rJ:di K mg "amount_of" yX ["digits"] a.Jo a.Ir
 xF:di K mg "quoted_at" yY ["text","place"] a.Jl a.HW
 sM:di K mg "quoted_byte" vn ["text","place"] a.Fb a.DP
 Aq:di K mg "hex_byte" A2 ["first","second"] a.L8 a.Jn
 rH:di K mg "hex_digit" yZ ["byte"] a.Jf a.HX
 ql:di K mg "quoted_width" tL ["text","place"] a.DA a.B6
 C1:di K mg "sign_at" Eo ["text","place"] a.N1 a.LR
 vb:di K mg "read_row" A3 ["reader","sign","read_one"] a.pA a.nF
 m4:di K mg "read_bracketed" pQ ["reader","read_one"] a.jI a.jj
 nH:di K mg "read_handed" vo ["reader"] a.FD a.DI
 oo:di K mg "read_seat" y4 ["reader","count"] a.zG a.HG
 qp:di K mg "width_of" A4 ["total"] a.L9 a.Jg
 lC:di K mg "packed_number" qV ["number","width"] a.BU a.An
 ip:di K mg "unpacked_number" oU ["packed"] a.yF a.xS
 jv:di K mg "fits" Ng ["span","value"] a.Td a.Rb
 kY:di K mg "value_count" vp ["span"] a.Fd a.DB
 pB:di K mg "text_count" wH ["longest"] a.HK a.FO
 oK:di K mg "message_count" qW ["spans"] a.B1 a.Au
 sK:di K mg "value_place" vq ["span","value"] a.Fa a.DL
 uY:di K mg "text_place" wI ["content"] a.HS a.Fe
 Aj:di K mg "value_at" A5 ["span","place"] a.Mg a.Jh
 C6:di K mg "text_at" Ep ["place"] a.NV a.L5
 xK:di K mg "read_part" y6 ["text"] a.Jb a.Ik
 pD:di K mg "read_state" wJ ["reader","count"] a.Ig a.Fw
 u0:di K mg "arrow_of" A6 ["deed"] a.Md a.Jk
 oF:di K mg "read_branches" qX ["reader"] a.BX a.Ay
 kZ:di K mg "read_branch" vt ["reader","count"] a.vW a.DQ
 oq:di K mg "read_span" y8 ["reader","count"] a.zK a.Ih
 Ag:di K mg "read_num" A7 ["reader"] a.LV a.Jm
 xx:di K mg "read_text" y9 ["reader"] a.Jx a.HE
 nE:di K mg "read_course" vw ["text"] a.FE a.C5
 qz:di K mg "read_message" tM ["reader","count"] a.DJ a.B3
 mC:di K mg "read_value" wK ["reader","count"] a.xH a.FA
 yA:di K mg "path_of" Er ["part","number","messages"] a.NY a.Ma
 HP:di K mg "end_of" GC ["number","path"] a.Pe a.NP
 pC:di K mg "wrong_with" wL ["state","message"] a.HJ a.Fk
 rB:di K mg "branch_of" za ["state","label"] a.Jt a.HF
 Dh:di K mg "all_fit" Es ["spans","given"] a.NX a.Mj
 jh:di K mg "bytes_of" A8 ["text"] a.Me a.JF
 xP:di K mg "part_form" zb ["part"] a.Jr a.HR
 va:di K mg "state_form" wM ["state"] a.Il a.Ff
 sD:di K mg "branch_form" vx ["branch"] a.E9 a.Dr
 xR:di K mg "span_form" zc ["span"] a.Ja a.HB
 nG:di K mg "handed_form" vy ["seats"] a.Fv a.C2
 sH:di K mg "course_form" vz ["messages"] a.Fg a.CY
 qm:di K mg "message_form" tN ["message"] a.Dn a.B2
 vc:di K mg "value_form" wN ["value"] a.Id a.Ft
 sG:di K mg "quoted_form" vA ["content"] a.FG a.Dg
 lK:di K mg "quoted_byte_form" nR ["byte"] a.xN a.v8
 DO:di K mg "part_of" Et ["text"] a.NO a.LU
 oO:di K mg "state_numbers" qY ["part"] a.BP a.Ac
 sV:di K mg "check_names" vB ["part","numbers"] a.FK a.Dq
 jH:di K mg "check_state_name" nS ["name","numbers"] a.xE a.v9
 ol:di K mg "check_new" zd ["name","earlier"] a.JH a.Ip
 sT:di K mg "check_seats" vC ["state"] a.Fq a.CZ
 m3:di K mg "check_branches" pR ["state","worker","numbers"] a.Ak a.yG
 qj:di K mg "check_handed" tO ["seats","worker"] a.Da a.Cb
 Pf:di K mg "link" Nh ["state","numbers"] a.Te a.Rc
 Ai:di K mg "label_of" A9 ["branch"] a.Mi a.JA
 Dt:di K mg "rank_of" Eu ["counts","number","messages","path"] a.NR a.LW
 kF:di K mg "courses_before" pS ["counts","number","branch","left"] a.Aw a.yI
 oH:di K mg "message_place" qZ ["branch","message"] a.Cc a.Ad
 xJ:di K mg "course_of" ze ["counts","number","length","rank"] a.JC a.HN
 xG:di K mg "branch_at" zf ["counts","number","left","rank"] a.Jz a.Io
 u1:di K mg "message_at" wO ["branch","place"] a.HV a.FH
 Ah:di K mg "order_of" Ba ["first_rank","second_rank"] a.Mb a.Jj
 gC:di K mg "counted" Ev ["told"] a.NS a.L6
 pF:di K mg "answers" Ew ["calls"] a.NQ a.Mc
 rD:di K mg "answer_of" zg ["teller","feed"] a.Je a.Ie
 rG:di K mg "answer_to" zh ["teller","call","numbers","rows"] a.IZ a.Iq
 iU:gX K mg a.fi "Counts" ["part","limit","rows"]
 u6:gX K mg a.iO "Token" ["kind","content","place","behind"]
 dm:gX K mg a.dS "Reader" ["tokens","at"]
 LQ:gX K mg a.kX "Span" ["kind","least","most"]
 al:gX K mg a.yz "Value" ["kind","content"]
 dY:gX K mg a.eM "Branch" ["label","spans","handed","target","many","goal"]
 FY:gX K mg a.ge "State" ["name","deed","first","second","branches","by_label"]
 ia:gX K mg a.ic "Part" ["title","worker","start","states","form"]
 Dc:gX K mg a.lZ "Message" ["label","given","handed"]
 C7:gX K mg a.qB "Told" ["refusal","messages","path"]
 dZ:gX K mg a.dN "Teller" ["counts"]
 qo:gX K mg a.ig "Feed" ["calls","at"]
 sB:iF K a.fi "Counts.__init__" vD ["self","part"] a.FF a.Dy
 jc:iF K a.iO "Token.__init__" wP ["self","kind","content","place","behind"] a.Ij a.FL
 nA:iF K a.dS "Reader.__init__" vF ["self","text"] a.Fj a.C3
 om:iF K a.kX "Span.__init__" zi ["self","kind","least","most"] a.JB a.HD
 jG:iF K a.yz "Value.__init__" wQ ["self","kind","content"] a.HA a.Fn
 sI:iF K a.eM "Branch.__init__" vG ["self","label","spans","handed","target"] a.Fx a.Ds
 pr:iF K a.ge "State.__init__" wR ["self","name","deed","first","second","branches"] a.HL a.Fh
 xw:iF K a.ic "Part.__init__" zj ["self","title","worker","start","states"] a.Jq a.HU
 mB:iF K a.lZ "Message.__init__" tP ["self","label","given","handed"] a.Dv a.BL
 jx:iF K a.qB "Told.__init__" rY ["self","refusal","messages","path"] a.zI a.xA
 sJ:iF K a.dN "Teller.__init__" vH ["self"] a.Fp a.DH
 xV:iF K a.ig "Feed.__init__" zk ["self","calls"] a.JE a.Ib
 fY:d6 K a.fi "total" "Counts.total" tQ ["self","number","length"] a.C9 a.BN
 jT:d6 K a.fi "total_behind" "Counts.total_behind" lQ ["self","state","last"] a.uq a.sF
 iC:d6 K a.fi "courses_by" "Counts.courses_by" mG ["self","branch","left"] a.v5 a.uZ
 fW:d6 K a.dS "token" "Reader.token" tR ["self"] a.Di a.B8
 j5:d6 K a.dS "sees_end" "Reader.sees_end" oV ["self"] a.yJ a.xB
 fo:d6 K a.dS "sees" "Reader.sees" vI ["self","content"] a.Fy a.Dm
 jL:d6 K a.dS "sees_name" "Reader.sees_name" nU ["self"] a.xQ a.wa
 gu:d6 K a.dS "demand" "Reader.demand" ra ["self","allowed"] a.B4 a.As
 ie:d6 K a.dS "demand_room" "Reader.demand_room" mm ["self","count","most"] a.u5 a.ul
 gn:d6 K a.dS "take" "Reader.take" vJ ["self"] a.Fc a.DE
 eu:d6 K a.dS "take_this" "Reader.take_this" nV ["self","content"] a.xy a.v6
 fX:d6 K a.dS "take_name" "Reader.take_name" nX ["self"] a.xO a.v4
 fB:d6 K a.dS "take_name_within" "Reader.take_name_within" jY ["self","count","most"] a.pz a.oM
 hZ:d6 K a.dS "take_number" "Reader.take_number" mn ["self"] a.u9 a.up
 sW:d6 K a.dN "load" "Teller.load" vK ["self","text"] a.FJ a.C0
 qx:d6 K a.dN "shown" "Teller.shown" tS ["self"] a.Dk a.BW
 sR:d6 K a.dN "size" "Teller.size" vL ["self","i","j"] a.Fm a.DN
 qy:d6 K a.dN "total" "Teller.total" tT ["self","i","n"] a.Db a.BQ
 sP:d6 K a.dN "rank" "Teller.rank" vM ["self","i","text"] a.E8 a.Du
 oJ:d6 K a.dN "course" "Teller.course" rb ["self","i","n","r"] a.Ca a.Ap
 qA:d6 K a.dN "later" "Teller.later" tU ["self","i","k","text"] a.DC a.B9
 mZ:d6 K a.dN "compare" "Teller.compare" pT ["self","i","first_text","second_text"] a.At a.yH
 qt:d6 K a.dN "share" "Teller.share" tV ["self","i","n","j"] a.Dx a.B0
 qu:d6 K a.dN "width" "Teller.width" tW ["self","i","n"] a.Dj a.B7
 sU:d6 K a.dN "pack" "Teller.pack" vN ["self","i","text"] a.Fs a.De
 oG:d6 K a.dN "unpack" "Teller.unpack" rc ["self","i","n","packed"] a.BS a.Ax
 sS:d6 K a.dN "goes" "Teller.goes" vO ["self","i","text"] a.FI a.DK
 ji:d6 K a.dN "has_branch" "Teller.has_branch" mH ["self","i","j"] a.wb a.u7
 lz:d6 K a.dN "branch" "Teller.branch" re ["self","i","j"] a.B5 a.Af
 gz:d6 K a.dN "rank_told" "Teller.rank_told" nY ["self","i","told"] a.xT a.v7
 gO:d6 K a.dN "course_answer" "Teller.course_answer" kP ["self","i","n","r"] a.sL a.qG
 gd:d6 K a.dN "state_refusal" "Teller.state_refusal" kQ ["self","i"] a.sC a.qF
 fj:d6 K a.dN "number_refusal" "Teller.number_refusal" kI ["self","i","n"] a.qH a.qr
 iJ:d6 K a.dN "total_refusal" "Teller.total_refusal" kR ["self","i","n"] a.sQ a.qE
 gB:d6 K a.dN "told_course" "Teller.told_course" mq ["self","i","text"] a.uX a.um
 j4:d6 K a.dN "told_way" "Teller.told_way" oW ["self","i","text","no_course","goes_not"] a.yE a.xz
 qv:d6 K a.ig "is_done" "Feed.is_done" tX ["self"] a.DG a.BM
 qk:d6 K a.ig "one" "Feed.one" Bb ["self"] a.LY a.Jd
 Av:d6 K a.ig "row" "Feed.row" Bc ["self"] a.LP a.Js
 dL:rS K a.du a.mD ["code","place"]
 fL:mg "Fault"=some (.ref a.du)
 Pc:md K "__init__" "Fault.__init__" mr a.mD a.oN
 gy:gW K a.oN ["self","code","place"] []
 NT:lm K mg "BLANKS" a.Pa [.int (32),.int (9),.int (10)]
 kG:Gr K mg "ONE_BYTE_SIGNS" a.Ae [(.inl 61,.str "="),(.inl 123,.str "{"),(.inl 125,.str "}"),(.inl 40,.str "("),(.inl 41,.str ")"),(.inl 91,.str "["),(.inl 93,.str "]"),(.inl 44,.str ","),(.inl 59,.str ";"),(.inl 58,.str ":"),(.inl 33,.str "!"),(.inl 63,.str "?"),(.inl 124,.str "|")]
 kE:Gs K mg "TWO_BYTE_SIGNS" a.Ao [([.inl 45,.inl 62],.str "->"),([.inl 60,.inl 45],.str "<-")]
 jK:lm K mg "RESERVED" a.LT [.str "script",.str "parties",.str "seat",.str "of",.str "start",.str "end",.str "both",.str "flag",.str "num",.str "text",.str "part",.str "stop",.str "send",.str "recv",.str "program",.str "for",.str "def",.str "if",.str "pick",.str "any",.str "set",.str "go",.str "true",.str "false"]
 Kx:lm K mg "NUMBERS" a.N0 [.int (0),.int (0),.int (2),.int (2),.int (1),.int (3),.int (2),.int (1),.int (3),.int (2),.int (1),.int (2),.int (1)]
 S9:lm K mg "ROWS" a.S8 [.int (1),.int (0),.int (0),.int (0),.int (1),.int (0),.int (1),.int (2),.int (0),.int (0),.int (1),.int (1),.int (1)]
 Jc:eB mg "LIMIT_ZEROS" (1000)
 O8:eB mg "TOO_LONG" (1)
 qD:eB mg "NO_TOKEN" (2)
 Jv:eB mg "NOT_ALLOWED" (3)
 Pd:eB mg "TOO_MANY" (4)
 HY:eB mg "NAMED_BEFORE" (5)
 E7:eB mg "NO_SUCH_STATE" (6)
 EJ:eB mg "NO_BOUNDS" (7)
 LZ:eB mg "SAME_SEATS" (8)
 HQ:eB mg "HANDS_WORKER" (9)
 Fz:eB mg "FORM_TOO_LONG" (10)
 qw:eB mg "LONGEST_TEXT" (4096)
 HZ:eB mg "LONGEST_WORD" (16)
 C8:eB mg "LONGEST_QUOTED" (255)
 BO:eB mg "GREATEST_NUMBER" (1000000000)
 Ji:eB mg "MOST_DIGITS" (10)
 Tg:eB mg "WORD" (1)
 BT:eB mg "NUMBER" (2)
 NU:eB mg "QUOTED" (3)
 S5:eB mg "SIGN" (4)
 Ut:eB mg "END" (5)
 rK:eB mg "LINE_FEED" (10)
 yy:eB mg "QUOTE" (34)
 Ti:eB mg "HASH" (35)
 T5:eB mg "MINUS" (45)
 LX:eB mg "ZERO" (48)
 on:eB mg "BACKSLASH" (92)
 Rf:eB mg "SMALL_N" (110)
 Kz:eB mg "SMALL_X" (120)
 Jy:eB mg "MOST_HANDED" (2)
 Jp:eB mg "MOST_STATES" (64)
 FM:eB mg "MOST_BRANCHES" (16)
 LS:eB mg "MOST_SPANS" (4)
 HC:eB mg "LONGEST_SPAN" (255)
 vX:eB mg "MOST_MESSAGES" (64)
 JD:eB mg "MOST_VALUES" (4)
 Ii:eB mg "MAY_COME" (0)
 Re:eB mg "AT_STOP" (1)
 Fo:eB mg "NO_SUCH_LABEL" (3)
 Ia:eB mg "VALUES_UNFIT" (5)
 FN:eB mg "HANDED_UNLIKE" (6)
 eO:eB mg "NO_REFUSAL" (0)
 Ky:eB mg "NO_PART" (-1)
 rC:eB mg "NOT_THERE" (-2)
 EK:eB mg "TOO_GREAT" (-3)
 NW:eB mg "NO_COURSE" (-4)
 O9:eB mg "GOES_NOT" (-5)
 C4:eB mg "NO_RANK" (-6)
 FC:eB mg "NO_SUCH_WIDTH" (-7)
 Ar:eB mg "NO_SECOND_COURSE" (-7)
 BR:eB mg "SECOND_GOES_NOT" (-8)
 Dz:eB mg "LENGTHS_UNLIKE" (-9)
 S7:eB mg "BEFORE" (1)
 Wi:eB mg "SAME" (2)
 Tb:eB mg "BEHIND" (3)
 Tc:eB mg "LOAD" (0)
 Ua:eB mg "SHOWN" (1)
 Wh:eB mg "SIZE" (2)
 T7:eB mg "TOTAL" (3)
 Wg:eB mg "RANK" (4)
 Tf:eB mg "COURSE" (5)
 T8:eB mg "LATER" (6)
 Rg:eB mg "COMPARE" (7)
 T9:eB mg "SHARE" (8)
 T6:eB mg "WIDTH" (9)
 Wk:eB mg "PACK" (10)
 Ta:eB mg "UNPACK" (11)
 Wj:eB mg "GOES" (12)
 S6:tD mg "DIGITS" "0123456789"
 Fu:tD mg "GREAT_LETTERS" "ABCDEFGHIJKLMNOPQRSTUVWXYZ"
 Fi:tD mg "SMALL_LETTERS" "abcdefghijklmnopqrstuvwxyz"
 DF:tD mg "FLAG" "flag"
 KA:tD mg "NUM" "num"
 sO:tD mg "TEXT" "text"
 Ic:tD mg "STOP" "stop"
 Th:tD mg "SEND" "send"
 Wl:tD mg "RECV" "recv"
 BY:tD mg "HEX_DIGITS" "0123456789abcdef"
 zH:mg "enumerate"=none
 d5:mg "len"=none
 NZ:mg "list"=none
 Uc:mg "min"=none
 Ub:mg "ord"=none
 uo:mg "range"=none
 u4:mg "reversed"=none
 Pb:mg "sorted"=none
 FZ:mg "str"=none
 DM:mg "tuple"=none
 Mh:mg "zip"=none
end CN
namespace CN
open PySem PySem.Spec PyProof.Rows L2
open VasesBase (Bytes word Fault PTok Toks PName isBlank isDigit isLetter)
abbrev uL:=VasesBase.Tok
open Classical in
noncomputable def dv(W:cS->Prop)(H:Hp):Hp:=λb=>if W b then none else H b
theorem dW(h:dv W H b=some o):H b=some o/\¬W b:=by
 unfold dv at h;split at h
 .cases h
 .exact⟨h,by assumption⟩
theorem dQ(h:H b=some o)(n:¬W b):dv W H b=some o:=by
 unfold dv;rw[aa n];exact h
theorem d4(h:fC W H H'):bn (dv W H) (dv W H'):=λb o e=>by
 obtain⟨e,n⟩:=dW e;exact dQ (h b o e n) n
theorem pU(h:∀b,W b->W' b):bn (dv W' H) (dv W H):=λb o e=>by
 obtain⟨e,n⟩:=dW e;exact dQ e λz=>n (h b z)
theorem jn:bn (dv W H) H:=λb o e=>(dW e).1
def fT(W:cS->Prop)(H:Hp):Prop:=∀b,W b->H b≠none
theorem fT.no(h:fT W H)(e:H p=none):¬W p:=λz=>h p z e
theorem fT.but(h:fT W H)(k:fC M H H')(m:∀b,M b->H' b≠none):fT W H':=λb z e=>by
 by_cases q:M b
 .exact m b q e
 .cases r:H b with
  | none=>exact h b z r
  | some o=>rw[k b o r q] at e;cases e
def Add(W:cS->Prop)(p:cS):cS->Prop:=λb=>W b∨b=p
noncomputable def strOf(b:Bytes):Str:=⟨(b.map UInt8.toNat).toArray⟩
noncomputable def dc(b:Bytes):List V:=b.map λc=>V.int (c.toNat:Int)
noncomputable def ff(c:Nat):Str:=if c=1 then "->" else if c=2 then "<-" else ⟨#[c]⟩
theorem hG(h:strOf b=strOf c):b=c:=by
 unfold strOf at h;have h1:(b.map UInt8.toNat).toArray=(c.map UInt8.toNat).toArray:=au Str.cps h;have h2:b.map UInt8.toNat=c.map UInt8.toNat:=by simpa using h1
 exact List.map_inj_right (λx y e=>UInt8.toNat_inj.mp e) |>.mp h2
theorem rf(b:Bytes):(strOf b).length=b.length:=by
 unfold strOf Str.length;simp
noncomputable def gL:uL->Int
 | .name _=>1
 | .num _=>2
 | .text _=>3
 | .sign _=>4
 | .halt_=>5
def uM(G:Hp):uL->V->Prop
 | .name b,c=>c=.str (strOf b)
 | .num n,c=>c=.int n
 | .text b,c=>∃q,c=.ref q/\G q=some (.tup (dc b))
 | .sign s,c=>c=.str (ff s)
 | .halt_,c=>c=.str ""
def yj:uL->Prop
 | .name b=>b≠[]/\b.length<=16/\∀x∈b,isLetter x=true∨isDigit x=true
 | .num n=>-1000000000<=n/\n<=1000000000
 | .text b=>b.length<=255
 | .sign s=>s=1∨s=2∨s∈VasesBase.SIGNS.map UInt8.toNat
 | .halt_=>True
def Lc(a:dj)(t:PTok)(dx:cS)(c be:V):HO:=.ins a.iO dx [("kind",.int (gL t.tok)),("content",c),("place",.int t.place),("behind",be)]
def gp(a:dj)(G:Hp)(p:cS)(t:PTok):Prop:=yj t.tok/\∃dx c be,G p=some (Lc a t dx c be)/\uM G t.tok c
theorem uM.same(h:bn G G')(x:uM G t c):uM G' t c:=by
 cases t with
 | text b=>obtain⟨q,e,z⟩:=x;exact⟨q,e,h _ _ z⟩
 | _=>exact x
theorem gp.same(h:bn G G'):gp a G p t->gp a G' p t:=λ⟨wf,dx,c,be,e,x⟩=>⟨wf,dx,c,be,h _ _ e,x.same h⟩
def dH(a:dj)(G:Hp)(p:cS)(n:PName):Prop:=gp a G p ⟨n.place,.name n.name⟩
def dX{α:Type}(P:Hp->cS->α->Prop)(G:Hp)(ps:List cS)(xs:List α):Prop:=Paired (P G) ps xs
def IsList{α:Type}(P:Hp->cS->α->Prop)(G:Hp)(l:cS)(xs:List α):Prop:=∃ps,G l=some (.lst (ps.map V.ref))/\dX P G ps xs
def pV{α:Type}(P:Hp->cS->α->Prop):Prop:=∀G G' p x,bn G G'->P G p x->P G' p x
theorem dX.same(m:pV P)(h:bn G G')(e:dX P G ps xs):dX P G' ps xs:=by
 unfold dX at *
 induction e with
 | nil=>exact .nil
 | cons a _ ih=>exact .cons (m _ _ _ _ h a) ih
theorem IsList.same(m:pV P)(h:bn G G'):IsList P G l xs->IsList P G' l xs:=λ⟨ps,e,z⟩=>⟨ps,h _ _ e,z.same m h⟩
theorem dX.snoc(e:dX P G ps xs)(h:P G p x):dX P G (ps++[p]) (xs++[x]):=by
 unfold dX at *
 induction e with
 | nil=>exact .cons h .nil
 | cons a _ ih=>exact .cons a ih
theorem dX.len(e:dX P G ps xs):ps.length=xs.length:=by
 unfold dX at *
 induction e with
 | nil=>rfl
 | cons a _ ih=>simp[ih]
theorem dX.get{α:Type}{P:Hp->cS->α->Prop}{G:Hp}{ps:List cS}{xs:List α}(e:dX P G ps xs):∀{i:Nat} {x:α},xs[i]?=some x->∃p,ps[i]?=some p/\P G p x:=by
 unfold dX at *
 induction e with
 | nil=>intro i x h;simp at h
 | cons a _ ih=>
  intro i x h;cases i with
  | zero=>simp at h;subst h;exact⟨_,rfl,a⟩
  | succ i=>simp at h ⊢;exact ih h
theorem dX.get'(e:dX P G ps xs):∀{i:Nat} {p:cS},ps[i]?=some p->∃x,xs[i]?=some x/\P G p x:=by
 unfold dX at *
 induction e with
 | nil=>intro i x h;simp at h
 | cons a _ ih=>
  intro i x h;cases i with
  | zero=>simp at h;subst h;exact⟨_,rfl,a⟩
  | succ i=>simp at h ⊢;exact ih h
theorem jC(a:dj):pV (gp a):=λ_ _ _ _ h x=>x.same h
theorem dG(a:dj):pV (dH a):=λ_ _ _ _ h x=>gp.same h x
def uN:Toks->Prop
 | []=>False
 | [t]=>t.tok=.halt_
 | t::u::r=>t.tok≠.halt_/\uN (u::r)
noncomputable def Ke(a:dj)(dx tl:cS)(k:Nat):HO:=.ins a.dS dx [("tokens",.ref tl),("at",.int k)]
def eC(a:dj)(W:cS->Prop)(H:Hp)(r:cS)(l:Toks):Prop:=
 W r/\∃dx tl ts k,H r=some (Ke a dx tl k)/\IsList (gp a) (dv W H) tl ts/\ts.length<=4097/\ts.drop k=l/\uN l
def Fl(a:dj)(M:cS->Prop)(H:Hp)(E:XK)(f:Fault):Prop:=
 ∀dx H',fC M H H'->H' dx=some (XA dx [("code",.int f.code),("place",.int f.place)])->E (.ref a.du) (some dx) H'
theorem fU{a:dj}{M:cS->Prop}{H:Hp}{E:XK}{f:Fault}{i j:Int}(h:Fl a M H E f)(ei:i=f.code)(ej:j=f.place):M4 a.du "code" "place" E [.int i,.int j] H:=
 ⟨_,_,rfl,λdx H2 _ s e=>h dx H2 s.but (by rw[←ei,←ej];exact e)⟩
theorem Fl.but(h:Fl a M H E f)(k:fC M H H1):Fl a M H1 E f:=λdx H' b x=>h dx H' (k.trans b) x
theorem Fl.more(h:Fl a M H E f)(k:∀b,M' b->M b):Fl a M' H E f:=λdx H' b x=>h dx H' (λc o e n=>b c o e λz=>n (k c z)) x
def lS{α:Type}(a:dj)(M:cS->Prop)(H:Hp)(Q:VK)(E:XK)(r:Except Fault α)(ok:α->V->Hp->Prop):Prop:=
 match r with
 | .ok x=>∀v H',fC M H H'->ok x v H'->Q v H'
 | .error f=>Fl a M H E f
end CN
namespace CN
open PySem PySem.Spec PyProof.Rows L2
open Classical in
noncomputable def Ex(W:cS->Prop)(H H':Hp):Hp:=λb=>if W b then H b else H' b
theorem wS(h:W b):Ex W H H' b=H b:=ae h
theorem kl(h:¬W b):Ex W H H' b=H' b:=aa h
def m9(W:cS->Prop)(H:Hp):Prop:=∀b,W b->(∃xs,H b=some (.lst xs))∨(∃C dx fs,H b=some (.ins C dx fs)/\W dx)∨(∃x,H b=some (.own x)/\W x)
theorem m9.no_tup(h:m9 W H)(e:H b=some (.tup xs)):¬W b:=λz=>by
 rcases h b z with ⟨_,q⟩|⟨_,_,_,q,_⟩|⟨_,q,_⟩<;>· rw[e] at q;cases q
theorem m9.no_frz(h:m9 W H)(e:H b=some (.frz o u)):¬W b:=λz=>by
 rcases h b z with ⟨_,q⟩|⟨_,_,_,q,_⟩|⟨_,q,_⟩<;>· rw[e] at q;cases q
theorem m9.no_tbl(h:m9 W H)(e:H b=some (.tbl ps)):¬W b:=λz=>by
 rcases h b z with ⟨_,q⟩|⟨_,_,_,q,_⟩|⟨_,q,_⟩<;>· rw[e] at q;cases q
theorem m9.has(h:m9 W H)(z:W b):∃o,H b=some o:=by
 rcases h b z with ⟨_,q⟩|⟨_,_,_,q,_⟩|⟨_,q,_⟩<;>exact⟨_,q⟩
theorem GD(h:W b):dv W H b=none:=ae h
theorem pW(h:H b=none):dv W H b=none:=by
 unfold dv;split
 .rfl
 .exact h
def Ld(sp:Sp):Sp:=λvs H Q E=>∃W,m9 W H/\sp vs (dv W H) (λv H'=>(∀b,W b->H' b=none)->Q v (Ex W H H')) E
theorem frame{P:Program}{w:World}{K:cV}{mg:Str->Option Value}{base:Heap}{k:Nat}{f:cS}{fd:cT}{ps:List Str}{sp:Sp}(F:eS P w K mg base lP k f fd ps sp):eS P w K mg base lP k f fd ps (Ld sp):=by
 refine⟨λvs H Q E ⟨W,_,h⟩=>F.len _ _ _ _ h,λA outer s H args us vs Q E hr e0 hb hv ⟨W,lo,hs⟩=>?_⟩;have e1:mL P w K mg base A outer s (dv W H):=by
  refine⟨e0.frames,e0.mod,λb o e=>⟨(e0.bs b o e).1,pW (e0.bs b o e).2⟩,e0.bsz,e0.funs,λb hb=>pW (e0.frf b hb),λa o e=>?_,e0.bare⟩;obtain⟨e,nW⟩:=dW e;refine(e0.hok a o e).stay (λb u _ q=>q) (λb q=>dQ q λz=>?_) λb xs q=>dQ q (lo.no_tup q);rcases lo b z with ⟨_,r⟩|⟨_,_,_,r,_⟩|⟨x,r,hx⟩
  .rw[q] at r;cases r
  .rw[q] at r;cases r
  .rw[q] at r;cases r;exact nW hx
 refine bu (F.run A outer s (dv W H) args us vs _ E hr e1 hb hv hs) λr s' hq=>?_;cases r with
 | error e=>exact hq
 | ok fl=>
  cases fl with
  | next=>exact hq
  | brk=>exact hq
  | cont=>exact hq
  | ret u=>
   obtain⟨v,H',os,bare,un,hok,rv,q⟩:=hq;have there:∀b,W b->∃ob,s.heap.get? b=Option.some ob/\s'.heap.get? b=Option.some ob:=λb z=>by
    obtain⟨o,eo⟩:=lo.has z;obtain⟨ob,Ya⟩:∃ob,s.heap.get? b=Option.some ob:=by
     rcases lo b z with ⟨_,r⟩|⟨_,_,_,r,_⟩|⟨_,r,_⟩
     .obtain⟨_,_,_,_,e'⟩:=e0.hok b _ r;exact⟨_,e'⟩
     .obtain⟨_,_,_,e',_⟩:=e0.hok b _ r;exact⟨_,e'⟩
     .exact e0.hok b _ r
    refine⟨ob,Ya,un.keep b ob Ya (GD z) (λhf=>?_) (by simp)⟩;have:=e0.frf b hf;rw[eo] at this;cases this
   have gone:∀b,W b->H' b=none:=λb z=>let ⟨ob,h1,_⟩:=there b z;un.free b ob h1 (GD z) (by simp);refine⟨v,Ex W H H',os,bare,⟨λb o e n hf hx=>un.keep b o e (pW n) hf hx,λb o e n hf hx=>un.slot b o e (pW n) hf hx,λb o e n hx=>?_,λb o e hx=>un.there b o e hx,λb xs e=>?_,λb o u e=>?_,λb ps e=>?_⟩,λa o e=>?_,rv,q gone⟩
   .have nW:¬W b:=λz=>by
     obtain⟨o',eo⟩:=lo.has z;rw[n] at eo;cases eo
    rw[kl nW];exact un.free b o e (pW n) hx
   .have nW:=lo.no_tup e;rw[kl nW];exact un.tups b xs (dQ e nW)
   .have nW:=lo.no_frz e;rw[kl nW];exact un.frzs b o u (dQ e nW)
   .have nW:=lo.no_tbl e;obtain⟨more,z⟩:=un.tbls b ps (dQ e nW);exact⟨more,by rw[kl nW];exact z⟩
   .by_cases hW:W a
    .rw[wS hW] at e;have ok:=e0.hok a o e;obtain⟨oa,ZK,ad0⟩:=there a hW;rcases lo a hW with ⟨xs,r⟩|⟨C,dx,fs,r,hd⟩|⟨x,r,hx⟩
     .rw[e] at r;cases r;obtain⟨z,Xa,n,r,e'⟩:=ok;exact⟨z,Xa,n,r,by rw[ZK] at e';rw[ad0];exact e'⟩
     .rw[e] at r;cases r;obtain⟨od,YX,hd2⟩:=there dx hd;have own:H dx=Option.some (.own a):=ok.1;have small:eR P w (λb=>if b=dx then Option.some (.own a) else none) s.heap a (.ins C dx fs):=⟨ae rfl,ok.2⟩;refine small.stay (λb u hb q=>?_) (λb q=>?_) λb xs q=>?_
      .have hb:b=a∨b=dx:=by
        rcases hb with hb|hb
        .exact .inl hb
        .right;apply bG;intro z;rw[aa z] at hb;cases hb
       rcases hb with rfl|rfl
       .rw[ZK] at q;rw[ad0];exact q
       .rw[YX] at q;rw[hd2];exact q
      .have hb:b=dx:=by
        apply bG;intro z;rw[aa z] at q;cases q
       rw[hb,wS hd];exact own
      .split at q<;>cases q
     .rw[e] at r;cases r;exact⟨oa,ad0⟩
    .rw[kl hW] at e;refine(hok a o e).stay (λb u _ q=>q) (λb q=>?_) λb xs q=>?_
     .rw[kl (λz=>by rw[gone b z] at q;cases q)];exact q
     .rw[kl (λz=>by rw[gone b z] at q;cases q)];exact q
end CN
namespace CN
open PySem PySem.Spec PyProof.Rows L2
variable{P:Program}{w:World}{K:cV}{mg:Str->Option Value}{base:Heap}{a:dj}
def Sn(g:Int->Bool):Sp:=λvs H Q _=>∃i,vs=[.int i]/\Q (.bl (g i)) H
noncomputable def lI(i:Int):Bool:=decide (48<=i/\i<=57)
noncomputable def i5(i:Int):Bool:=decide (65<=i/\i<=90)||decide (97<=i/\i<=122)
theorem IF:jm ["byte"] ["byte"] (dr uK):=⟨rfl,rfl,rfl,by rfl',rfl,by rfl',by rfl'⟩
theorem kT(T:Txt K mg a):eS P w K mg base lP 1 a.BZ a.zJ ["byte"] (Sn lI):=by
 refine T.mY.fn.ok IF (λvs H Q E h=>?_) (λW8 A outer s H vs Q E hr h=>?_)
 .obtain⟨i,rfl,_⟩:=h;rfl
 .obtain⟨i,rfl,k⟩:=h;refine⟨_,am (bi (pI jV jV cr (pv 0) cr)),?_⟩;refine⟨_,rfl,_,_,rfl,rfl,_,rfl,cX (λh1=>?_) (λh1=>?_)⟩
  .refine⟨_,_,rfl,rfl,?_⟩;have e:lI i=decide (i<=57):=by
    unfold lI;have h2:(48:Int)<=i:=ai h1;simp[h2]
   rw[e] at k;exact k
  .have e:lI i=false:=by
    unfold lI;have h2:¬(48:Int)<=i:=λz=>h1 (ao z);simp[h2]
   rw[e] at k;exact k
theorem GE:jm ["byte"] ["byte"] (dr rX):=⟨rfl,rfl,rfl,by rfl',rfl,by rfl',by rfl'⟩
theorem wT(T:Txt K mg a):eS P w K mg base lP 1 a.zF a.xM ["byte"] (Sn i5):=by
 refine T.xI.fn.ok GE (λvs H Q E h=>?_) (λW8 A outer s H vs Q E hr h=>?_)
 .obtain⟨i,rfl,_⟩:=h;rfl
 .obtain⟨i,rfl,k⟩:=h;refine⟨_,am (bi (qI (pI jV jV cr (pv 0) cr) (pH (pI jV jV cr (pv 0) cr)))),?_⟩;have tail:∀(hn:¬(65<=i/\i<=90)),AC (oQ λi j=>V.bl (decide (i<=j))) (oQ λi j=>V.bl (decide (i<=j))) (tC (.int 97)) (gD 0) (tC (.int 122)) [some (.int i)] H Q:=λhn=>by
   refine⟨_,rfl,_,_,rfl,rfl,_,rfl,cX (λh1=>?_) (λh1=>?_)⟩
   .refine⟨_,_,rfl,rfl,?_⟩;have e:i5 i=decide (i<=122):=by
     unfold i5;have h2:(97:Int)<=i:=ai h1;rw[a6 hn];simp[h2]
    rw[e] at k;exact k
   .have e:i5 i=false:=by
     unfold i5;have h2:¬(97:Int)<=i:=λz=>h1 (ao z);rw[a6 hn];simp[h2]
    rw[e] at k;exact k
  refine⟨_,rfl,_,_,rfl,rfl,_,rfl,cX (λh1=>?_) (λh1=>?_)⟩
  .refine⟨_,_,rfl,rfl,_,rfl,cX (λh3=>?_) (λh3=>?_)⟩
   .have e:i5 i=true:=by
     unfold i5;have h2:(65:Int)<=i:=ai h1;have h4:i<=90:=ai h3;simp[h2,h4]
    rw[e] at k;exact k
   .exact tail λz=>h3 (ao z.2)
  .exact⟨_,rfl,eQ (tail λz=>h1 (ao z.1))⟩
end CN
namespace CN
open PySem PySem.Spec PyProof.Rows L2
open VasesBase (Bytes word Fault PTok Toks PName isBlank isDigit isLetter next here nameNext takeName takeNum takeSign takeWord)
variable{P:Program}{w:World}{K:cV}{mg:Str->Option Value}{base:Heap}{a:dj}(T:Txt K mg a)
set_option hygiene false in
local macro_rules|`(tactic|specialize $e)=>`(tactic|(refine $e fun W8 A outer s H vs Q E hr h nd hu W9=>?_;intro X))
open L2.Z
local macro_rules|`(tactic|exists $e)=>`(tactic|with_reducible refine $e ?_)
local macro_rules|`(tactic|and_intros)=>`(tactic|first|exact Txt.iU ‹_›|exact Txt.u6 ‹_›|exact Txt.dm ‹_›|exact Txt.LQ ‹_›|exact Txt.al ‹_›|exact Txt.dY ‹_›|exact Txt.FY ‹_›|exact Txt.ia ‹_›|exact Txt.Dc ‹_›|exact Txt.C7 ‹_›|exact Txt.dZ ‹_›|exact Txt.qo ‹_›)
open Lean in
local macro_rules|`(tactic|infer_instance)=>do
 let f(s:String)(g:Ident->MacroM (TSyntax `tactic))(t:TSyntax `tactic):=(s.splitOn " ").foldrM (fun x t=>do `(tactic|first|$(← g (mkIdent (.mkSimple x))):tactic|$t:tactic)) t
 f "Tu WT Wm r_c M3 FT r_retN M2 WU Ww r_tB r_op WY WA Wn WB WC WZ WD r_cb W1 r_tup WV r_or WW Wx WX Wy r_if r_un Wz W2 W6 UL WN WO WQ r_m1 r_sl WM Wp WG Wq Wr Ws WH WI WJ r_lc W3 WK r_bm Wo WR W7 Wv WS" (fun i=>`(tactic|((with_reducible refine (?_ : type_of% $i) ?_);exact fun h=>h))) (← f "r_bl r_I0 r_U W5 W4 WL Wt" (fun i=>`(tactic|with_reducible refine $i ?_)) (← f "WP Us Tx WE r_iL r_iT r_En r_Rv Wu" (fun i=>`(tactic|((with_reducible apply $i);assumption))) (← `(tactic|fail))))
local macro_rules|`(tactic| array_get_dec)=>`(tactic| first
 | ((with_reducible apply Tw);exact rfl)
 | infer_instance
 | ((with_reducible refine UF ?_ ?_);exact rfl)
 | ((with_reducible refine UG ?_ ?_);exact rfl)
 | ((with_reducible apply Sf);(first|assumption|exact bv);and_intros;decide;exact rfl)
 | ((with_reducible apply QB);(first|assumption|exact bv);exact rfl)
 | ((with_reducible apply Cp);(first|assumption|exact bv);and_intros;decide;exact Nat.le_of_ble_eq_true rfl;exact rfl)
 | ((with_reducible refine UH ?_ ?_ ?_);lia;lia)
 | ((with_reducible apply UI);assumption;assumption)
 | ((with_reducible apply tF);(first|exact bv|assumption))
 | ((with_reducible apply Tv);exact rfl))
local macro_rules|`(tactic|left)=>`(tactic|repeat array_get_dec)
local macro_rules|`(tactic|refine' $e)=>`(tactic|(refine $e;left))
theorem ER:jm ["self","code","place"] ["self","code","place"] (dr mr):=⟨rfl,rfl,rfl,by rfl',rfl,by rfl',by rfl'⟩
theorem eE(T:Txt K mg a):eS P w K mg base lP 1 a.mD a.oN ["self","code","place"] (RW a.du "code" "place"):=by
 refine T.Pc.ok ER (λvs H Q E h=>?_) (λW8 A outer s H vs Q E hr h=>?_)
 .obtain⟨x,a,b,fl,rfl,_⟩:=h;rfl
 .obtain⟨x,y,z,fl,rfl,hx,k⟩:=h;refine⟨_,ad (J6 T.dL (by decide) (pv 0) (pv 1)) (am (J6 T.dL (by decide) (pv 0) (pv 2))),?_⟩;exact K3 (X:=(j7 lP P w K mg base ["self","code","place"] "Fault.__init__" (dr mr) a.mD W8 A outer s H E).nox) (E:=E) (by decide) hx k
def TB(a:dj):Sp:=λvs H Q _=>∃W r l,vs=[.ref r]/\eC a W H r l/\∀p t l',l=t::l'->gp a (dv W H) p t->Q (.ref p) H
theorem fN:iA P w base T.fW mg 1 (TB a):=by
 specialize T.fW.fn.okN ["self"];obtain⟨W,r,l,rfl,⟨hW,dx,tl,ts,k,Xd,⟨ps,Xv,Yv⟩,hb,hd,hg⟩,q⟩:=h;refine⟨_,(am (bi (eF (da (pv 0)) (da (pv 0))))),?_⟩;cases l with
 | nil=>exact hg.elim
 | cons t l'=>
  have ht:ts[k]?=some t:=by
   have:=au (·[0]?) hd;simpa using this
  obtain⟨p,hp,tp⟩:=Yv.get ht;unfold Ke at Xd;left;refine eg (dW Xv).1 rfl (v:=.ref p) (by rw[ak,hp];rfl) ?_;exact q p t l' rfl tp
theorem eC.obj(h:eC a W H r l):∃(dx tl:cS)(k:Nat),H r=some (.ins a.dS dx [("tokens",.ref tl),("at",.int k)]):=by
 obtain⟨hW,dx,tl,ts,k,Xd,_⟩:=h;exact⟨dx,tl,k,Xd⟩
theorem gp.obj(h:gp a (dv W H) p t):∃dx c be,H p=some (.ins a.iO dx [("kind",.int (gL t.tok)),("content",c),("place",.int t.place),("behind",be)])/\uM H t.tok c:=by
 obtain⟨wf,dx,c,be,e,x⟩:=h;exact⟨dx,c,be,(dW e).1,x.same jn⟩
def Ni(a:dj):Sp:=λvs H Q _=>∃W r l,vs=[.ref r]/\eC a W H r l/\Q (.bl (next .halt_ l)) H
theorem nZ:iA P w base T.j5 mg 2 (Ni a):=by
 specialize T.j5.fn.okN ["self"];obtain⟨W,r,l,rfl,R,q⟩:=h;refine⟨_,(am (bi (iY qM (da (d7 (pv 0) T.dm T.fW (fN T) hr ci)) (dA T.Ut) (gJ _)))),?_⟩;obtain⟨dx,tl,k,Xd⟩:=R.obj;left;refine⟨W,r,l,rfl,R,λp t l' e tp=>?_⟩;obtain⟨dt,c,be,ht,hc⟩:=tp.obj;left;have e1:decide (V.int (gL t.tok)=V.int 5)=next .halt_ l:=by
  rw[e];unfold next;obtain⟨pl,tk⟩:=t;cases tk<;>simp[gL]
 rw[e1];exact q
def n0:uL->Option Str
 | .name b=>some (strOf b)
 | .sign c=>some (ff c)
 | .halt_=>some ""
 | _=>none
def gM(y:Str)(t:uL):Prop:=∀u,yj u->(n0 u=some y↔u=t)
theorem Lf(h:uM H t c)(q:Q (.bl (decide (n0 t=some y))) H):RZ K c (.str y) H Q:=by
 cases t with
 | name b=>obtain rfl:c=.str (strOf b):=h;exact .inl ⟨rfl,by simpa [n0] using q⟩
 | num n=>obtain rfl:c=.int n:=h;exact .inl ⟨rfl,by simpa [n0] using q⟩
 | text b=>obtain⟨p,rfl,e⟩:=h;exact .inr ⟨p,_,y,rfl,rfl,.inl (.inl e),by simpa [n0] using q⟩
 | sign s=>obtain rfl:c=.str (ff s):=h;exact .inl ⟨rfl,by simpa [n0] using q⟩
 | halt_=>obtain rfl:c=.str "":=h;exact .inl ⟨rfl,by simpa [n0] using q⟩
def Bd(a:dj):Sp:=λvs H Q _=>∃W r l y t,vs=[.ref r,.str y]/\eC a W H r l/\gM y t/\Q (.bl (next t l)) H
theorem eX:iA P w base T.fo mg 2 (Bd a):=by
 specialize T.fo.fn.okN ["self","content"];obtain⟨W,r,l,y,t0,rfl,R,ht0,q⟩:=h;refine⟨_,(am (bi (iY (R0 W9) (da (d7 (pv 0) T.dm T.fW (fN T) hr ci)) (pv 1) (gJ _)))),?_⟩;obtain⟨dx,tl,k,Xd⟩:=R.obj;left;refine⟨W,r,l,rfl,R,λp t l' e tp=>?_⟩;have wf:=tp.1;obtain⟨dt,c,be,ht,hc⟩:=tp.obj;left;refine Lf hc ?_;have e1:decide (n0 t.tok=some y)=next t0 l:=by
  rw[e];unfold next;rw[bt,decide_eq_true_iff,ba];exact ht0 t.tok wf
 rw[e1];exact q
theorem zl:([.str "script",.str "parties",.str "seat",.str "of",.str "start",.str "end",.str "both",.str "flag",.str "num",.str "text",.str "part",.str "stop",.str "send",.str "recv",.str "program",.str "for",.str "def",.str "if",.str "pick",.str "any",.str "set",.str "go",.str "true",.str "false"]:List V)=VasesBase.RESERVED.map λb=>V.str (strOf b):=by
 rfl'
theorem GF(b:Bytes):MB (.str (strOf b)) (VasesBase.RESERVED.map λb=>V.str (strOf b))=VasesBase.RESERVED.contains b:=by
 unfold MB;rw[List.any_map,cP]
 congr 1
 funext x
 show(strOf x==strOf b)=(b==x);rw[bt];simp;exact⟨λh=>(hG h).symm,λh=>by rw[h]⟩
def Lg(a:dj):Sp:=λvs H Q _=>∃W r l,vs=[.ref r]/\eC a W H r l/\Q (.bl (nameNext l)) H
theorem mI:iA P w base T.jL mg 2 (Lg a):=by
 specialize T.jL.fn.okN ["self"];obtain⟨W,r,l,rfl,R,q⟩:=h;refine⟨_,(am (bi (Mp (iY qM (da (d7 (pv 0) T.dm T.fW (fN T) hr ci)) (dA T.Tg) (gJ _)) (pH (iY Ga (da (d7 (pv 0) T.dm T.fW (fN T) hr ci)) (PL T.jK) rfl))))),?_⟩;obtain⟨dx,tl,k,Xd⟩:=R.obj;left;refine⟨W,r,l,rfl,R,λp t l' e tp=>?_⟩;obtain⟨dt,c,be,ht,hc⟩:=tp.obj;left;refine cX (λh1=>?_) (λh1=>?_)
 .have h1:gL t.tok=1:=by simpa using h1
  left;refine⟨W,r,l,rfl,R,λp2 t2 l2 e2 tp2=>?_⟩;obtain⟨rfl,rfl⟩:t=t2/\l'=l2:=by rw[e] at e2;cases e2;exact⟨rfl,rfl⟩
  obtain⟨dt2,c2,abk,YK,YE⟩:=tp2.obj;left;obtain⟨pl,tk⟩:=t;cases tk with
  | name b=>
   obtain rfl:c2=.str (strOf b):=YE;refine⟨_,_,rfl,.inr (T.jK.sq _),rfl,by rw[zl];rfl',?_⟩;have e1:nameNext l=!VasesBase.RESERVED.contains b:=by rw[e];rfl
   rw[zl,GF];rw[e1] at q;exact q
  | _=>simp[gL] at h1
 .have h1:¬gL t.tok=1:=by simpa using h1
  have e1:nameNext l=false:=by
   rw[e];obtain⟨pl,tk⟩:=t;cases tk<;>first|rfl|(simp[gL] at h1)
  rw[e1] at q;exact q
def Ow(a:dj):Sp:=λvs H Q E=>∃W r l b,vs=[.ref r,.bl b]/\eC a W H r l/\(b=true->Q .non H)/\(b=false->Fl a (·=r) H E ⟨3,here l⟩)
theorem gx:Cs P w base a.du T.gu mg 3 (Ow a):=by
 refine T.gu.fn.okX ["self","allowed"] λW8 A outer s H vs Q E hr h nd hu W9 th=>?_;intro X;obtain⟨W,r,l,b,rfl,R,q,qf⟩:=h;refine⟨_,(am (de (j6 (gm (pv 1))) (am (gw T.dL (eE T) T.gy (hr.mono (by decide)) rfl T.fL th rfl (dg (dA T.Jv) (da (d7 (pv 0) T.dm T.fW (fN T) hr ci))))) cZ)),?_⟩;obtain⟨dx,tl,k,Xd⟩:=R.obj;left;cases b with
 | true=>exact eQ (q rfl)
 | false=>
  refine' eU ?_;refine⟨W,r,l,rfl,R,λp t l' e tp=>?_⟩;obtain⟨dt,c,be,ht,hc⟩:=tp.obj;left;exact fU (qf rfl) rfl (by rw[e];rfl)
def Nj(a:dj):Sp:=λvs H Q E=>∃W r l i j,vs=[.ref r,.int i,.int j]/\eC a W H r l/\(¬j<=i->Q .non H)/\(j<=i->Fl a (·=r) H E ⟨4,here l⟩)
theorem jo:Cs P w base a.du T.ie mg 3 (Nj a):=by
 refine T.ie.fn.okX ["self","count","most"] λW8 A outer s H vs Q E hr h nd hu W9 th=>?_;intro X;obtain⟨W,r,l,i,j,rfl,R,q,qf⟩:=h;refine⟨_,(am (de (yP (pv 1) (pv 2)) (am (gw T.dL (eE T) T.gy (hr.mono (by decide)) rfl T.fL th rfl (dg (dA T.Pd) (da (d7 (pv 0) T.dm T.fW (fN T) hr ci))))) cZ)),?_⟩;obtain⟨dx,tl,k,Xd⟩:=R.obj;left;refine cX (λh1=>?_) (λh1=>?_)
 .left;refine⟨W,r,l,rfl,R,λp t l' e tp=>?_⟩;obtain⟨dt,c,be,ht,hc⟩:=tp.obj;left;exact fU (qf (ai h1)) rfl (by rw[e];rfl)
 .exact q λz=>h1 (ao z)
def Nk(a:dj):Sp:=λvs H Q E=>∃W r l t l',vs=[.ref r]/\eC a W H r l/\l=t::l'/\t.tok≠.halt_/\∀p H',fC (·=r) H H'->eC a W H' r l'->gp a (dv W H') p t->Q (.ref p) H'
theorem uN.tail(h:uN (t::l))(n:t.tok≠.halt_):uN l:=by
 cases l with
 | nil=>exact absurd h n
 | cons u r=>exact h.2
theorem eC.step{W:cS->Prop}{H:Hp}{r dx tl:cS}{k:Nat}{t:PTok}{l:Toks}(h:eC a W H r (t::l))(n:t.tok≠.halt_)(e:H r=some (.ins a.dS dx [("tokens",.ref tl),("at",.int k)])):eC a W (upd H r (Ke a dx tl (k+1))) r l:=by
 obtain⟨hW,Yf,tl',ts,k',Xd,hl,hb,hd,hg⟩:=h;have ee:(HO.ins a.dS dx [("tokens",.ref tl),("at",.int k)])=Ke a Yf tl' k':=aH (e.symm.trans Xd);unfold Ke at ee;injection ee with _ e2 e3;simp at e3;obtain⟨e3,e4⟩:=e3;have e4:k=k':=by lia
 subst e2 e3 e4;refine⟨hW,dx,tl,ts,k+1,bv,hl.same (jC a) (d4 (fC.upd hW)),hb,?_,hg.tail n⟩;rw[←bQ,hd];rfl
theorem gb:iA P w base T.gn mg 2 (Nk a):=by
 specialize T.gn.fn.okN ["self","token"];obtain⟨W,r,l,t,l',rfl,R,rfl,hn,q⟩:=h;refine⟨_,(ad (dz 1 nd (d7 (pv 0) T.dm T.fW (fN T) hr ci)) (ad (wn (pv 0) (cr) ij) (am (bi (pv 1))))),?_⟩;obtain⟨dx,tl,k,Xd⟩:=R.obj;left;refine⟨W,r,_,rfl,R,λp t' l2 e tp=>?_⟩;cases e;left;refine⟨.ref r,rfl,r,a.dS,dx,_,_,rfl,Xd,T.dm.cl,T.dm.na _ (by decide),rfl,_,_,rfl,rfl,dx,_,Xd,by(show 2<1000;decide),?_⟩;have R':=R.step hn Xd;show wg (gD 1) _ _ (upd H r (.ins a.dS dx [("tokens",.ref tl),("at",.int (k+1))]));left;exact q p _ (fC.upd rfl) (by simpa [Ke] using R') (tp.same (d4 (fC.upd R.1)))
theorem eC.len(h:eC a W H r l):l.length<=4097:=by
 obtain⟨hW,dx,tl,ts,k,Xd,_,hb,hd,g⟩:=h;rw[←hd,aT]
 lia
theorem eC.add(h:eC a W H r l)(hp:H p=none):eC a (Add W p) (upd H p o) r l:=by
 obtain⟨hW,dx,tl,ts,k,Xd,hl,hb,hd,g⟩:=h;refine⟨.inl hW,dx,tl,ts,k,?_,hl.same (jC a) λb u e=>?_,hb,hd,g⟩
 .rw[ap (ca Xd hp)];exact Xd
 .obtain⟨e,n⟩:=dW e;have hb:b≠p:=ca e hp;exact dQ (by rw[ap hb];exact e) λz=>z.elim n hb
theorem eC.drop(h:eC a (Add W p) H r l)(hr:W r):eC a W H r l:=by
 obtain⟨hW,dx,tl,ts,k,Xd,hl,hb,hd,g⟩:=h;exact⟨hr,dx,tl,ts,k,Xd,hl.same (jC a) (pU λb z=>.inl z),hb,hd,g⟩
theorem eC.wild(h:eC a W H r l)(hp:W p)(ne:r≠p):eC a W (upd H p o) r l:=by
 obtain⟨hW,dx,tl,ts,k,Xd,hl,hb,hd,g⟩:=h;exact⟨hW,dx,tl,ts,k,by rw[ap ne];exact Xd,hl.same (jC a) (d4 (fC.upd hp)),hb,hd,g⟩
theorem ni(h:nameNext l=true):∃p b r,l=⟨p,.name b⟩::r/\takeName l=.ok (⟨p,b⟩,r):=by
 unfold nameNext at h;split at h
 .rename_i p b r;refine⟨p,b,r,rfl,?_⟩;have h2:VasesBase.RESERVED.contains b=false:=by simpa using h
  show(if VasesBase.RESERVED.contains b=true then _ else _)=_;rw[h2];rfl
 .cases h
theorem gH(h:nameNext l=false):takeName l=.error ⟨3,here l⟩:=by
 unfold takeName;split
 .rename_i p b r;have h2:VasesBase.RESERVED.contains b=true:=by simpa [nameNext] using h
  rw[ae h2];rfl
 .rfl
theorem jp(h:next t l=true):∃p r,l=⟨p,t⟩::r:=by
 cases l with
 | nil=>cases h
 | cons x r=>
  obtain⟨p,u⟩:=x;have:u=t:=by simpa [next] using h
  subst this;exact⟨p,r,rfl⟩
def So(a:dj):Sp:=λvs H Q E=>∃W r l y t,vs=[.ref r,.str y]/\eC a W H r l/\gM y t/\t≠.halt_/\lS a (·=r) H Q E (VasesBase.take t l) λl' v H'=>eC a W H' r l'
theorem d8:Cs P w base a.du T.eu mg 4 (So a):=by
 refine T.eu.fn.okX ["self","content"] λW8 A outer s H vs Q E hr h nd hu W9 th=>?_;intro X;obtain⟨W,r,l,y,t,rfl,R,ty,tn,q⟩:=h;refine⟨_,(ad (dB (dh (pv 0) T.dm T.gu (gx T) hr (th.passes rfl) (dq (dh (pv 0) T.dm T.fo (eX T) hr ci (dq (pv 1)))))) (am (bi (d7 (pv 0) T.dm T.gn (gb T) hr ci)))),?_⟩;obtain⟨dx,tl,k,Xd⟩:=R.obj;left;refine'⟨W,r,l,y,t,rfl,R,ty,?_⟩;refine⟨W,r,l,_,rfl,R,λh1=>?_,λh1=>?_⟩
 .obtain⟨p,l',rfl⟩:=jp h1;left;refine⟨W,r,_,_,l',rfl,R,rfl,tn,λp2 H' b R' tp=>?_⟩;unfold VasesBase.take at q;rw[ae h1] at q;exact q _ _ b R'
 .unfold VasesBase.take at q;rw[aa (by rw[h1];exact aq)] at q;exact q
def Nl(a:dj)(W:cS->Prop)(r:cS):PName×Toks->V->Hp->Prop:=λx v H'=>∃p,v=.ref p/\dH a (dv W H') p x.1/\eC a W H' r x.2
def Sq(a:dj):Sp:=λvs H Q E=>∃W r l,vs=[.ref r]/\eC a W H r l/\lS a (·=r) H Q E (takeName l) (Nl a W r)
theorem gj:Cs P w base a.du T.fX mg 4 (Sq a):=by
 refine T.fX.fn.okX ["self"] λW8 A outer s H vs Q E hr h nd hu W9 th=>?_;intro X;obtain⟨W,r,l,rfl,R,q⟩:=h;refine⟨_,(ad (dB (dh (pv 0) T.dm T.gu (gx T) hr (th.passes rfl) (dq (d7 (pv 0) T.dm T.jL (mI T) hr ci)))) (am (bi (d7 (pv 0) T.dm T.gn (gb T) hr ci)))),?_⟩;obtain⟨dx,tl,k,Xd⟩:=R.obj;left;refine'⟨W,r,l,rfl,R,?_⟩;refine⟨W,r,l,_,rfl,R,λh1=>?_,λh1=>?_⟩
 .obtain⟨p,b,l',rfl,e⟩:=ni h1;left;refine⟨W,r,_,_,l',rfl,R,rfl,(by intro z;cases z),λp2 H' b R' tp=>?_⟩;rw[e] at q;exact q _ _ b ⟨p2,rfl,tp,R'⟩
 .rw[gH h1] at q;exact q
noncomputable def oZ(i j:Int)(l:Toks):Except Fault (PName×Toks):=if nameNext l=true/\j<=i then .error ⟨4,here l⟩ else takeName l
def Ox(a:dj):Sp:=λvs H Q E=>∃W r l i j,vs=[.ref r,.int i,.int j]/\eC a W H r l/\lS a (·=r) H Q E (oZ i j l) (Nl a W r)
theorem gq:Cs P w base a.du T.fB mg 4 (Ox a):=by
 refine T.fB.fn.okX ["self","count","most"] λW8 A outer s H vs Q E hr h nd hu W9 th=>?_;intro X;obtain⟨W,r,l,i,j,rfl,R,q⟩:=h;refine⟨_,(ad (dB (dh (pv 0) T.dm T.gu (gx T) hr (th.passes rfl) (dq (d7 (pv 0) T.dm T.jL (mI T) hr ci)))) (ad (dB (dh (pv 0) T.dm T.ie (jo T) hr (th.passes rfl) (dg (pv 1) (pv 2)))) (am (bi (d7 (pv 0) T.dm T.gn (gb T) hr ci))))),?_⟩;obtain⟨dx,tl,k,Xd⟩:=R.obj;unfold oZ at q;left;refine'⟨W,r,l,rfl,R,?_⟩;refine⟨W,r,l,_,rfl,R,λh1=>?_,λh1=>?_⟩
 .left;refine⟨W,r,l,i,j,rfl,R,λh2=>?_,λh2=>?_⟩
  .obtain⟨p,b,l',rfl,e⟩:=ni h1;left;refine⟨W,r,_,_,l',rfl,R,rfl,(by intro z;cases z),λp2 H' b R' tp=>?_⟩;rw[aa λz=>h2 z.2,e] at q;exact q _ _ b ⟨p2,rfl,tp,R'⟩
  .rw[ae ⟨h1,h2⟩] at q;exact q
 .rw[aa λz=>by rw[h1] at z;cases z.1] at q;rw[gH h1] at q;exact q
def TC(a:dj)(W:cS->Prop)(r:cS):(Nat×Int)×Toks->V->Hp->Prop:=λx v H'=>∃p,v=.ref p/\gp a (dv W H') p ⟨x.1.1,.num x.1.2⟩/\eC a W H' r x.2
def TD(a:dj):Sp:=λvs H Q E=>∃W r l,vs=[.ref r]/\eC a W H r l/\lS a (·=r) H Q E (takeNum l) (TC a W r)
theorem jq:Cs P w base a.du T.hZ mg 4 (TD a):=by
 refine T.hZ.fn.okX ["self"] λW8 A outer s H vs Q E hr h nd hu W9 th=>?_;intro X;obtain⟨W,r,l,rfl,R,q⟩:=h;refine⟨_,(ad (dB (dh (pv 0) T.dm T.gu (gx T) hr (th.passes rfl) (dq (iY qM (da (d7 (pv 0) T.dm T.fW (fN T) hr ci)) (dA T.BT) (gJ _))))) (am (bi (d7 (pv 0) T.dm T.gn (gb T) hr ci)))),?_⟩;obtain⟨dx,tl,k,Xd⟩:=R.obj;left;refine⟨W,r,l,rfl,R,λp t l' e tp=>?_⟩;obtain⟨dt,c,be,ht,hc⟩:=tp.obj;left;subst e;refine⟨W,r,_,_,rfl,R,λh1=>?_,λh1=>?_⟩
 .have h1:gL t.tok=2:=by simpa using h1
  left;obtain⟨pl,tk⟩:=t;cases tk with
  | num n=>
   refine⟨W,r,_,_,l',rfl,R,rfl,(by intro z;cases z),λp2 H' b R' tp=>?_⟩;exact q _ _ b ⟨p2,rfl,tp,R'⟩
  | _=>simp[gL] at h1
 .have h1:¬gL t.tok=2:=by simpa using h1
  obtain⟨pl,tk⟩:=t;cases tk<;>first|exact q|(simp[gL] at h1)
def o7{α:Type}(a:dj)(Pm:Hp->cS->α->Prop)(W:cS->Prop)(r:cS):α×Toks->V->Hp->Prop:=λx v H'=>∃p,v=.ref p/\Pm (dv W H') p x.1/\eC a W H' r x.2
def rg{α:Type}(a:dj)(one:Nat->Toks->Except Fault (α×Toks))(Pm:Hp->cS->α->Prop):Sp:=λvs H Q E=>∃W r l n,vs=[.ref r,.int (n:Nat)]/\fT W H/\eC a W H r l/\lS a (·=r) H Q E (one n l) (o7 a Pm W r)
def dP{α:Type}(most:Nat)(Xb:Toks->Bool)(one:Toks->Except Fault (α×Toks))(n:Nat)(l:Toks):Except Fault (α×Toks):=if Xb l=true/\most<=n then .error ⟨4,here l⟩ else one l
def jr{α:Type}(one:Toks->Except Fault (α×Toks)):Prop:=∀l x l',one l=.ok (x,l')->l'.length<=l.length
theorem kb(h:dP most Xb one n l=.ok (x,l')):one l=.ok (x,l'):=by
 unfold dP at h;split at h
 .cases h
 .exact h
def more{α:Type}(sep most:Nat)(Xb:Toks->Bool)(one:Toks->Except Fault (α×Toks))(fuel k:Nat)(l:Toks):Except Fault (List α×Toks):=
 if next (.sign sep) l=true then Vasesd.parted sep most Xb one fuel k (l.drop 1) else .ok ([],l)
theorem rh{α:Type}{sep most:Nat}{Xb:Toks->Bool}{one:Toks->Except Fault (α×Toks)}{fuel k:Nat}{l:Toks}:Vasesd.parted sep most Xb one (fuel+1) k l=(match dP most Xb one k l with
   | .error f=>.error f
   | .ok (x,l1)=>match more sep most Xb one fuel (k+1) l1 with
    | .error f=>.error f
    | .ok (xs,l2)=>.ok (x::xs,l2)):=by
 unfold Vasesd.parted dP more;split
 .rfl
 .cases one l with
  | error f=>rfl
  | ok x=>
   obtain⟨x,l1⟩:=x;dsimp only[bind,Except.bind];by_cases hx:next (.sign sep) l1=true
   .rw[ae hx,ae hx];show(Vasesd.parted sep most Xb one fuel (k+1) (l1.drop 1) >>= _)=_;cases Vasesd.parted sep most Xb one fuel (k+1) (l1.drop 1) with
    | error f=>rfl
    | ok y=>rfl
   .rw[aa hx,aa hx]
theorem iG(h:c∈VasesBase.SIGNS.map UInt8.toNat):gM ⟨#[c]⟩ (.sign c):=by
 intro u wf;have hc:c≠1/\c≠2/\¬((65<=c/\c<=90)∨(97<=c/\c<=122))/\¬(48<=c/\c<=57):=by
  revert c;rfl'
 have e0:(ff c)=⟨#[c]⟩:=by unfold ff;rw[aa hc.1,aa hc.2.1]
 constructor
 .intro e;cases u with
  | name b=>
   exfalso;have e1:strOf b=⟨#[c]⟩:=aH e;have e2:(b.map UInt8.toNat)=[c]:=by
    have:=au (λs:Str=>s.cps.toList) e1;simpa [strOf] using this
   cases b with
   | nil=>simp at e2
   | cons x r=>
    simp at e2;have:=wf.2.2 x (by simp);rw[←e2.1] at hc;rcases this with z|z
    .unfold isLetter at z;simp at z;exact hc.2.2.1 z
    .unfold isDigit at z;simp at z;exact hc.2.2.2 z
  | num n=>cases e
  | text b=>cases e
  | sign s=>
   have e1:ff s=⟨#[c]⟩:=aH e;unfold ff at e1;split at e1
   .have:=au (λs:Str=>s.cps.size) e1;have h2:("->":Str).cps.size=2:=(by rfl');exact absurd (h2.symm.trans this:(2:Nat)=1) (by decide)
   .split at e1
    .have:=au (λs:Str=>s.cps.size) e1;have h2:("<-":Str).cps.size=2:=(by rfl');exact absurd (h2.symm.trans this:(2:Nat)=1) (by decide)
    .have e2:s=c:=by
      have:=au (λs:Str=>s.cps.toList) e1;simpa using this
     rw[e2]
  | halt_=>
   have e1:("":Str)=⟨#[c]⟩:=aH e;have:=au (λs:Str=>s.cps.size) e1;have h2:("":Str).cps.size=0:=by rfl'
   exact absurd (h2.symm.trans this:(0:Nat)=1) (by decide)
 .rintro rfl;show some (ff c)=_;rw[e0]
theorem fT.add(h:fT W H):fT (Add W p) (upd H p o):=λb z e=>by
 by_cases hb:b=p
 .subst hb;rw[bv] at e;cases e
 .rw[ap hb] at e;exact z.elim (λz=>h b z e) hb
theorem fT.upd(h:fT W H):fT W (upd H p o):=λb z e=>by
 by_cases hb:b=p
 .subst hb;rw[bv] at e;cases e
 .rw[ap hb] at e;exact h b z e
theorem fT.rd(h:fT W H)(k:fC (·=r) H H')(R:eC a W H' r l):fT W H':=h.but k λb e=>by
 obtain⟨dx,tl,j,z⟩:=R.obj;rw[e,z];intro q;cases q
def Lh{α:Type}(a:dj)(f:cS)(sep most:Nat)(Xb:Toks->Bool)(one:Toks->Except Fault (α×Toks))(Pm:Hp->cS->α->Prop):Sp:=λvs H Q E=>∃W r l n,vs=[.ref r,.str ⟨#[sep]⟩,.ref f]/\fT W H/\eC a W H r l/\l.length<n/\
 lS a (·=r) H Q E (Vasesd.parted sep most Xb one n 0 l) λx v H'=>∃p,v=.ref p/\IsList Pm (dv W H') p x.1/\eC a W H' r x.2
theorem rZ(T:Txt K mg a)(G:eS P w K mg base (kH P w a.du) k f fd ["reader","count"] (rg a (dP most Xb one) Pm))(kp:PySem.W.keepIn K (.ref f)=true)(bd:gW K fd ["reader","count"] [])(mo:pV Pm)(sh:jr one)(hs:sep∈VasesBase.SIGNS.map UInt8.toNat)(hk:2<=k):eS P w K mg base (kH P w a.du) (k+1) a.pA a.nF ["reader","sign","read_one"] (Lh a f sep most Xb one Pm):=by
 refine T.vb.fn.okX ["reader","sign","read_one","row"] λW8 A outer s H vs Q E hr h nd hu W9 th=>?_;intro X;obtain⟨W,r,l,n,rfl,D,R,hn,q⟩:=h;have Zw:eJ 2 _:=hr.mono hk;have ts:=iG hs;refine⟨_,(ad (AA (i:=3) nd rfl (by first|exact Or.inl rfl|exact Or.inr rfl) (dw (db (MZ G hr (pv 2) kp bd (th.passes rfl) (db (pv 0) (db (cr) eA))) eA))) (ad (gI PassesOwn.leaving (gm (dh (pv 0) T.dm T.fo (eX T) Zw ci (db (pv 1) eA))) (ad (dB (d7 (pv 0) T.dm T.gn (gb T) Zw ci)) (am (dB (KO cO PySem.F.slot_list_append PySem.F.type_list_append D9 (pv 3) (db (MZ G hr (pv 2) kp bd (th.passes rfl) (db (pv 0) (db (uu wu (by rfl) T.d5 PySem.boot_len (db (pv 3) eA)) eA))) eA)))))) (am (bi (pv 3))))),?_⟩;obtain⟨n,rfl⟩:∃m,n=m+1:=⟨n-1,by lia⟩;rw[rh] at q;have afO:=R.len;left;refine'⟨rfl,?_⟩;refine⟨W,r,l,0,rfl,D,R,?_⟩;cases e1:dP most Xb one 0 l with
 | error fa=>rw[e1] at q;exact q
 | ok x1=>
  obtain⟨x1,l1⟩:=x1;rw[e1] at q;rintro v H1 b1 ⟨p1,rfl,Xh,R1⟩;have s1:=sh _ _ _ (kb e1);have D1:=D.rd b1 R1;left;refine'⟨by(show 1<=sizeLine;decide),λp hp=>?_⟩;have nW:¬W p:=D1.no hp;have YL:r≠p:=by
   obtain⟨_,_,_,z⟩:=R1.obj;exact ca z hp
  have ab0:H p=none:=by
   cases z:H p with
   | none=>rfl
   | some o=>have:=b1 p o z (λe=>YL e.symm);rw[hp] at this;cases this
  have W0:=R.1
  refine Cq (λm U H'=>U=[some (.ref r),some (.str ⟨#[sep]⟩),some (.ref f),some (.ref p)]/\∃ps xs l2 fu,m=l2.length/\H' p=some (.lst (ps.map V.ref))/\dX Pm (dv (Add W p) H') ps xs/\eC a (Add W p) H' r l2/\fC (·=r) H H'/\fT (Add W p) H'/\
   l2.length<=fu/\xs.length+l2.length<=l.length+1/\
   lS a (·=r) H Q E (match more sep most Xb one fu xs.length l2 with|.error f=>.error f|.ok (ys,l3)=>.ok (xs++ys,l3)) λx v H'=>∃p,v=.ref p/\IsList Pm (dv W H') p x.1/\eC a W H' r x.2) l1.length ?_ ?_
  .refine⟨rfl,[p1],[x1],l1,n,rfl,bv,.cons (mo _ _ _ _ (λb u e=>?_) Xh) .nil,R1.add hp,b1.trans λb u e nb=>?_,D1.add,by lia,by(show 1+_<=_;lia),q⟩
   .obtain⟨e,nb⟩:=dW e;have hb:b≠p:=ca e hp;exact dQ (by rw[ap hb];exact e) λz=>z.elim nb hb
   .rw[ap (ca e hp)];exact e
  .rintro m U H2 ⟨rfl,ps,xs,l2,fu,rfl,XQ,E2,R2,b2,D2,acV,hlen,q2⟩;obtain⟨dx,tl,k2,hr2'⟩:=R2.obj;left;refine'⟨_,r,l2,_,_,rfl,R2,ts,?_⟩;refine cX (λh1=>⟨_,λ_ _ z=>z,?_⟩) (λh1=>?_)
   .obtain⟨pl,l3,rfl⟩:=jp h1;left;refine⟨_,r,_,_,l3,rfl,R2,rfl,(by intro z;cases z),λp3 H3 b3 R3 _=>?_⟩;have Yi:H3 p=some (.lst (ps.map V.ref)):=b3 p _ XQ λe=>YL e.symm;have D3:=D2.rd b3 R3;left;refine' ik Yi ?_;refine'⟨rfl,?_⟩;refine'⟨_,_,rfl,.inl (dU.of Yi),?_⟩;refine⟨_,r,l3,xs.length,by rw[af,E2.len],D3,R3,?_⟩;unfold more at q2;rw[ae h1] at q2;obtain⟨fu,rfl⟩:∃m,fu=m+1:=⟨fu-1,by simp at acV;lia⟩;have ed:(List.drop 1 (({place:=pl,tok:=.sign sep}:PTok)::l3))=l3:=rfl;rw[ed,rh] at q2;cases e4:dP most Xb one xs.length l3 with
    | error fa=>
     rw[e4] at q2;exact Fl.but q2 (b2.trans b3)
    | ok x4=>
     obtain⟨x4,l4⟩:=x4;rw[e4] at q2;rintro v H4 b4 ⟨p4,rfl,aaN,R4⟩;have s4:=sh _ _ _ (kb e4);have agK:H4 p=some (.lst (ps.map V.ref)):=b4 p _ Yi λe=>YL e.symm;left;refine⟨p,_,_,rfl,rfl,agK,?_,?_⟩
     .rw[af,E2.len];refine aN (m:=5000) ?_ (by decide);simp at hlen;lia
     .refine⟨l4.length,by simp;lia,rfl,ps++[p4],xs++[x4],l4,fu,rfl,by rw[bv,aD];rfl,?_,R4.wild (.inr rfl) YL,?_,(D3.rd b4 R4).upd,by simp at acV;lia,by simp at hlen ⊢;lia,?_⟩
      .have k1:bn (dv (Add W p) H2) (dv (Add W p) (upd H4 p (.lst (ps.map V.ref++[V.ref p4])))):=d4 (((b3.trans b4).mono (λb e=>.inl (by rw[e];exact W0))).trans (fC.upd (.inr rfl)));exact(E2.same mo k1).snoc (mo _ _ _ _ (d4 (fC.upd (.inr rfl))) aaN)
      .refine(b2.trans (b3.trans b4)).trans' λb u e=>?_;rw[ap (ca e ab0)]
      .have e5:(xs++[x4]).length=xs.length+1:=(by simp);rw[e5];dsimp only at q2;cases e6:more sep most Xb one fu (xs.length+1) l4 with
       | error fa=>rw[e6] at q2;exact q2
       | ok y=>
        obtain⟨y,l5⟩:=y;rw[e6] at q2;simpa using q2
   .left;unfold more at q2;rw[aa h1] at q2;simp only[aZ] at q2;refine q2 _ _ b2 ⟨p,rfl,⟨ps,dQ XQ nW,E2.same mo (pU λb z=>.inl z)⟩,R2.drop W0⟩
noncomputable def gi{α:Type}(most:Nat)(Xb:Toks->Bool)(one:Toks->Except Fault (α×Toks))(l:Toks):Except Fault (List α×Toks):=do
 let l ←takeSign 40 l
 if next (.sign 41) l=true then .ok ([],l.drop 1)
 else
  let (rs,l) ←Vasesd.parted 44 most Xb one (l.length+1) 0 l
  let l ←takeSign 41 l
  .ok (rs,l)
def Oy{α:Type}(a:dj)(f:cS)(most:Nat)(Xb:Toks->Bool)(one:Toks->Except Fault (α×Toks))(Pm:Hp->cS->α->Prop):Sp:=λvs H Q E=>∃W r l,vs=[.ref r,.ref f]/\fT W H/\eC a W H r l/\
 lS a (·=r) H Q E (gi most Xb one l) λx v H'=>∃p,v=.ref p/\IsList Pm (dv W H') p x.1/\eC a W H' r x.2
theorem wU(h:VasesBase.take t l=.ok l'):l'.length<=l.length:=by
 unfold VasesBase.take at h;split at h
 .cases h;simp
 .cases h
theorem oX(T:Txt K mg a)(G:eS P w K mg base (kH P w a.du) k f fd ["reader","count"] (rg a (dP most Xb one) Pm))(kp:PySem.W.keepIn K (.ref f)=true)(bd:gW K fd ["reader","count"] [])(mo:pV Pm)(sh:jr one)(hk:3<=k):eS P w K mg base (kH P w a.du) (k+2) a.jI a.jj ["reader","read_one"] (Oy a f most Xb one Pm):=by
 refine T.m4.fn.okX ["reader","read_one","row"] λW8 A outer s H vs Q E hr h nd hu W9 th=>?_;intro X;obtain⟨W,r,l,rfl,D,R,q⟩:=h;have ZM:eJ 4 _:=hr.mono (by lia:4<=k+1);refine⟨_,(ad (dB (dh (pv 0) T.dm T.eu (d8 T) ZM (th.passes rfl) (db (dO) eA))) (ad (AA (i:=2) nd rfl (by first|exact Or.inl rfl|exact Or.inr rfl) (dw eA)) (ad (de (j6 (gm (dh (pv 0) T.dm T.fo (eX T) ZM ci (db (dO) eA)))) (am (AA (i:=2) nd rfl (by first|exact Or.inl rfl|exact Or.inr rfl) (df T.vb (rZ (sep:=44) T G kp bd mo sh (by decide) (by lia)) hr (th.passes rfl) (db (pv 0) (db (dO) (db (pv 1) eA))) (hk:=ah _)))) cZ) (ad (dB (dh (pv 0) T.dm T.eu (d8 T) ZM (th.passes rfl) (db (dO) eA))) (am (bi (pv 2))))))),?_⟩;have eo:("(":Str)=⟨#[40]⟩:=by rfl'
 have ec:(")":Str)=⟨#[41]⟩:=by rfl'
 have em:(",":Str)=⟨#[44]⟩:=by rfl'
 have ad1:=iG (c:=40) (by decide);have ab1:=iG (c:=41) (by decide);obtain⟨dx,tl,k2,Xd⟩:=R.obj;unfold gi at q;left;refine⟨W,r,l,_,_,by rw[eo];rfl,R,ad1,(by intro z;cases z),?_⟩;unfold takeSign at q;cases e1:VasesBase.take (.sign 40) l with
 | error fa=>rw[e1] at q;exact q
 | ok l1=>
  rw[e1] at q;intro v H1 b1 R1;have D1:=D.rd b1 R1;have s1:=wU e1;left;refine⟨by(show 0<=sizeLine;decide),λp hp=>?_⟩;have YL:r≠p:=by
   obtain⟨_,_,_,z⟩:=R1.obj;exact ca z hp
  have acW:fC (·=r) H (upd H1 p (.lst [])):=b1.trans λb u e nb=>by rw[ap (ca e hp)];exact e
  have R2:eC a W (upd H1 p (.lst [])) r l1:=(R1.add hp).drop R.1;have D2:fT W (upd H1 p (.lst [])):=D1.upd;have XQ:upd H1 p (.lst []) p=some (.lst []):=bv;have nW:¬W p:=D1.no hp;generalize upd H1 p (.lst [])=H2 at *;obtain⟨dx,tl,k2,Xd⟩:=R2.obj;left;refine'⟨W,r,l1,_,_,by rw[ec];rfl,R2,ab1,?_⟩;dsimp only[bind,Except.bind] at q;by_cases h1:next (.sign 41) l1=true
  .rw[ae h1] at q;rw[h1];refine' eQ ?_;refine⟨W,r,l1,_,_,by rw[ec];rfl,R2,ab1,(by intro z;cases z),?_⟩;unfold VasesBase.take;rw[ae h1];intro v H3 b3 R3;left;exact q _ _ (acW.trans b3) ⟨p,rfl,⟨[],dQ (b3 p _ XQ λe=>YL e.symm) nW,.nil⟩,R3⟩
  .rw[aa h1] at q;have h1:next (.sign 41) l1=false:=by simpa using h1
   rw[h1];refine' eU ?_;refine⟨W,r,l1,l1.length+1,by rw[em];rfl,D2,R2,bj _,?_⟩;cases e3:Vasesd.parted 44 most Xb one (l1.length+1) 0 l1 with
   | error fa=>rw[e3] at q;exact Fl.but q acW
   | ok x3=>
    obtain⟨xs,l3⟩:=x3;rw[e3] at q;rintro v H3 b3 ⟨p3,rfl,Yi,R3⟩;obtain⟨dx,tl,k2,Xd⟩:=R3.obj;left;refine⟨W,r,l3,_,_,by rw[ec];rfl,R3,ab1,(by intro z;cases z),?_⟩;cases e4:VasesBase.take (.sign 41) l3 with
    | error fa=>
     dsimp only at q;rw[e4] at q;exact Fl.but q (acW.trans b3)
    | ok l4=>
     dsimp only at q;rw[e4] at q;intro v H4 b4 R4;left;exact q _ _ (acW.trans (b3.trans b4)) ⟨p3,rfl,Yi.same mo (d4 (b4.mono λb e=>by rw[e];exact R.1)),R4⟩
theorem js:jr takeName:=λl x l' h=>by
 unfold takeName at h;split at h
 .split at h
  .cases h
  .cases h;simp
 .cases h
theorem nu{i j:Nat}{l:Toks}:oZ (i:Int) (j:Int) l=dP j nameNext takeName i l:=by
 unfold oZ dP;simp only[bx]
theorem GG:ir P w base a.du T.oo 5 (rg a (dP 2 nameNext takeName) (dH a)):=by
 refine T.oo.fn.okX ["reader","count"] λW8 A outer s H vs Q E hr h nd hu W9 th=>?_;intro X;obtain⟨W,r,l,n,rfl,D,R,q⟩:=h;refine⟨_,(am (bi (dh (pv 0) T.dm T.fB (gq T) hr (th.passes rfl) (dg (pv 1) (dA T.Jy))))),?_⟩;obtain⟨dx,tl,k2,Xd⟩:=R.obj;left;refine⟨W,r,l,n,2,rfl,R,?_⟩;rw[show(2:Int)=((2:Nat):Int) from rfl,nu];exact q
theorem GH(T:Txt K mg a):eS P w K mg base (kH P w a.du) 6 a.pA a.nF ["reader","sign","read_one"] (Lh a a.zG 44 2 nameNext takeName (dH a)):=
 rZ T (GG T) T.oo.fn.kp T.oo.bd (dG a) js (by decide) (by decide)
def Oz(a:dj):Sp:=λvs H Q E=>∃W r l,vs=[.ref r]/\fT W H/\eC a W H r l/\lS a (·=r) H Q E (Vasesd.takeHands l) λx v H'=>∃p,v=.ref p/\IsList (dH a) (dv W H') p x.1/\eC a W H' r x.2
theorem tY:ir P w base a.du T.nH 7 (Oz a):=by
 refine T.nH.fn.okX ["reader","seats"] λW8 A outer s H vs Q E hr h nd hu W9 th=>?_;intro X;obtain⟨W,r,l,rfl,D,R,q⟩:=h;refine⟨_,(ad (de (j6 (gm (dh (pv 0) T.dm T.fo (eX T) hr ci (dq (dO))))) (am (bi (dw eA))) cZ) (ad (dB (d7 (pv 0) T.dm T.gn (gb T) hr ci)) (ad (dz 1 nd (df T.vb (GH T) hr (th.passes rfl) (db (pv 0) (dg (dO) (Ei T.oo.mg_))))) (ad (dB (dh (pv 0) T.dm T.eu (d8 T) hr (th.passes rfl) (dq (dO)))) (am (bi (pv 1))))))),?_⟩;have eo:("[":Str)=⟨#[91]⟩:=by rfl'
 have ec:("]":Str)=⟨#[93]⟩:=by rfl'
 have em:(",":Str)=⟨#[44]⟩:=by rfl'
 have ad2:=iG (c:=91) (by decide);have ad3:=iG (c:=93) (by decide);obtain⟨dx,tl,k2,Xd⟩:=R.obj;unfold Vasesd.takeHands at q;left;refine'⟨W,r,l,_,_,by rw[eo];rfl,R,ad2,?_⟩;by_cases h1:next (.sign 91) l=true
 .rw[ae h1] at q;rw[h1];refine eQ ?_;obtain⟨pl,l1,rfl⟩:=jp h1;left;refine⟨W,r,_,_,l1,rfl,R,rfl,(by intro z;cases z),λp1 H1 b1 R1 _=>?_⟩;have D1:=D.rd b1 R1;left;refine⟨W,r,l1,_,by rw[em];rfl,D1,R1,cp (bj _),?_⟩;have ed:(List.drop 1 (({place:=pl,tok:=.sign 91}:PTok)::l1))=l1:=rfl;rw[ed] at q;dsimp only[bind,Except.bind] at q;rw[show(({place:=pl,tok:=.sign 91}:PTok)::l1).length+1=l1.length+1+1 from rfl] at q;cases e3:Vasesd.parted 44 Vasesd.HANDS nameNext takeName (l1.length+1+1) 0 l1 with
  | error fa=>
   rw[e3] at q;rw[show Vasesd.parted 44 2 nameNext takeName (l1.length+1+1) 0 l1=_ from e3];exact Fl.but q b1
  | ok x3=>
   obtain⟨xs,l3⟩:=x3;rw[e3] at q;rw[show Vasesd.parted 44 2 nameNext takeName (l1.length+1+1) 0 l1=_ from e3];rintro v H3 b3 ⟨p3,rfl,Yi,R3⟩;obtain⟨dx,tl,k2,Xd⟩:=R3.obj;left;refine⟨W,r,l3,_,_,by rw[ec];rfl,R3,ad3,(by intro z;cases z),?_⟩;unfold takeSign at q;dsimp only at q;cases e4:VasesBase.take (.sign 93) l3 with
   | error fa=>rw[e4] at q;exact Fl.but q (b1.trans b3)
   | ok l4=>
    rw[e4] at q;intro v H4 b4 R4;left;exact q _ _ (b1.trans (b3.trans b4)) ⟨p3,rfl,Yi.same (dG a) (d4 (b4.mono λb e=>by rw[e];exact R.1)),R4⟩
 .rw[aa h1] at q;have h1:next (.sign 91) l=false:=by simpa using h1
  rw[h1];refine' eU ?_;refine⟨by(show 0<=sizeLine;decide),λp hp=>?_⟩;refine q _ _ (λb u e nb=>by rw[ap (ca e hp)];exact e) ⟨p,rfl,⟨[],dQ bv (D.no hp),.nil⟩,(R.add hp).drop R.1⟩
def lp(C:cS)(names:List Str):Sp:=λvs H Q _=>∃x dx args,vs=.ref x::args/\args.length=names.length/\H x=some (.ins C dx [])/\Q .non (upd H x (.ins C dx (names.zip args)))
theorem bn.make(hx:H1 x=none)(hd:H1 dx=none)(e:H2=upd (upd H1 dx (.own x)) x o):bn H1 H2:=λb u z=>by
 rw[e,ap (ca z hx),ap (ca z hd)];exact z
theorem gk{C:cS}{names:List Str}{args:List V}{H1:Hp}{Q:VK}{E:XK}(hl:args.length=names.length)(k:∀x dx H2,H1 x=none->bn H1 H2->H2 x=some (.ins C dx (names.zip args))->Q (.ref x) H2):∀x dx,H1 x=none->H1 dx=none->dx≠x->lp C names (.ref x::(args++[])) (upd (upd H1 dx (.own x)) x (.ins C dx [])) (λv H2=>v=.non/\Q (.ref x) H2) E:=by
 intro x dx nx nd ne;refine⟨x,dx,args,by rw[aZ],hl,bv,rfl,?_⟩;rw[eq];exact k x dx _ nx (bn.make nx nd rfl) bv
theorem UN(h:l.length=4):∃a b c d,l=[a,b,c,d]:=by
 match l,h with
 | [a,b,c,d],_=>exact⟨a,b,c,d,rfl⟩
theorem Ct(h:l.length=3):∃a b c,l=[a,b,c]:=by
 match l,h with
 | [a,b,c],_=>exact⟨a,b,c,rfl⟩
theorem zU(h:l.length=2):∃a b,l=[a,b]:=by
 match l,h with
 | [a,b],_=>exact⟨a,b,rfl⟩
theorem pX:wD P w base T.om mg 1 (lp a.kX ["kind","least","most"]):=by
 refine T.om.fn.okN ["self","kind","least","most"] (len:=λvs H Q E h=>by obtain⟨x,dx,args,rfl,hl,_⟩:=h;exact au (·+1) hl) λW8 A outer s H vs Q E hr h nd hu W9=>?_;intro X;obtain⟨x,dx,args,rfl,hl,hx,q⟩:=h;obtain⟨b,c,d,rfl⟩:=Ct hl;refine'⟨_,(ad (fR (pv 0) (pv 1)) (ad (fR (pv 0) (pv 2)) (am (fR (pv 0) (pv 3))))),?_⟩;rw[eq,eq];exact q
theorem jN:wD P w base T.jG mg 1 (lp a.yz ["kind","content"]):=by
 refine T.jG.fn.okN ["self","kind","content"] (len:=λvs H Q E h=>by obtain⟨x,dx,args,rfl,hl,_⟩:=h;exact au (·+1) hl) λW8 A outer s H vs Q E hr h nd hu W9=>?_;intro X;obtain⟨x,dx,args,rfl,hl,hx,q⟩:=h;obtain⟨b,c,rfl⟩:=zU hl;refine'⟨_,(ad (fR (pv 0) (pv 1)) (am (fR (pv 0) (pv 2)))),?_⟩;rw[eq];exact q
theorem iZ:wD P w base T.jc mg 1 (lp a.iO ["kind","content","place","behind"]):=by
 refine T.jc.fn.okN ["self","kind","content","place","behind"] (len:=λvs H Q E h=>by obtain⟨x,dx,args,rfl,hl,_⟩:=h;exact au (·+1) hl) λW8 A outer s H vs Q E hr h nd hu W9=>?_;intro X;obtain⟨x,dx,args,rfl,hl,hx,q⟩:=h;obtain⟨b,c,d,e,rfl⟩:=UN hl;refine'⟨_,(ad (fR (pv 0) (pv 1)) (ad (fR (pv 0) (pv 2)) (ad (fR (pv 0) (pv 3)) (am (fR (pv 0) (pv 4)))))),?_⟩;rw[eq,eq,eq];exact q
theorem rm:wD P w base T.mB mg 1 (lp a.lZ ["label","given","handed"]):=by
 refine T.mB.fn.okN ["self","label","given","handed"] (len:=λvs H Q E h=>by obtain⟨x,dx,args,rfl,hl,_⟩:=h;exact au (·+1) hl) λW8 A outer s H vs Q E hr h nd hu W9=>?_;intro X;obtain⟨x,dx,args,rfl,hl,hx,q⟩:=h;obtain⟨b,c,d,rfl⟩:=Ct hl;refine'⟨_,(ad (fR (pv 0) (pv 1)) (ad (fR (pv 0) (pv 2)) (am (fR (pv 0) (pv 3))))),?_⟩;rw[eq,eq];exact q
theorem GI:jm ["self","refusal","messages","path"] ["self","refusal","messages","path"] (dr rY):=⟨rfl,rfl,rfl,by rfl',rfl,by rfl',by rfl'⟩
theorem mt:wD P w base T.jx mg 1 (lp a.qB ["refusal","messages","path"]):=by
 refine T.jx.fn.okN ["self","refusal","messages","path"] (len:=λvs H Q E h=>by obtain⟨x,dx,args,rfl,hl,_⟩:=h;exact au (·+1) hl) λW8 A outer s H vs Q E hr h nd hu W9=>?_;intro X;obtain⟨x,dx,args,rfl,hl,hx,q⟩:=h;obtain⟨b,c,d,rfl⟩:=Ct hl;refine'⟨_,(ad (fR (pv 0) (pv 1)) (ad (fR (pv 0) (pv 2)) (am (fR (pv 0) (pv 3))))),?_⟩;rw[eq,eq];exact q
def UO(pre:Int->Prop)(g:Int->Int):Sp:=λvs H Q _=>∃i,vs=[.int i]/\pre i/\Q (.int (g i)) H
theorem fz{n:Nat}{i:Int}(e:i=(n:Int))(h:n<2^90000):i.natAbs<2^100000:=by
 rw[e,Int.natAbs_natCast];exact aX h (a5 (by decide) (by decide))
theorem jf(h:n<2^60):n<2^90000:=aE h (bh (by decide) (by decide))
theorem vP:fc P w base T.pB 1 (UO (λi=>-1<=i/\i<=300) λi=>(Vasesq.textsBelow (i+1).toNat:Nat)):=by
 specialize T.pB.fn.okN ["longest","count","length"];obtain⟨i,rfl,⟨h1,h2⟩,q⟩:=h;refine'⟨_,(ad (dz 1 nd (cr)) (ad (fv PassesOwn.never rfl (qK rfl T.uo (dq (dF fw (pv 0) (cr)))) (gh 2 nd) (am (dz 1 nd (dF fw (dF kh (pv 1) (cr)) (cr))))) (am (bi (pv 1))))),?_⟩;refine Sh (lo:=0) (n:=(i+1).toNat) (λj U H'=>H'=H/\∃x,U=[some (.int i),some (.int (Vasesq.textsBelow j:Nat)),x]) ⟨rfl,none,rfl⟩ ?_ ?_
 .rintro j U H' hj ⟨rfl,x,rfl⟩;left;have hb:Vasesq.textsBelow j<2^90000:=by
   refine aX (vf j) ?_;have e1:(256:Nat)^j<=256^301:=bh (by decide) (by lia);refine aN e1 ?_;rw[show(256:Nat)=2^8 from rfl,←Nat.pow_mul];exact a5 (by decide) (by decide)
  refine' kO ⟨fz rfl hb,fz (n:=256) rfl (jf (by decide))⟩ ?_;refine⟨rfl,some (.int (0+(j:Nat))),?_⟩;rw[qU];rfl
 .rintro U H' ⟨rfl,x,rfl⟩;left;exact q
noncomputable def gP(a:dj)(dx:cS):VasesBase.Range->HO
 | .flag=>.ins a.kX dx [("kind",.str "flag"),("least",.int 0),("most",.int 1)]
 | .num lo hi=>.ins a.kX dx [("kind",.str "num"),("least",.int lo),("most",.int hi)]
 | .text k=>.ins a.kX dx [("kind",.str "text"),("least",.int 0),("most",.int (k:Nat))]
def fE(a:dj)(G:Hp)(p:cS)(r:VasesBase.Range):Prop:=fe r/\∃dx,G p=some (gP a dx r)
theorem hJ(a:dj):pV (fE a):=λ_ _ _ _ h ⟨wf,dx,e⟩=>⟨wf,dx,h _ _ e⟩
def UP(a:dj):Sp:=λvs H Q _=>∃p r,vs=[.ref p]/\fE a H p r/\Q (.int (Vasesq.rangeSize r:Nat)) H
theorem mP:fc P w base T.kY 2 (UP a):=by
 specialize T.kY.fn.okN ["span"];obtain⟨p,r,rfl,⟨wf,dx,hp⟩,q⟩:=h;refine⟨_,(ad (de (fM (da (pv 0)) (iz T.sO)) (am (bi (df T.pB (vP T) hr ci (dq (da (pv 0)))))) cZ) (am (bi (dF fw (dF i0 (da (pv 0)) (da (pv 0))) (cr))))),?_⟩;cases r with
 | flag=>
  unfold gP at hp;left;refine' cX (λh1=>absurd h1 (by rfl')) (λ_=>?_);exact q
 | num lo hi=>
  unfold gP at hp;left;refine' cX (λh1=>absurd h1 (by rfl')) (λ_=>?_);obtain⟨h1,_⟩:=wf;have e:((Vasesq.rangeSize (.num lo hi):Nat):Int)=hi-lo+1:=by
   show(((hi-lo+1).toNat:Nat):Int)=_
   lia
  rw[e] at q;exact q
 | text k=>
  unfold gP at hp;left;refine' cX (λ_=>?_) (λh1=>absurd (by rfl') h1);have hk:k<=255:=wf;refine⟨k,rfl,⟨by lia,by lia⟩,?_⟩;exact q
def UQ(a:dj):Sp:=λvs H Q _=>∃p rs,vs=[.ref p]/\IsList (fE a) H p rs/\rs.length<=4/\Q (.int (Vasesq.rangesSize rs:Nat)) H
theorem dX.all{α:Type}{Pm:Hp->cS->α->Prop}{R:α->Prop}{G:Hp}{ps:List cS}{xs:List α}(e:dX Pm G ps xs)(h:∀p x,Pm G p x->R x):∀x∈xs,R x:=by
 unfold dX at e
 induction e with
 | nil=>intro x hx;cases hx
 | cons a _ ih=>
  intro x hx;rcases aw.mp hx with z|z
  .rw[z];exact h _ _ a
  .exact ih x z
theorem zV:fc P w base T.oK 3 (UQ a):=by
 specialize T.oK.fn.okN ["spans","count","span"];obtain⟨p,rs,rfl,⟨ps,hp,Xe⟩,hl,q⟩:=h;refine⟨_,(ad (dz 1 nd (cr)) (ad (fv PassesOwn.never rfl (eW (pv 0)) (gh 2 nd) (am (mf 1 nd (df T.kY (mP T) hr ci (dq (pv 2))) uE))) (am (bi (pv 1))))),?_⟩;have wf:∀r∈rs,fe r:=Xe.all λ_ _ z=>z.1;left;refine lE (xs:=ps.map V.ref) (λj U H'=>H'=H/\∃x,U=[some (.ref p),some (.int (Vasesq.rangesSize (rs.take j):Nat)),x]) ⟨rfl,none,rfl⟩ (λi U H' _ h=>by rw[h.1];exact hp) ?_ ?_
 .rintro j x U H' hx ⟨rfl,y,rfl⟩;rw[ak] at hx;cases e1:ps[j]? with
  | none=>rw[e1] at hx;cases hx
  | some p1=>
   rw[e1] at hx;cases hx;obtain⟨r1,e2,s1⟩:=Xe.get' e1;left;refine⟨p1,r1,rfl,s1,?_⟩;have w1:∀r∈rs.take j,fe r:=λr hr=>wf r (bZ hr);have l1:(rs.take j).length<=4:=aA (List.length_take_le' _ _) hl;refine kO ⟨fz rfl (aX (ln w1 l1) (a5 (by decide) (by decide))),fz rfl (aX (mi s1.1) (a5 (by decide) (by decide)))⟩ ?_;refine⟨rfl,some (.ref p1),?_⟩;have e3:rs.take (j+1)=rs.take j++[r1]:=by rw[bX,e2];rfl
   rw[e3,il];simp
 .rintro U H' ⟨rfl,y,rfl⟩;left;rw[af,Xe.len,aQ];exact q
theorem Li(h:isLetter x=true):gM (strOf (x::r)) (.name (x::r)):=by
 intro u wf;have hx:(65<=x.toNat/\x.toNat<=90)∨(97<=x.toNat/\x.toNat<=122):=by unfold isLetter at h;simpa using h
 constructor
 .intro e;cases u with
  | name b=>rw[hG (aH e)]
  | num n=>cases e
  | text b=>cases e
  | sign s=>
   exfalso;have e1:ff s=strOf (x::r):=aH e;have e2:(ff s).cps.toList=x.toNat::r.map UInt8.toNat:=by rw[e1];simp[strOf]
   have e3:(ff s).cps.toList.head?=some x.toNat:=by rw[e2];rfl
   rcases wf with rfl|rfl|wf
   .have:(ff 1).cps.toList.head?=some 45:=(by rfl');rw[this] at e3;injection e3 with e3;lia
   .have:(ff 2).cps.toList.head?=some 60:=(by rfl');rw[this] at e3;injection e3 with e3;lia
   .have:∀c∈VasesBase.SIGNS.map UInt8.toNat,(ff c).cps.toList.head?=some c/\¬((65<=c/\c<=90)∨(97<=c/\c<=122)):=(by rfl');obtain⟨z1,z2⟩:=this s wf;rw[z1] at e3;injection e3 with e3;rw[e3] at z2;exact z2 hx
  | halt_=>
   exfalso;have e1:("":Str)=strOf (x::r):=aH e;have h1:("":Str).cps.size=0:=by rfl'
   have h2:=au (λs:Str=>s.cps.size) e1;have h3:=h1.symm.trans h2;simp[strOf] at h3
 .rintro rfl;rfl
theorem iR(e:s=strOf b)(h:(b.head?.map isLetter)=some true):gM s (.name b):=by
 cases b with
 | nil=>cases h
 | cons x r=>rw[e];exact Li (by simpa using h)
theorem zm:gM "->" (.sign 1)/\gM "<-" (.sign 2):=by
 have key:∀(s:Str)(c:Nat),(∃x y,s=⟨#[x,y]⟩/\(x=45∨x=60))->ff c=s->(∀d,d≠c->(d=1∨d=2)->ff d≠s)->gM s (.sign c):=by
  rintro s c ⟨x,y,rfl,hx⟩ hc hd u wf;constructor
  .intro e;cases u with
   | name b=>
    exfalso;have e1:strOf b=⟨#[x,y]⟩:=aH e;have e2:b.map UInt8.toNat=[x,y]:=by
     have:=au (λs:Str=>s.cps.toList) e1;simpa [strOf] using this
    cases b with
    | nil=>simp at e2
    | cons z r=>
     simp at e2;have:=wf.2.2 z (by simp);rcases this with q|q
     .unfold isLetter at q;simp at q;lia
     .unfold isDigit at q;simp at q;lia
   | num n=>cases e
   | text b=>cases e
   | sign d=>
    have e1:ff d=⟨#[x,y]⟩:=aH e;rcases wf with rfl|rfl|wf
    .by_cases q:1=c
     .rw[q]
     .exact absurd e1 (hd 1 q (.inl rfl))
    .by_cases q:2=c
     .rw[q]
     .exact absurd e1 (hd 2 q (.inr rfl))
    .exfalso;have h1:∀c∈VasesBase.SIGNS.map UInt8.toNat,(ff c).cps.size=1:=(by rfl');have h2:=h1 d wf;rw[e1] at h2;simp at h2
   | halt_=>
    exfalso;have e1:("":Str)=⟨#[x,y]⟩:=aH e;have h1:("":Str).cps.size=0:=(by rfl');have h2:=au (λs:Str=>s.cps.size) e1;have h3:=h1.symm.trans h2;simp at h3
  .rintro rfl;show some (ff c)=_;rw[hc]
 refine⟨key "->" 1 ⟨45,62,by rfl',.inl rfl⟩ (by rfl') ?_,key "<-" 2 ⟨60,45,by rfl',.inr rfl⟩ (by rfl') ?_⟩
 .rintro d h (rfl|rfl)
  .exact absurd rfl h
  .rfl'
 .rintro d h (rfl|rfl)
  .rfl'
  .exact absurd rfl h
noncomputable def mQ(l:Toks):Except Fault (VasesBase.Range×Toks):=do
 let (lo,l) ←takeNum l
 let (hi,l) ←takeNum l
 if hi.2<lo.2 then .error ⟨7,hi.1⟩ else .ok (.num lo.2 hi.2,l)
noncomputable def lU(l:Toks):Except Fault (VasesBase.Range×Toks):=do
 let (k,l) ←takeNum l
 if k.2<0∨(VasesBase.LITERAL:Int)<k.2 then .error ⟨7,k.1⟩ else .ok (.text k.2.toNat,l)
def GJ{α:Type}(a:dj)(one:Toks->Except Fault (α×Toks))(Pm:Hp->cS->α->Prop):Sp:=λvs H Q E=>∃W r l,vs=[.ref r]/\fT W H/\eC a W H r l/\lS a (·=r) H Q E (one l) (o7 a Pm W r)
theorem Cu(h:gp a (dv W H) p ⟨pl,.num n⟩):∃dx be,H p=some (.ins a.iO dx [("kind",.int 2),("content",.int n),("place",.int pl),("behind",be)]):=by
 obtain⟨dx,c,be,e,hc⟩:=h.obj;obtain rfl:c=.int n:=hc;exact⟨dx,be,e⟩
theorem IG:ir P w base a.du T.Ag 5 (GJ a mQ (fE a)):=by
 refine T.Ag.fn.okX ["reader","least","most"] λW8 A outer s H vs Q E hr h nd hu W9 th=>?_;intro X;obtain⟨W,r,l,rfl,D,R,q⟩:=h;refine⟨_,(ad (dz 1 nd (d7 (pv 0) T.dm T.hZ (jq T) hr (th.passes rfl))) (ad (dz 2 nd (d7 (pv 0) T.dm T.hZ (jq T) hr (th.passes rfl))) (ad (de (jW (da (pv 2)) (da (pv 1))) (am (gw T.dL (eE T) T.gy (hr.mono (by decide)) rfl T.fL th rfl (dg (dA T.EJ) (da (pv 2))))) cZ) (am (bi (fQ T.LQ T.om (pX T) hr ci (db (iz T.KA) (dg (da (pv 1)) (da (pv 2)))))))))),?_⟩;obtain⟨dx,tl,k2,Xd⟩:=R.obj;unfold mQ at q;dsimp only[bind,Except.bind] at q;left;refine⟨W,r,l,rfl,R,?_⟩;cases e1:takeNum l with
 | error fa=>rw[e1] at q;exact q
 | ok x1=>
  obtain⟨⟨p1,n1⟩,l1⟩:=x1;rw[e1] at q;rintro v H1 b1 ⟨a1,rfl,t1,R1⟩;obtain⟨dx,tl,k2,Xd⟩:=R1.obj;left;refine⟨W,r,l1,rfl,R1,?_⟩;dsimp only at q;cases e2:takeNum l1 with
  | error fa=>rw[e2] at q;exact Fl.but q b1
  | ok x2=>
   obtain⟨⟨p2,n2⟩,l2⟩:=x2;rw[e2] at q;rintro v H2 b2 ⟨a2,rfl,t2,R2⟩;have ad4:gp a (dv W H2) a1 ⟨p1,.num n1⟩:=t1.same (d4 (b2.mono λb e=>by rw[e];exact R.1));have w1:=t1.1;have w2:=t2.1;obtain⟨d1,Zb,h1⟩:=Cu ad4;obtain⟨d2,abk,h2⟩:=Cu t2;left;dsimp only at q;refine cX (λh3=>?_) (λh3=>?_)
   .rw[ae (ai h3)] at q;left;exact fU (Fl.but q (b1.trans b2)) rfl rfl
   .have h3:¬n2<n1:=λz=>h3 (ao z);rw[aa h3] at q;left;refine gk rfl λx dx H3 nx sm hx=>?_;have D2:=(D.rd b1 R1).rd b2 R2;refine q _ _ ((b1.trans b2).trans sm.but) ⟨x,rfl,⟨⟨by lia,w1.1,w2.2⟩,dx,?_⟩,?_⟩
    .exact dQ hx (D2.no nx)
    .obtain⟨hW,dx,tl,ts,k,Xd,hl,hb,hd,g⟩:=R2;exact⟨hW,dx,tl,ts,k,sm _ _ Xd,hl.same (jC a) (d4 sm.but),hb,hd,g⟩
theorem eC.same(h:eC a W H r l)(sm:bn H H'):eC a W H' r l:=by
 obtain⟨hW,dx,tl,ts,k,Xd,hl,hb,hd,g⟩:=h;exact⟨hW,dx,tl,ts,k,sm _ _ Xd,hl.same (jC a) (d4 sm.but),hb,hd,g⟩
theorem fT.same(h:fT W H)(sm:bn H H'):fT W H':=λb z e=>by
 cases q:H b with
 | none=>exact h b z q
 | some o=>rw[sm b o q] at e;cases e
theorem GK:ir P w base a.du T.xx 5 (GJ a lU (fE a)):=by
 refine T.xx.fn.okX ["reader","longest"] λW8 A outer s H vs Q E hr h nd hu W9 th=>?_;intro X;obtain⟨W,r,l,rfl,D,R,q⟩:=h;refine⟨_,(ad (dz 1 nd (d7 (pv 0) T.dm T.hZ (jq T) hr (th.passes rfl))) (ad (de (PW.pt (lc (jW (da (pv 1)) (cr)) (jM (wB (da (pv 1)) (dA T.HC))))) (am (gw T.dL (eE T) T.gy (hr.mono (by decide)) rfl T.fL th rfl (dg (dA T.EJ) (da (pv 1))))) cZ) (am (bi (fQ T.LQ T.om (pX T) hr ci (db (iz T.sO) (dg (cr) (da (pv 1))))))))),?_⟩;obtain⟨dx,tl,k2,Xd⟩:=R.obj;unfold lU at q;dsimp only[bind,Except.bind] at q;left;refine⟨W,r,l,rfl,R,?_⟩;cases e1:takeNum l with
 | error fa=>rw[e1] at q;exact q
 | ok x1=>
  obtain⟨⟨p1,n1⟩,l1⟩:=x1;rw[e1] at q;rintro v H1 b1 ⟨a1,rfl,t1,R1⟩;obtain⟨d1,Zb,h1⟩:=Cu t1;have D1:=D.rd b1 R1;dsimp only at q;change lS a (·=r) H Q E (if n1<0∨(255:Int)<n1 then .error ⟨7,p1⟩ else .ok (.text n1.toNat,l1)) (o7 a (fE a) W r) at q;have done:¬(n1<0∨(255:Int)<n1)->∀x dx H3,H1 x=none->bn H1 H3->H3 x=some (.ins a.kX dx [("kind",.str "text"),("least",.int 0),("most",.int n1)])->Q (.ref x) H3:=λh3 x dx H3 nx sm hx=>by
   rw[aa h3] at q;refine q _ _ (b1.trans sm.but) ⟨x,rfl,⟨(by show n1.toNat<=255;lia),dx,?_⟩,R1.same sm⟩;have e:(n1.toNat:Int)=n1:=by lia
   show dv W H3 x=some (.ins a.kX dx [("kind",.str "text"),("least",.int 0),("most",.int (n1.toNat:Nat))]);rw[e];exact dQ hx (D1.no nx)
  left;refine cX (λh3=>eU ?_) (λh3=>?_)
  .rw[ae (.inl (ai h3))] at q;left;exact fU (Fl.but q b1) rfl rfl
  .left;refine cX (λh4=>?_) (λh4=>?_)
   .rw[ae (.inr (ai h4))] at q;left;exact fU (Fl.but q b1) rfl rfl
   .left;exact gk rfl (done λz=>z.elim (λz=>h3 (ao z)) λz=>h4 (ao z))
theorem r6:jr takeNum:=λl x l' h=>by
 unfold takeNum at h;split at h
 .cases h;simp
 .cases h
theorem jt:VasesBase.takeRange l=if next (.name (word "flag")) l=true then .ok (.flag,l.drop 1) else if next (.name (word "num")) l=true then mQ (l.drop 1) else if next (.name (word "text")) l=true then lU (l.drop 1) else .error ⟨3,here l⟩:=rfl
theorem oy:jr VasesBase.takeRange:=λl x l' h=>by
 rw[jt] at h;have dl:(l.drop 1).length<=l.length:=by simp
 split at h
 .cases h;exact dl
 .split at h
  .unfold mQ at h;dsimp only[bind,Except.bind] at h;cases e1:takeNum (l.drop 1) with
   | error f=>rw[e1] at h;cases h
   | ok x1=>
    rw[e1] at h;dsimp only at h;cases e2:takeNum x1.2 with
    | error f=>rw[e2] at h;cases h
    | ok x2=>
     rw[e2] at h;dsimp only at h;have s1:=r6 _ x1.1 x1.2 e1;have s2:=r6 _ x2.1 x2.2 e2;split at h
     .cases h
     .cases h;lia
  .split at h
   .unfold lU at h;dsimp only[bind,Except.bind] at h;cases e1:takeNum (l.drop 1) with
    | error f=>rw[e1] at h;cases h
    | ok x1=>
     rw[e1] at h;dsimp only at h;have s1:=r6 _ x1.1 x1.2 e1;split at h
     .cases h
     .cases h;lia
   .cases h
theorem GL:ir P w base a.du T.oq 6 (rg a (dP 4 Vasesd.rangeNext VasesBase.takeRange) (fE a)):=by
 refine T.oq.fn.okX ["reader","count","kind"] λW8 A outer s H vs Q E hr h nd hu W9 th=>?_;intro X;obtain⟨W,r,l,n,rfl,D,R,q⟩:=h;refine⟨_,(ad (dB (dh (pv 0) T.dm T.gu (gx T) hr (th.passes rfl) (dq (qI (dh (pv 0) T.dm T.fo (eX T) hr ci (dq (iz T.DF))) (qI (dh (pv 0) T.dm T.fo (eX T) hr ci (dq (iz T.KA))) (pH (dh (pv 0) T.dm T.fo (eX T) hr ci (dq (iz T.sO))))))))) (ad (dB (dh (pv 0) T.dm T.ie (jo T) hr (th.passes rfl) (dg (pv 1) (dA T.LS)))) (ad (dz 2 nd (da (d7 (pv 0) T.dm T.gn (gb T) hr ci))) (ad (de (fM (pv 2) (iz T.DF)) (am (bi (fQ T.LQ T.om (pX T) hr ci (db (iz T.DF) (dg (cr) (cr)))))) cZ) (ad (de (fM (pv 2) (iz T.KA)) (am (bi (df T.Ag (IG T) hr (th.passes rfl) (dq (pv 0))))) cZ) (am (bi (df T.xx (GK T) hr (th.passes rfl) (dq (pv 0)))))))))),?_⟩;obtain⟨dx,tl,k2,Xd⟩:=R.obj;have sf:("flag":Str)=strOf (word "flag"):=by rfl'
 have sn:("num":Str)=strOf (word "num"):=by rfl'
 have st:("text":Str)=strOf (word "text"):=by rfl'
 have tf:gM "flag" (.name (word "flag")):=iR sf (by decide);have tn:gM "num" (.name (word "num")):=iR sn (by decide);have tt:gM "text" (.name (word "text")):=iR st (by decide)
 have room:Vasesd.rangeNext l=true->zM (KC (m6 a.dS "demand_room" (Nj a) [] E (gD 0) (fF (gD 1) (fF (tC (.int 4)) gv)))) (zM (zN (F5 K (m6 a.dS "take" (Nk a) [] E0 (gD 0) gv) "content") (jU 2))
   (zM (F1 (m5 (kM JL (gD 2) (tC (.str "flag")))) (wg (qN a.kX (lp a.kX ["kind","least","most"]) [] E0 (fF (tC (.str "flag")) (fF (tC (.int 0)) (fF (tC (.int 1)) gv))))) FP)
    (zM (F1 (m5 (kM JL (gD 2) (tC (.str "num")))) (wg (ma (GJ a mQ (fE a)) [] E (fF (gD 0) gv))) FP) (wg (ma (GJ a lU (fE a)) [] E (fF (gD 0) gv))))))
   ⟨λ_ H'=>Q .non H',Q,λ_ _=>False,λ_ _=>False⟩ [some (.ref r),some (.int (n:Nat)),none] H:=λhn=>by
  left;refine⟨W,r,l,n,4,rfl,R,λh1=>?_,λh1=>?_⟩
  .have q:lS a (·=r) H Q E (VasesBase.takeRange l) (o7 a (fE a) W r):=by
    unfold dP at q;rw[aa λz=>h1 (by lia)] at q;exact q
   obtain⟨b,hb,p,l1,rfl⟩:∃b,(b=word "flag"∨b=word "num"∨b=word "text")/\∃p l1,l=⟨p,.name b⟩::l1:=by
    unfold Vasesd.rangeNext at hn;simp only[Bool.or_eq_true] at hn;rcases hn with (hn|hn)|hn
    .obtain⟨p,l1,e⟩:=jp hn;exact⟨_,.inl rfl,p,l1,e⟩
    .obtain⟨p,l1,e⟩:=jp hn;exact⟨_,.inr (.inl rfl),p,l1,e⟩
    .obtain⟨p,l1,e⟩:=jp hn;exact⟨_,.inr (.inr rfl),p,l1,e⟩
   left;refine⟨W,r,_,_,l1,rfl,R,rfl,(by intro z;cases z),λp1 H1 b1 R1 t1=>?_⟩;have D1:=D.rd b1 R1;obtain⟨d1,c1,Zb,h1,hc⟩:=t1.obj;obtain rfl:c1=.str (strOf b):=hc;left;rcases hb with rfl|rfl|rfl
   .rw[jt,ae (by simp[next])] at q;refine' cX (λ_=>?_) (λz=>absurd (by rw[sf];exact ao rfl) z);refine gk rfl λx dx H3 nx sm hx=>?_;exact q _ _ (b1.trans sm.but) ⟨x,rfl,⟨trivial,dx,dQ hx (D1.no nx)⟩,R1.same sm⟩
   .rw[jt,aa (by simp[next];decide),ae (by simp[next])] at q;refine' cX (λz=>absurd z (by rfl')) (λ_=>?_);refine' cX (λ_=>?_) (λz=>absurd (by rw[sn];exact ao rfl) z);refine⟨W,r,l1,rfl,D1,R1,?_⟩;rw[show List.drop 1 (({place:=p,tok:=.name (word "num")}:PTok)::l1)=l1 from rfl] at q;revert q;cases mQ l1 with
    | error f=>exact λq=>Fl.but q b1
    | ok x=>exact λq v H' b z=>q v H' (b1.trans b) z
   .rw[jt,aa (by simp[next];decide),aa (by simp[next];decide),ae (by simp[next])] at q;refine' cX (λz=>absurd z (by rfl')) (λ_=>?_);refine' cX (λz=>absurd z (by rfl')) (λ_=>?_);refine⟨W,r,l1,rfl,D1,R1,?_⟩;rw[show List.drop 1 (({place:=p,tok:=.name (word "text")}:PTok)::l1)=l1 from rfl] at q;revert q;cases lU l1 with
    | error f=>exact λq=>Fl.but q b1
    | ok x=>exact λq v H' b z=>q v H' (b1.trans b) z
  .unfold dP at q;rw[ae ⟨hn,by lia⟩] at q;exact q
 left;refine'⟨W,r,l,_,_,rfl,R,tf,?_⟩;cases e1:next (.name (word "flag")) l with
 | true=>
  refine' eU ?_;exact⟨W,r,l,true,rfl,R,λ_=>room (by unfold Vasesd.rangeNext;rw[e1];rfl),λz=>by cases z⟩
 | false=>
  refine' eQ ?_;refine'⟨W,r,l,_,_,rfl,R,tn,?_⟩;cases e2:next (.name (word "num")) l with
  | true=>
   refine' eU ?_;exact⟨W,r,l,true,rfl,R,λ_=>room (by unfold Vasesd.rangeNext;rw[e1,e2];rfl),λz=>by cases z⟩
  | false=>
   refine' eQ ?_;refine'⟨W,r,l,_,_,rfl,R,tt,?_⟩;refine⟨W,r,l,_,rfl,R,λe3=>room (by unfold Vasesd.rangeNext;rw[e1,e2,e3];rfl),λe3=>?_⟩;unfold dP at q;rw[aa (λz=>by have:=z.1;unfold Vasesd.rangeNext at this;rw[e1,e2,e3] at this;cases this),jt,e1,e2,e3] at q;exact q
theorem o8{α:Type}{sep most:Nat}{Xb:Toks->Bool}{one:Toks->Except Fault (α×Toks)}(hb:∀l,Xb l=false->∃f,one l=.error f):∀(n k:Nat)(l:Toks)(xs:List α)(l':Toks),Vasesd.parted sep most Xb one n k l=.ok (xs,l')->k+xs.length<=most
 | 0,k,l,xs,l',h=>by cases h
 | n+1,k,l,xs,l',h=>by
  rw[rh] at h;cases e1:dP most Xb one k l with
  | error f=>rw[e1] at h;cases h
  | ok x1=>
   obtain⟨x1,l1⟩:=x1;rw[e1] at h;dsimp only at h;have hk:k<most:=by
    unfold dP at e1;split at e1
    .cases e1
    .rename_i z;cases q:Xb l with
     | true=>rw[q] at z;simp at z;lia
     | false=>obtain⟨f,ef⟩:=hb l q;rw[ef] at e1;cases e1
   cases e2:more sep most Xb one n (k+1) l1 with
   | error f=>rw[e2] at h;cases h
   | ok y=>
    obtain⟨ys,l2⟩:=y;rw[e2] at h;cases h;unfold more at e2;split at e2
    .have:=o8 hb n (k+1) _ _ _ e2;simp
     lia
    .cases e2;simp
     lia
theorem ko{α:Type}{sep most:Nat}{Xb:Toks->Bool}{one:Toks->Except Fault (α×Toks)}(sh:jr one):∀(n k:Nat)(l:Toks)(xs:List α)(l':Toks),Vasesd.parted sep most Xb one n k l=.ok (xs,l')->l'.length<=l.length
 | 0,k,l,xs,l',h=>by cases h
 | n+1,k,l,xs,l',h=>by
  rw[rh] at h;cases e1:dP most Xb one k l with
  | error f=>rw[e1] at h;cases h
  | ok x1=>
   obtain⟨x1,l1⟩:=x1;rw[e1] at h;dsimp only at h;have s1:=sh _ _ _ (kb e1);cases e2:more sep most Xb one n (k+1) l1 with
   | error f=>rw[e2] at h;cases h
   | ok y=>
    obtain⟨ys,l2⟩:=y;rw[e2] at h;cases h;unfold more at e2;split at e2
    .have:=ko sh n (k+1) _ _ _ e2;simp at this
     lia
    .cases e2;exact s1
theorem hU(h:takeSign c l=.ok l'):l'.length<=l.length:=wU h
theorem mv{α:Type}{most:Nat}{Xb:Toks->Bool}{one:Toks->Except Fault (α×Toks)}(hb:∀l,Xb l=false->∃f,one l=.error f)(sh:jr one){l l':Toks}{xs:List α}(h:gi most Xb one l=.ok (xs,l')):xs.length<=most/\l'.length<=l.length:=by
 unfold gi at h;dsimp only[bind,Except.bind] at h;cases e1:takeSign 40 l with
 | error f=>rw[e1] at h;cases h
 | ok l1=>
  rw[e1] at h;dsimp only at h;have s1:=hU e1;split at h
  .cases h;simp
   lia
  .cases e2:Vasesd.parted 44 most Xb one (l1.length+1) 0 l1 with
   | error f=>rw[e2] at h;cases h
   | ok y=>
    obtain⟨ys,l2⟩:=y;rw[e2] at h;dsimp only at h;cases e3:takeSign 41 l2 with
    | error f=>rw[e3] at h;cases h
    | ok l3=>
     rw[e3] at h;cases h;have s2:=ko sh _ _ _ _ _ e2;have s3:=hU e3;have s4:=o8 hb _ _ _ _ _ e2;exact⟨by lia,by lia⟩
theorem wV(l:Toks)(h:Vasesd.rangeNext l=false):∃f,VasesBase.takeRange l=.error f:=by
 unfold Vasesd.rangeNext at h;simp only[cG] at h;rw[jt,h.1.1,h.1.2,h.2];exact⟨_,rfl⟩
theorem vQ:jr Vasesd.takeHands:=λl x l' h=>by
 unfold Vasesd.takeHands at h;split at h
 .dsimp only[bind,Except.bind] at h;cases e2:Vasesd.parted 44 Vasesd.HANDS nameNext takeName (l.length+1) 0 (l.drop 1) with
  | error f=>rw[e2] at h;cases h
  | ok y=>
   obtain⟨ys,l2⟩:=y;rw[e2] at h;dsimp only at h;cases e3:takeSign 93 l2 with
   | error f=>rw[e3] at h;cases h
   | ok l3=>
    rw[e3] at h;cases h;have s2:=ko js _ _ _ _ _ e2;have s3:=hU e3;simp at s2
    lia
 .cases h;exact ah _
theorem Ey:Vasesd.takeBranch l=(match takeName l with
  | .error f=>.error f
  | .ok (n,l1)=>match gi 4 Vasesd.rangeNext VasesBase.takeRange l1 with
   | .error f=>.error f
   | .ok (rs,l2)=>match Vasesd.takeHands l2 with
    | .error f=>.error f
    | .ok (hs,l3)=>match takeName l3 with
     | .error f=>.error f
     | .ok (t,l4)=>.ok (⟨n,rs,hs,t⟩,l4)):=by
 show(takeName l >>= _)=_;cases takeName l with
 | error f=>rfl
 | ok x=>
  obtain⟨n,l1⟩:=x;show(gi 4 Vasesd.rangeNext VasesBase.takeRange l1 >>= _)=_;dsimp only;cases gi 4 Vasesd.rangeNext VasesBase.takeRange l1 with
  | error f=>rfl
  | ok x=>
   obtain⟨rs,l2⟩:=x;show(Vasesd.takeHands l2 >>= _)=_;dsimp only;cases Vasesd.takeHands l2 with
   | error f=>rfl
   | ok x=>
    obtain⟨hs,l3⟩:=x;show(takeName l3 >>= _)=_;dsimp only;cases takeName l3 with
    | error f=>rfl
    | ok x=>rfl
theorem tZ:jr Vasesd.takeBranch:=λl x l' h=>by
 rw[Ey] at h;split at h
 .cases h
 .rename_i n l1 e1;split at h
  .cases h
  .rename_i rs l2 e2;split at h
   .cases h
   .rename_i hs l3 e3;split at h
    .cases h
    .rename_i t l4 e4;cases h;have s1:=js _ _ _ e1;have s2:=(mv wV oy e2).2;have s3:=vQ _ _ _ e3;have s4:=js _ _ _ e4
     lia
noncomputable def i6(pl ps ph pt:cS)(n g:Int):List (Str×V):=[("label",.ref pl),("spans",.ref ps),("handed",.ref ph),("target",.ref pt),("many",.int n),("goal",.int g)]
structure Ez(a:dj)(G:Hp)(pl ps ph pt:cS)(n:Int)(b:Vasesd.RawBranch):Prop where
 label:dH a G pl b.label
 spans:IsList (fE a) G ps b.ranges
 handed:IsList (dH a) G ph b.hands
 target:dH a G pt b.to
 len:b.ranges.length<=4
 many:n=(Vasesq.rangesSize b.ranges:Nat)
theorem Ez.same(h:bn G G')(x:Ez a G pl ps ph pt n b):Ez a G' pl ps ph pt n b:=
 ⟨dG a _ _ _ _ h x.label,x.spans.same (hJ a) h,x.handed.same (dG a) h,dG a _ _ _ _ h x.target,x.len,x.many⟩
def jZ(a:dj)(G:Hp)(p:cS)(b:Vasesd.RawBranch):Prop:=∃dx pl ps ph pt n g,G p=some (.ins a.eM dx (i6 pl ps ph pt n g))/\Ez a G pl ps ph pt n b
theorem mR(a:dj):pV (jZ a):=λ_ _ _ _ h ⟨dx,pl,ps,ph,pt,n,g,e,x⟩=>⟨dx,pl,ps,ph,pt,n,g,h _ _ e,x.same h⟩
def TF(a:dj):Sp:=λvs H Q _=>∃x dx pl ps ph pt rs,vs=[.ref x,.ref pl,.ref ps,.ref ph,.ref pt]/\H x=some (.ins a.eM dx [])/\IsList (fE a) (dv (·=x) H) ps rs/\rs.length<=4/\Q .non (upd H x (.ins a.eM dx (i6 pl ps ph pt (Vasesq.rangesSize rs:Nat) 0)))
theorem Cv:wD P w base T.sI mg 4 (TF a):=by
 specialize T.sI.fn.okN ["self","label","spans","handed","target"];obtain⟨x,dx,pl,ps,ph,pt,rs,rfl,hx,hs,hl,q⟩:=h;refine'⟨_,(ad (fR (pv 0) (pv 1)) (ad (fR (pv 0) (pv 2)) (ad (fR (pv 0) (pv 3)) (ad (fR (pv 0) (pv 4)) (ad (fR (pv 0) (df T.oK (zV T) hr ci (dq (pv 2)))) (am (fR (pv 0) (cr)))))))),?_⟩;rw[eq,eq,eq];refine⟨ps,rs,rfl,?_,hl,?_⟩
 .refine hs.same (hJ a) λb o e=>?_;obtain⟨e,n⟩:=dW e;rw[ap n];exact e
 .left;rw[eq,eq];exact q
theorem QF(nx:H1 x=none)(nd:H1 dx=none):bn (dv W H1) (dv (·=x) (upd (upd H1 dx (.own x)) x o)):=λb u e=>by
 obtain⟨e,_⟩:=dW e;have h1:b≠x:=ca e nx;exact dQ (by rw[ap h1,ap (ca e nd)];exact e) h1
theorem GM(T:Txt K mg a):eS P w K mg base (kH P w a.du) 8 a.jI a.jj ["reader","read_one"] (Oy a a.zK 4 Vasesd.rangeNext VasesBase.takeRange (fE a)):=
 oX T (GL T) T.oq.fn.kp T.oq.bd (hJ a) oy (by decide)
theorem Cw:ir P w base a.du T.kZ 9 (rg a (dP 16 nameNext Vasesd.takeBranch) (jZ a)):=by
 refine T.kZ.fn.okX ["reader","count","label","spans","handed","target"] λW8 A outer s H vs Q E hr h nd hu W9 th=>?_;intro X;obtain⟨W,r,l,n,rfl,D,R,q⟩:=h;refine⟨_,(ad (dz 2 nd (dh (pv 0) T.dm T.fB (gq T) hr (th.passes rfl) (dg (pv 1) (dA T.FM)))) (ad (dz 3 nd (df T.m4 (GM T) hr (th.passes rfl) (dg (pv 0) (Ei T.oq.mg_)))) (ad (dz 4 nd (df T.nH (tY T) hr (th.passes rfl) (dq (pv 0)))) (ad (dz 5 nd (d7 (pv 0) T.dm T.fX (gj T) hr (th.passes rfl))) (am (bi (fQ T.dY T.sI (Cv T) hr ci (db (pv 2) (db (pv 3) (dg (pv 4) (pv 5))))))))))),?_⟩;obtain⟨dx,tl,k2,Xd⟩:=R.obj;have kp:∀{H1 H2:Hp},fC (·=r) H1 H2->bn (dv W H1) (dv W H2):=λb=>d4 (b.mono λb e=>by rw[e];exact R.1);left;refine⟨W,r,l,n,16,rfl,R,?_⟩;rw[show(16:Int)=((16:Nat):Int) from rfl,nu]
 have q:lS a (·=r) H Q E (match dP 16 nameNext takeName n l with
   | .error f=>.error f
   | .ok (n,l1)=>match gi 4 Vasesd.rangeNext VasesBase.takeRange l1 with
    | .error f=>.error f
    | .ok (rs,l2)=>match Vasesd.takeHands l2 with
     | .error f=>.error f
     | .ok (hs,l3)=>match takeName l3 with
      | .error f=>.error f
      | .ok (t,l4)=>.ok (⟨n,rs,hs,t⟩,l4)) (o7 a (jZ a) W r):=by
  unfold dP at q ⊢;by_cases z:nameNext l=true/\16<=n
  .rw[ae z] at q ⊢;exact q
  .rw[aa z] at q ⊢;rw[Ey] at q;exact q
 cases e1:dP 16 nameNext takeName n l with
 | error fa=>rw[e1] at q;exact q
 | ok x1=>
  obtain⟨n1,l1⟩:=x1;rw[e1] at q;rintro v H1 b1 ⟨p1,rfl,t1,R1⟩;have D1:=D.rd b1 R1;dsimp only at q;left;refine⟨W,r,l1,rfl,D1,R1,?_⟩;cases e2:gi 4 Vasesd.rangeNext VasesBase.takeRange l1 with
  | error fa=>rw[e2] at q;exact Fl.but q b1
  | ok x2=>
   obtain⟨rs,l2⟩:=x2;rw[e2] at q;rintro v H2 b2 ⟨p2,rfl,t2,R2⟩;have D2:=D1.rd b2 R2;dsimp only at q;left;refine⟨W,r,l2,rfl,D2,R2,?_⟩;cases e3:Vasesd.takeHands l2 with
   | error fa=>rw[e3] at q;exact Fl.but q (b1.trans b2)
   | ok x3=>
    obtain⟨hs,l3⟩:=x3;rw[e3] at q;rintro v H3 b3 ⟨p3,rfl,t3,R3⟩;have D3:=D2.rd b3 R3;obtain⟨dx,tl,k2,Xd⟩:=R3.obj;dsimp only at q;left;refine⟨W,r,l3,rfl,R3,?_⟩;cases e4:takeName l3 with
    | error fa=>rw[e4] at q;exact Fl.but q (b1.trans (b2.trans b3))
    | ok x4=>
     obtain⟨n4,l4⟩:=x4;rw[e4] at q;rintro v H4 b4 ⟨p4,rfl,t4,R4⟩;have D4:=D3.rd b4 R4;left;intro x dx nx nd ne;have hlen:=(mv wV oy e2).1;have s2:IsList (fE a) (dv W H4) p2 rs:=t2.same (hJ a) (kp (b3.trans b4));refine⟨x,dx,p1,p2,p3,p4,rs,rfl,bv,s2.same (hJ a) (QF nx nd),hlen,rfl,?_⟩;rw[eq];have sm:bn H4 (upd (upd H4 dx (.own x)) x (.ins a.eM dx (i6 p1 p2 p3 p4 (Vasesq.rangesSize rs:Nat) 0))):=bn.make nx nd rfl;have km:bn (dv W H4) (dv W (upd (upd H4 dx (.own x)) x (.ins a.eM dx (i6 p1 p2 p3 p4 (Vasesq.rangesSize rs:Nat) 0)))):=d4 sm.but;refine q _ _ ((b1.trans (b2.trans (b3.trans b4))).trans sm.but) ⟨x,rfl,⟨dx,p1,p2,p3,p4,_,0,dQ bv (D4.no nx),?_⟩,R4.same sm⟩;exact Ez.same km ⟨dG a _ _ _ _ (kp (b2.trans (b3.trans b4))) t1,s2,t3.same (dG a) (kp b4),t4,hlen,rfl⟩
theorem Cy(T:Txt K mg a):eS P w K mg base (kH P w a.du) 10 a.pA a.nF ["reader","sign","read_one"] (Lh a a.vW 59 16 nameNext Vasesd.takeBranch (jZ a)):=
 rZ T (Cw T) T.kZ.fn.kp T.kZ.bd (mR a) tZ (by decide) (by decide)
noncomputable def iS(l:Toks):Except Fault (List Vasesd.RawBranch×Toks):=match takeSign 123 l with
 | .error f=>.error f
 | .ok l1=>match Vasesd.parted 59 16 nameNext Vasesd.takeBranch (l1.length+1) 0 l1 with
  | .error f=>.error f
  | .ok (bs,l2)=>match takeSign 125 l2 with
   | .error f=>.error f
   | .ok l3=>.ok (bs,l3)
theorem zW:ir P w base a.du T.oF 11 (GJ a iS λG p bs=>IsList (jZ a) G p bs):=by
 refine T.oF.fn.okX ["reader","branches"] λW8 A outer s H vs Q E hr h nd hu W9 th=>?_;intro X;obtain⟨W,r,l,rfl,D,R,q⟩:=h;refine⟨_,(ad (dB (dh (pv 0) T.dm T.eu (d8 T) hr (th.passes rfl) (dq (dO)))) (ad (dz 1 nd (df T.vb (Cy T) hr (th.passes rfl) (db (pv 0) (dg (dO) (Ei T.kZ.mg_))))) (ad (dB (dh (pv 0) T.dm T.eu (d8 T) hr (th.passes rfl) (dq (dO)))) (am (bi (pv 1)))))),?_⟩;have eo:("{":Str)=⟨#[123]⟩:=by rfl'
 have ec:("}":Str)=⟨#[125]⟩:=by rfl'
 have em:(";":Str)=⟨#[59]⟩:=by rfl'
 have acy:=iG (c:=123) (by decide);have acz:=iG (c:=125) (by decide);have kp:∀{H1 H2:Hp},fC (·=r) H1 H2->bn (dv W H1) (dv W H2):=λb=>d4 (b.mono λb e=>by rw[e];exact R.1);obtain⟨dx,tl,k2,Xd⟩:=R.obj;unfold iS takeSign at q;left;refine⟨W,r,l,_,_,by rw[eo];rfl,R,acy,(by intro z;cases z),?_⟩;cases e1:VasesBase.take (.sign 123) l with
 | error fa=>rw[e1] at q;exact q
 | ok l1=>
  rw[e1] at q;intro v H1 b1 R1;have D1:=D.rd b1 R1;dsimp only at q;left;refine⟨W,r,l1,_,by rw[em];rfl,D1,R1,bj _,?_⟩;cases e2:Vasesd.parted 59 16 nameNext Vasesd.takeBranch (l1.length+1) 0 l1 with
  | error fa=>rw[e2] at q;exact Fl.but q b1
  | ok x2=>
   obtain⟨bs,l2⟩:=x2;rw[e2] at q;rintro v H2 b2 ⟨p2,rfl,t2,R2⟩;obtain⟨dx,tl,k2,Xd⟩:=R2.obj;dsimp only at q;left;refine⟨W,r,l2,_,_,by rw[ec];rfl,R2,acz,(by intro z;cases z),?_⟩;cases e3:VasesBase.take (.sign 125) l2 with
   | error fa=>rw[e3] at q;exact Fl.but q (b1.trans b2)
   | ok l3=>
    rw[e3] at q;intro v H3 b3 R3;left;exact q _ _ (b1.trans (b2.trans b3)) ⟨p2,rfl,t2.same (mR a) (kp b3),R3⟩
theorem zn:fc P w base T.u0 1 (λvs H Q _=>∃y:Str,vs=[.str y]/\Q (.str (if y="send" then "->" else "<-")) H):=by
 specialize T.u0.fn.okN ["deed"];obtain⟨y,rfl,q⟩:=h;refine'⟨_,(am (bi (ut (fM (pv 0) (iz T.Th)) (dO) (dO)))),?_⟩;by_cases z:y="send"
 .rw[ae z] at q;refine' cX (λ_=>?_) (λh=>absurd (by rw[z];exact ao rfl) h);exact q
 .rw[aa z] at q;refine' cX (λh=>absurd (V.str.inj (ai h)) z) (λ_=>?_);exact q
noncomputable def iB(pn:cS)(d:Str)(f s:V)(pb bl:cS):List (Str×V):=[("name",.ref pn),("deed",.str d),("first",f),("second",s),("branches",.ref pb),("by_label",.ref bl)]
def TH(a:dj):Sp:=λvs H Q _=>∃x dx pn d f s pb,vs=[.ref x,.ref pn,.str d,f,s,.ref pb]/\H x=some (.ins a.ge dx [])/\∀bl H2,fC (·=x) H H2->H2 x=some (.ins a.ge dx (iB pn d f s pb bl))->H2 bl=some (.lst [])->Q .non H2
theorem vR:wD P w base T.pr mg 1 (TH a):=by
 specialize T.pr.fn.okN ["self","name","deed","first","second","branches"];obtain⟨x,dx,pn,d,f,s',pb,rfl,hx,q⟩:=h;refine'⟨_,(ad (fR (pv 0) (pv 1)) (ad (fR (pv 0) (pv 2)) (ad (fR (pv 0) (pv 3)) (ad (fR (pv 0) (pv 4)) (ad (fR (pv 0) (pv 5)) (am (fR (pv 0) (dw eA)))))))),?_⟩;rw[eq,eq,eq,eq];refine⟨by(show 0<=sizeLine;decide),λbl Xp=>?_⟩;have nb:bl≠x:=λz=>by rw[z,bv] at Xp;cases Xp
 rw[ap nb] at Xp;left;refine Cp (a:=x) (C:=a.ge) (dx:=dx) (fs:=[("name",.ref pn),("deed",.str d),("first",f),("second",s'),("branches",.ref pb)]) ?_ T.FY (by decide) (by show 5<1000;decide) rfl ?_
 .rw[ap (Ne.symm nb),bv];rfl
 .refine q bl _ (λb u e n=>?_) bv ?_
  .rw[ap n,ap (ca e Xp),ap n];exact e
  .rw[ap nb,bv]
def zo(a:dj)(G:Hp)(d:Str)(f s:V)(pb:cS):Vasesd.RawNode->Prop
 | .halt_=>d="stop"/\f=.non/\s=.non/\IsList (jZ a) G pb []
 | .send x y bs=>d="send"/\(∃p,f=.ref p/\dH a G p x)/\(∃p,s=.ref p/\dH a G p y)/\IsList (jZ a) G pb bs
 | .recv y x bs=>d="recv"/\(∃p,f=.ref p/\dH a G p y)/\(∃p,s=.ref p/\dH a G p x)/\IsList (jZ a) G pb bs
theorem zo.same(h:bn G G')(x:zo a G d f s pb n):zo a G' d f s pb n:=by
 have nm:∀{v:V} {y:PName},(∃p,v=.ref p/\dH a G p y)->∃p,v=.ref p/\dH a G' p y:=λ⟨p,e,z⟩=>⟨p,e,dG a _ _ _ _ h z⟩;cases n with
 | halt_=>obtain⟨h1,h2,h3,h4⟩:=x;exact⟨h1,h2,h3,h4.same (mR a) h⟩
 | send y z bs=>obtain⟨h1,h2,h3,h4⟩:=x;exact⟨h1,nm h2,nm h3,h4.same (mR a) h⟩
 | recv y z bs=>obtain⟨h1,h2,h3,h4⟩:=x;exact⟨h1,nm h2,nm h3,h4.same (mR a) h⟩
def kq(a:dj)(G:Hp)(p:cS)(s:PName×Vasesd.RawNode):Prop:=∃dx pn d f g pb bl,G p=some (.ins a.ge dx (iB pn d f g pb bl))/\dH a G pn s.1/\zo a G d f g pb s.2
theorem ju(a:dj):pV (kq a):=λ_ _ _ _ h ⟨dx,pn,d,f,g,pb,bl,e,x,y⟩=>⟨dx,pn,d,f,g,pb,bl,h _ _ e,dG a _ _ _ _ h x,y.same h⟩
def fH(arrow:Nat)(l:Toks):Except Fault ((PName×PName×List Vasesd.RawBranch)×Toks):=match takeName l with
 | .error f=>.error f
 | .ok (x,l1)=>match takeSign arrow l1 with
  | .error f=>.error f
  | .ok l2=>match takeName l2 with
   | .error f=>.error f
   | .ok (y,l3)=>match iS l3 with
    | .error f=>.error f
    | .ok (bs,l4)=>.ok ((x,y,bs),l4)
theorem r8:Vasesd.takeTalk c l=fH c l:=by
 unfold Vasesd.takeTalk fH;dsimp only[bind,Except.bind];cases takeName l with
 | error f=>rfl
 | ok x=>
  obtain⟨x,l1⟩:=x;dsimp only;cases takeSign c l1 with
  | error f=>rfl
  | ok l2=>
   dsimp only;cases takeName l2 with
   | error f=>rfl
   | ok y=>
    obtain⟨y,l3⟩:=y;dsimp only;unfold iS;cases takeSign 123 l3 with
    | error f=>rfl
    | ok l4=>
     dsimp only;rw[show Vasesd.BRANCHES=16 from rfl];cases Vasesd.parted 59 16 nameNext Vasesd.takeBranch (l4.length+1) 0 l4 with
     | error f=>rfl
     | ok z=>
      obtain⟨bs,l5⟩:=z;dsimp only;cases takeSign 125 l5 with
      | error f=>rfl
      | ok l6=>rfl
noncomputable def iK(l:Toks):Except Fault ((PName×Vasesd.RawNode)×Toks):=match takeName l with
 | .error f=>.error f
 | .ok (s,l1)=>match takeSign 61 l1 with
  | .error f=>.error f
  | .ok l2=>match Vasesd.takeNode l2 with
   | .error f=>.error f
   | .ok (b,l3)=>.ok ((s,b),l3)
theorem oz:Vasesd.takeStates (n+1) k l=if next .halt_ l=true then .ok [] else match dP 64 nameNext iK k l with
  | .error f=>.error f
  | .ok (s,l1)=>match Vasesd.takeStates n (k+1) l1 with
   | .error f=>.error f
   | .ok ss=>.ok (s::ss):=by
 show(if next .halt_ l=true then _ else _)=_;by_cases h:next .halt_ l=true
 .rw[ae h,ae h]
 .rw[aa h,aa h];unfold dP;by_cases z:nameNext l=true/\64<=k
  .rw[ae z];rw[show Vasesd.STATES=64 from rfl,ae z]
  .rw[aa z];rw[show Vasesd.STATES=64 from rfl,aa z];unfold iK;dsimp only[bind,Except.bind];cases takeName l with
   | error f=>rfl
   | ok x=>
    obtain⟨x,l1⟩:=x;dsimp only;cases takeSign 61 l1 with
    | error f=>rfl
    | ok l2=>
     dsimp only;cases Vasesd.takeNode l2 with
     | error f=>rfl
     | ok y=>
      dsimp only;cases Vasesd.takeStates n (k+1) y.2 with
      | error f=>rfl
      | ok z=>rfl
theorem zp:Vasesd.takeNode l=if next (.name (word "stop")) l=true then .ok (.halt_,l.drop 1) else if next (.name (word "send")) l=true then(match fH 1 (l.drop 1) with
   | .error f=>.error f
   | .ok (t,l1)=>.ok (.send t.1 t.2.1 t.2.2,l1))
  else if next (.name (word "recv")) l=true then(match fH 2 (l.drop 1) with
   | .error f=>.error f
   | .ok (t,l1)=>.ok (.recv t.1 t.2.1 t.2.2,l1))
  else .error ⟨3,here l⟩:=by
 unfold Vasesd.takeNode;rw[r8,r8];dsimp only[bind,Except.bind];cases fH 1 (l.drop 1)<;>cases fH 2 (l.drop 1)<;>rfl
theorem lS.but(h:lS a M H Q E r ok)(b:fC M H H1):lS a M H1 Q E r ok:=by
 cases r with
 | error f=>exact Fl.but h b
 | ok x=>exact λv H' b' z=>h v H' (b.trans b') z
theorem TJ(R:eC a W H r l)(hs:U[0]?=some (some (.ref r)))(h1:gM y1 t1)(h2:gM y2 t2)(h3:gM y3 t3)(q:Q (.bl (next t1 l||next t2 l||next t3 l)) H):KB (m6 a.dS "sees" (Bd a) [] E0 (gD 0) (fF (tC (.str y1)) gv)) (KB (m6 a.dS "sees" (Bd a) [] E0 (gD 0) (fF (tC (.str y2)) gv)) (m6 a.dS "sees" (Bd a) [] E0 (gD 0) (fF (tC (.str y3)) gv))) U H Q:=by
 obtain⟨dx,tl,k2,Xd⟩:=R.obj;refine⟨_,hs,r,dx,_,rfl,Xd,rfl,W,r,l,y1,t1,rfl,R,h1,_,rfl,?_⟩;cases e1:next t1 l with
 | true=>rw[e1] at q;exact eU q
 | false=>
  refine eQ ⟨_,hs,r,dx,_,rfl,Xd,rfl,W,r,l,y2,t2,rfl,R,h2,_,rfl,?_⟩;cases e2:next t2 l with
  | true=>rw[e1,e2] at q;exact eU q
  | false=>
   rw[e1,e2] at q;exact eQ ⟨_,hs,r,dx,_,rfl,Xd,rfl,W,r,l,y3,t3,rfl,R,h3,q⟩
theorem vS:ir P w base a.du T.pD 12 (rg a (dP 64 nameNext iK) (kq a)):=by
 refine T.pD.fn.okX ["reader","count","name","deed","first","second"] λW8 A outer s H vs Q E hr h nd hu W9 th=>?_;intro X;obtain⟨W,r,l,n,rfl,D,R,q⟩:=h;refine⟨_,(ad (dz 2 nd (dh (pv 0) T.dm T.fB (gq T) hr (th.passes rfl) (dg (pv 1) (dA T.Jp)))) (ad (dB (dh (pv 0) T.dm T.eu (d8 T) hr (th.passes rfl) (dq (dO)))) (ad (dB (dh (pv 0) T.dm T.gu (gx T) hr (th.passes rfl) (dq (qI (dh (pv 0) T.dm T.fo (eX T) hr ci (dq (iz T.Ic))) (qI (dh (pv 0) T.dm T.fo (eX T) hr ci (dq (iz T.Th))) (pH (dh (pv 0) T.dm T.fo (eX T) hr ci (dq (iz T.Wl))))))))) (ad (dz 3 nd (da (d7 (pv 0) T.dm T.gn (gb T) hr ci))) (ad (de (fM (pv 3) (iz T.Ic)) (am (bi (fQ T.FY T.pr (vR T) hr ci (db (pv 2) (db (pv 3) (db (wc) (dg (wc) (dw eA)))))))) cZ) (ad (dz 4 nd (d7 (pv 0) T.dm T.fX (gj T) hr (th.passes rfl))) (ad (dB (dh (pv 0) T.dm T.eu (d8 T) hr (th.passes rfl) (dq (df T.u0 (zn T) hr ci (dq (pv 3)))))) (ad (dz 5 nd (d7 (pv 0) T.dm T.fX (gj T) hr (th.passes rfl))) (am (bi (fQ T.FY T.pr (vR T) hr ci (db (pv 2) (db (pv 3) (db (pv 4) (dg (pv 5) (df T.oF (zW T) hr (th.passes rfl) (dq (pv 0)))))))))))))))))),?_⟩;obtain⟨dx,tl,k2,Xd⟩:=R.obj;have kp:∀{H1 H2:Hp},fC (·=r) H1 H2->bn (dv W H1) (dv W H2):=λb=>d4 (b.mono λb e=>by rw[e];exact R.1);have ss:("stop":Str)=strOf (word "stop"):=by rfl'
 have sd:("send":Str)=strOf (word "send"):=by rfl'
 have sr:("recv":Str)=strOf (word "recv"):=by rfl'
 have ts:gM "stop" (.name (word "stop")):=iR ss (by decide);have td:gM "send" (.name (word "send")):=iR sd (by decide);have tr:gM "recv" (.name (word "recv")):=iR sr (by decide);have ee:("=":Str)=⟨#[61]⟩:=by rfl'
 have ad5:=iG (c:=61) (by decide);left;refine⟨W,r,l,n,64,rfl,R,?_⟩;rw[show(64:Int)=((64:Nat):Int) from rfl,nu]
 have q:lS a (·=r) H Q E (match dP 64 nameNext takeName n l with
   | .error f=>.error f
   | .ok (s,l1)=>match takeSign 61 l1 with
    | .error f=>.error f
    | .ok l2=>match Vasesd.takeNode l2 with
     | .error f=>.error f
     | .ok (b,l3)=>.ok ((s,b),l3)) (o7 a (kq a) W r):=by
  unfold dP at q ⊢;by_cases z:nameNext l=true/\64<=n
  .rw[ae z] at q ⊢;exact q
  .rw[aa z] at q ⊢;exact q
 cases e1:dP 64 nameNext takeName n l with
 | error fa=>rw[e1] at q;exact q
 | ok x1=>
  obtain⟨n1,l1⟩:=x1;rw[e1] at q;rintro v H1 b1 ⟨p1,rfl,t1,R1⟩;obtain⟨dx,tl,k2,Xd⟩:=R1.obj;dsimp only at q;left;refine⟨W,r,l1,_,_,by rw[ee];rfl,R1,ad5,(by intro z;cases z),?_⟩;unfold takeSign at q;cases e2:VasesBase.take (.sign 61) l1 with
  | error fa=>rw[e2] at q;exact Fl.but q b1
  | ok l2=>
   rw[e2] at q;intro v H2 b2 R2;have D2:=(D.rd b1 R1).rd b2 R2;have q:=q.but (b1.trans b2);have t1:=dG a _ _ _ _ (kp b2) t1;clear b1 b2 e1 e2 R1 R D Xd;obtain⟨dx,tl,k2,Xd⟩:=R2.obj;dsimp only at q;rw[zp] at q
   repeat (first|(refine TJ R2 rfl ts td tr ?_)|array_get_dec)
   refine⟨W,r,l2,_,rfl,R2,λhn=>?_,λhn=>?_⟩
   rotate_left
   .simp only[cG] at hn;rw[hn.1.1,hn.1.2,hn.2] at q;exact q
   obtain⟨b,hb,p,l3,rfl⟩:∃b,(b=word "stop"∨b=word "send"∨b=word "recv")/\∃p l3,l2=⟨p,.name b⟩::l3:=by
    simp only[Bool.or_eq_true] at hn;rcases hn with (hn|hn)|hn
    .obtain⟨p,l1,e⟩:=jp hn;exact⟨_,.inl rfl,p,l1,e⟩
    .obtain⟨p,l1,e⟩:=jp hn;exact⟨_,.inr (.inl rfl),p,l1,e⟩
    .obtain⟨p,l1,e⟩:=jp hn;exact⟨_,.inr (.inr rfl),p,l1,e⟩
   left;refine⟨W,r,_,_,l3,rfl,R2,rfl,(by intro z;cases z),λp3 H3 b3 R3 t3=>?_⟩;have D3:=D2.rd b3 R3;obtain⟨d3,c3,afP,h3,hc⟩:=t3.obj;obtain rfl:c3=.str (strOf b):=hc;obtain⟨dx,tl,k2,Xd⟩:=R3.obj;have q:=q.but b3;have t1:=dG a _ _ _ _ (kp b3) t1;left;rw[show List.drop 1 (({place:=p,tok:=.name b}:PTok)::l3)=l3 from rfl] at q;by_cases hs:b=word "stop"
   .subst hs;rw[ae (by simp[next])] at q;refine' cX (λ_=>?_) (λz=>absurd (by rw[ss];exact ao rfl) z);refine'⟨by(show 0<=sizeLine;decide),λpb aaO=>?_⟩;intro x dx nx nd ne;refine⟨x,dx,p1,_,.non,.non,pb,rfl,bv,λbl H4 b4 hx Xp=>⟨rfl,?_⟩⟩;have sm:bn (upd H3 pb (.lst [])) H4:=λc u e=>b4 c u (by rw[ap (ca e nx),ap (ca e nd)];exact e) (ca e nx);have YY:bn H3 H4:=(bn.upd aaO).trans sm;have nx3:H3 x=none:=(bn.upd aaO).free nx;refine q _ _ YY.but ⟨x,rfl,⟨dx,p1,_,.non,.non,pb,bl,dQ hx (D3.no nx3),dG a _ _ _ _ (d4 YY.but) t1,?_⟩,R3.same YY⟩;exact⟨ss.symm,rfl,rfl,[],dQ (sm _ _ bv) (D3.no aaO),.nil⟩
   .
    obtain⟨c,ar,mk,tc,ad6,Xf,q⟩:∃(c:Nat)(ar:Str)(mk:PName->PName->List Vasesd.RawBranch->Vasesd.RawNode),gM ar (.sign c)/\(if strOf b=("send":Str) then("->":Str) else "<-")=ar/\(∀G f g pb x y bs,(∃p,f=.ref p/\dH a G p x)->(∃p,g=.ref p/\dH a G p y)->IsList (jZ a) G pb bs->zo a G (strOf b) f g pb (mk x y bs))/\
      lS a (·=r) H3 Q E (match (match fH c l3 with
       | .error f=>Except.error f
       | .ok (t,l1)=>Except.ok (mk t.1 t.2.1 t.2.2,l1)) with
       | .error f=>Except.error f
       | .ok (b,l3)=>Except.ok ((n1,b),l3)) (o7 a (kq a) W r):=by
     rw[aa (by simp[next];exact hs)] at q;by_cases hd:b=word "send"
     .subst hd;rw[ae (by simp[next])] at q;exact⟨1,"->",.send,zm.1,ae sd.symm,λG f g pb x y bs h1 h2 h3=>⟨sd.symm,h1,h2,h3⟩,q⟩
     .have Zw:b=word "recv":=(hb.resolve_left hs).resolve_left hd;subst Zw;rw[aa (by simp[next];decide),ae (by simp[next])] at q;exact⟨2,"<-",.recv,zm.2,aa (by rfl'),λG f g pb x y bs h1 h2 h3=>⟨sr.symm,h1,h2,h3⟩,q⟩
    refine cX (λz=>absurd (hG ((V.str.inj (ai z)).trans ss)) hs) (λ_=>?_);unfold fH at q;left;refine⟨W,r,l3,rfl,R3,?_⟩;cases e4:takeName l3 with
    | error fa=>rw[e4] at q;exact q
    | ok x4=>
     obtain⟨n4,l4⟩:=x4;rw[e4] at q;rintro v H4 b4 ⟨p4,rfl,t4,R4⟩;obtain⟨dx,tl,k2,Xd⟩:=R4.obj;dsimp only at q;left;refine⟨_,rfl,?_⟩;rw[ad6];left;refine⟨W,r,l4,_,_,rfl,R4,tc,(by intro z;cases z),?_⟩;unfold takeSign at q;cases e5:VasesBase.take (.sign c) l4 with
     | error fa=>rw[e5] at q;exact Fl.but q b4
     | ok l5=>
      rw[e5] at q;intro v H5 b5 R5;obtain⟨dx,tl,k2,Xd⟩:=R5.obj;dsimp only at q;left;refine⟨W,r,l5,rfl,R5,?_⟩;cases e6:takeName l5 with
      | error fa=>rw[e6] at q;exact Fl.but q (b4.trans b5)
      | ok x6=>
       obtain⟨n6,l6⟩:=x6;rw[e6] at q;rintro v H6 b6 ⟨p6,rfl,t6,R6⟩;have D6:=((D3.rd b4 R4).rd b5 R5).rd b6 R6;dsimp only at q;left;refine⟨W,r,l6,rfl,D6,R6,?_⟩;cases e7:iS l6 with
       | error fa=>rw[e7] at q;exact Fl.but q (b4.trans (b5.trans b6))
       | ok x7=>
        obtain⟨bs,l7⟩:=x7;rw[e7] at q;rintro v H7 b7 ⟨p7,rfl,t7,R7⟩;have D7:=D6.rd b7 R7;left;intro x dx nx nd ne;refine⟨x,dx,p1,_,.ref p4,.ref p6,p7,rfl,bv,λbl H8 b8 hx Xp=>⟨rfl,?_⟩⟩;have sm:bn H7 H8:=λc u e=>b8 c u (by rw[ap (ca e nx),ap (ca e nd)];exact e) (ca e nx);have k8:bn (dv W H7) (dv W H8):=d4 sm.but;refine q _ _ ((b4.trans (b5.trans (b6.trans b7))).trans sm.but) ⟨x,rfl,⟨dx,p1,_,.ref p4,.ref p6,p7,bl,dQ hx (D7.no nx),dG a _ _ _ _ ((kp (b4.trans (b5.trans (b6.trans b7)))).trans k8) t1,?_⟩,R7.same sm⟩;exact Xf _ _ _ _ _ _ _ ⟨p4,rfl,dG a _ _ _ _ ((kp (b5.trans (b6.trans b7))).trans k8) t4⟩ ⟨p6,rfl,dG a _ _ _ _ ((kp b7).trans k8) t6⟩ (t7.same (mR a) k8)
section
noncomputable def tw(p:UInt8->Bool)(l:Bytes):Nat:=(l.takeWhile p).length
section
variable{p:UInt8->Bool}{b:Bytes}{j:Nat}{c:UInt8}
theorem eZ(h:b[j]?=some c):b.drop j=c::b.drop (j+1):=by
 obtain⟨hj,e⟩:=ax.mp h;rw[cQ hj,e]
theorem mS(h:b[j]?=some c)(hp:p c=true):tw p (b.drop j)=tw p (b.drop (j+1))+1:=by
 unfold tw;rw[eZ h,bH,ae hp,az]
theorem Cz(h:b[j]?=some c)(hp:p c=false):tw p (b.drop j)=0:=by
 unfold tw;rw[eZ h,bH,aa (by rw[hp];exact aq)];rfl
theorem GN(h:b.length<=j):tw p (b.drop j)=0:=by
 unfold tw;rw[bD h];rfl
theorem kt(h:j<b.length):∃c,b[j]?=some c:=⟨b[j],by simp[h]⟩
theorem Lj:tw p b<=b.length:=cH (cI p)
theorem Kf:b.takeWhile p=b.take (tw p b):=by
 unfold tw
 induction b with
 | nil=>rfl
 | cons x r ih=>
  rw[bH];split
  .rw[az,List.take_succ_cons,←ih]
  .rfl
theorem QG:b.dropWhile p=b.drop (tw p b):=by
 unfold tw
 induction b with
 | nil=>rfl
 | cons x r ih=>
  rw[bH,List.dropWhile_cons];split
  .rw[az,List.drop_succ_cons,←ih]
  .rfl
end
theorem dD:(dc b).length=b.length:=af ..
theorem gt{H:Hp}{Q:VK}{tx:cS}{b:Bytes}{k:Nat}{c:UInt8}{i:Int}(e:H tx=some (.lst (dc b)))(h:b[k]?=some c)(hi:i=(k:Nat))(q:Q (.int (c.toNat:Int)) H):KM K (.ref tx) (.int i) H Q:=
 eg e hi (by unfold dc;rw[ak,h];rfl) q
theorem mw(c:UInt8):lI (c.toNat:Int)=isDigit c:=by
 unfold lI isDigit;rw[bt];simp
 lia
theorem zq(c:UInt8):i5 (c.toNat:Int)=isLetter c:=by
 unfold i5 isLetter;rw[bt];simp
 lia
theorem fg{c:UInt8}{n:Nat}(h:n<256):((c.toNat:Int)=(n:Int))↔c=UInt8.ofNat n:=by
 constructor
 .intro e;have:c.toNat=n:=by lia
  rw[←this];simp
 .rintro rfl;simp
  lia
def UR:Sp:=λvs H Q _=>∃tx b k,vs=[.ref tx,.int (k:Nat)]/\H tx=some (.lst (dc b))/\k<=b.length/\Q (.int ((k+tw (· != 10) (b.drop k):Nat):Int)) H
theorem IH:fc P w base T.Al 1 UR:=by
 specialize T.Al.fn.okN ["text","place"];obtain⟨tx,b,k,rfl,ht,hk,q⟩:=h;refine'⟨_,(ad (gI PassesOwn.never (PW.pt (l8 (jW (pv 1) (fS T.d5 (pv 0))) (lM (jw (eF (pv 0) (pv 1)) (dA T.rK))))) (am (mf 1 nd (cr) ij))) (am (bi (pv 1)))),?_⟩;refine Cq (λm U H'=>H'=H/\∃j:Nat,U=[some (.ref tx),some (.int j)]/\j<=b.length/\m=b.length-j/\j+tw (· != 10) (b.drop j)=k+tw (· != 10) (b.drop k)) (b.length-k) ⟨rfl,k,rfl,hk,rfl,rfl⟩ ?_;rintro m U H' ⟨rfl,j,rfl,hj,rfl,hm⟩;left;rw[dD];refine cX (λh1=>?_) (λh1=>?_)
 .have h1:j<b.length:=by simpa using h1
  obtain⟨c,hc⟩:=kt h1;left;refine' gt ht hc rfl ?_;by_cases z:c=10
  .subst z;refine' cX (λh2=>absurd h2 (by decide)) (λ_=>?_);rw[Cz hc (by decide)] at hm;rw[←hm] at q;exact q
  .refine cX (λ_=>⟨_,λ_ _ z=>z,?_⟩) (λh2=>absurd ?_ h2)
   .left;refine⟨b.length-(j+1),by lia,rfl,j+1,rfl,h1,rfl,?_⟩;rw[mS hc (by simpa using z)] at hm
    lia
   .simp;intro e;exact z ((fg (n:=10) (by decide)).mp e)
 .have h1:b.length<=j:=by simpa using h1
  refine' eQ ?_;rw[GN h1] at hm;rw[←hm] at q;exact q
def rn(b:Bytes)(k j:Nat):Prop:=∀n,b.length-k<n->∃n',b.length-j<n'/\VasesBase.lex n k (b.drop k)=VasesBase.lex n' j (b.drop j)
theorem rn.trans(h:rn b i j)(h':rn b j k):rn b i k:=λn hn=>by
 obtain⟨n1,h1,e1⟩:=h n hn;obtain⟨n2,h2,e2⟩:=h' n1 h1;exact⟨n2,h2,e1.trans e2⟩
theorem Nm(h:b[j]?=some c)(hb:isBlank c=true):rn b j (j+1):=λn hn=>by
 obtain⟨hj,_⟩:=ax.mp h;obtain⟨n,rfl⟩:∃m,n=m+1:=⟨n-1,by lia⟩;refine⟨n,by lia,?_⟩;rw[eZ h];show(if isBlank c=true then _ else _)=_;rw[ae hb]
theorem OA(h:b[j]?=some 35):rn b j (j+tw (· != 10) (b.drop j)):=λn hn=>by
 obtain⟨hj,_⟩:=ax.mp h;obtain⟨n,rfl⟩:∃m,n=m+1:=⟨n-1,by lia⟩;have e1:=mS (p:=(· != 10)) h (by decide);refine⟨n,by lia,?_⟩;rw[e1,eZ h];show(if isBlank 35=true then _ else if(35:UInt8)==35 then VasesBase.lex n (j+1+tw (· != 10) (b.drop (j+1))) ((b.drop (j+1)).dropWhile (· != 10)) else _)=_;rw[aa (by decide),ae (by decide),QG,bQ]
 congr 1
 .lia
 .congr 1
  lia
def US:Sp:=λvs H Q _=>∃tx b k,vs=[.ref tx,.int (k:Nat)]/\H tx=some (.lst (dc b))/\k<=b.length/\∀j:Nat,k<=j->j<=b.length->rn b k j->(∀c,b[j]?=some c->isBlank c=false/\c≠35)->Q (.int j) H
theorem Lk(c:UInt8):MB (.int (c.toNat:Int)) [.int 32,.int 9,.int 10]=isBlank c:=by
 show((32:Int)==(c.toNat:Int)||((9:Int)==(c.toNat:Int)||((10:Int)==(c.toNat:Int)||false)))=isBlank c;unfold isBlank;rw[Bool.or_false];rw[bt];simp only[Bool.or_eq_true,ba];have h1:=fg (c:=c) (n:=32) (by decide);have h2:=fg (c:=c) (n:=9) (by decide);have h3:=fg (c:=c) (n:=10) (by decide);constructor
 .rintro (h|h|h)
  .exact .inl (.inl (h1.mp (by simpa using h.symm)))
  .exact .inl (.inr (h2.mp (by simpa using h.symm)))
  .exact .inr (h3.mp (by simpa using h.symm))
 .rintro ((h|h)|h)
  .exact .inl (by simpa using (h1.mpr h).symm)
  .exact .inr (.inl (by simpa using (h2.mpr h).symm))
  .exact .inr (.inr (by simpa using (h3.mpr h).symm))
theorem ua:fc P w base T.nB 2 US:=by
 specialize T.nB.fn.okN ["text","place"];obtain⟨tx,b,k,rfl,ht,hk,q⟩:=h;refine'⟨_,(ad (gI PassesOwn.never (PW.pt (l8 (jW (pv 1) (fS T.d5 (pv 0))) (lM (PW.pt (lc (jl MC (eF (pv 0) (pv 1)) (PL T.NT) rfl) (jM (fM (eF (pv 0) (pv 1)) (dA T.Ti)))))))) (am (de (fM (eF (pv 0) (pv 1)) (dA T.Ti)) (am (dz 1 nd (df T.Al (IH T) hr ci (dg (pv 0) (pv 1))))) (am (mf 1 nd (cr) ij))))) (am (bi (pv 1)))),?_⟩;refine Cq (λm U H'=>H'=H/\∃j:Nat,U=[some (.ref tx),some (.int j)]/\k<=j/\j<=b.length/\m=b.length-j/\rn b k j) (b.length-k) ⟨rfl,k,rfl,ah _,hk,rfl,λn hn=>⟨n,hn,rfl⟩⟩ ?_;rintro m U H' ⟨rfl,j,rfl,ZL,hj,rfl,hl⟩;left;rw[dD];refine cX (λh1=>?_) (λh1=>?_)
 .have h1:j<b.length:=by simpa using h1
  obtain⟨c,hc⟩:=kt h1;left;refine' gt ht hc rfl ?_;refine'⟨_,_,rfl,.inr (T.NT.sq _),rfl,rfl,?_⟩;simp only[bo,if_false];rw[Lk];cases hb:isBlank c with
  | true=>
   refine' eU ⟨_,λ_ _ z=>z,?_⟩;refine' gt ht hc rfl ?_;refine cX (λh2=>?_) (λ_=>?_)
   .exfalso;have:c=35:=(fg (n:=35) (by decide)).mp (by simpa using h2);subst this;cases hb
   .left;exact⟨b.length-(j+1),by lia,rfl,j+1,rfl,by lia,h1,rfl,hl.trans (Nm hc hb)⟩
  | false=>
   refine' eQ ?_;refine' gt ht hc rfl ?_;by_cases z:c=35
   .subst z;refine' cX (λ_=>⟨_,λ_ _ z=>z,?_⟩) (λz=>absurd (by decide) z);refine' gt ht hc rfl ?_;refine' cX (λ_=>?_) (λz=>absurd (by decide) z);refine'⟨tx,b,j,rfl,ht,hj,?_⟩;have e1:=mS (p:=(· != 10)) hc (by decide);have e2:=Lj (p:=(· != 10)) (b:=b.drop j);rw[aT] at e2;exact⟨b.length-(j+tw (· != 10) (b.drop j)),by lia,rfl,_,rfl,by lia,by lia,rfl,hl.trans (OA hc)⟩
   .have z':¬((c.toNat:Int)=35):=λe=>z ((fg (n:=35) (by decide)).mp e);refine' cX (λh2=>absurd (by simpa using h2) z') (λ_=>?_);exact q j ZL hj hl λc' XZ=>by rw[hc] at XZ;cases XZ;exact⟨hb,z⟩
 .have h1:b.length<=j:=by simpa using h1
  refine' eQ ?_;exact q j ZL hj hl λc' XZ=>by
   have:=(ax.mp XZ).1
   lia
end
def wW(a:dj)(G:Hp)(p:cS)(t:PTok)(be:Nat):Prop:=yj t.tok/\∃dx c,G p=some (Lc a t dx c (.int be))/\uM G t.tok c
theorem wW.tok(h:wW a G p t be):gp a G p t:=by
 obtain⟨wf,dx,c,e,x⟩:=h;exact⟨wf,dx,c,_,e,x⟩
def GO(a:dj)(W:cS->Prop)(H:Hp)(Q:VK)(E:XK)(k:Nat)(o:Option (uL×Nat)):Prop:=
 match o with
 | some (t,n)=>∀p H',bn H H'->wW a (dv W H') p ⟨k,t⟩ (k+n)->Q (.ref p) H'
 | none=>Fl a (λ_=>False) H E ⟨2,k⟩
theorem pY{W:cS->Prop}{H H1:Hp}{Q:VK}{E:XK}{k n:Nat}{t:uL}{c:V}{kd:Int}{be:Int}(D:fT W H)(sm:bn H H1)(wf:yj t)(hk:kd=gL t)(hb:be=((k+n:Nat):Int))(hc:uM (dv W H1) t c)(q:∀p H',bn H H'->wW a (dv W H') p ⟨k,t⟩ (k+n)->Q (.ref p) H'):∀x dx,H1 x=none->H1 dx=none->dx≠x->lp a.iO ["kind","content","place","behind"] (.ref x::([.int kd,c,.int (k:Nat),.int be]++[])) (upd (upd H1 dx (.own x)) x (.ins a.iO dx [])) (λv H2=>v=.non/\Q (.ref x) H2) E:=by
 refine gk rfl λx dx H2 nx s2 hx=>?_;refine q x H2 (sm.trans s2) ⟨wf,dx,c,?_,hc.same (d4 s2.but)⟩;subst hk hb;exact dQ hx ((D.same sm).no nx)
theorem OB:∀j:Nat,j<26->("abcdefghijklmnopqrstuvwxyz":Str).cps.toList[j]?=some (97+j):=by rfl'
theorem OC:∀j:Nat,j<26->("ABCDEFGHIJKLMNOPQRSTUVWXYZ":Str).cps.toList[j]?=some (65+j):=by rfl'
theorem OD:∀j:Nat,j<10->("0123456789":Str).cps.toList[j]?=some (48+j):=by rfl'
noncomputable def eN(c:UInt8):Bool:=isLetter c||isDigit c
noncomputable def Nn(c:UInt8):Str:=⟨#[c.toNat]⟩
def UT:Sp:=λvs H Q _=>∃c:UInt8,vs=[.int (c.toNat:Int)]/\eN c=true/\Q (.str (Nn c)) H
theorem Be:fc P w base T.qC 1 UT:=by
 specialize T.qC.fn.okN ["byte"];obtain⟨c,rfl,hw,q⟩:=h;refine⟨_,(ad (de (yP (pv 0) (cr)) (am (bi (qO wt (iz T.Fi) (dF i0 (pv 0) (cr)) (λ_ _=>rfl)))) cZ) (ad (de (yP (pv 0) (cr)) (am (bi (qO wt (iz T.Fu) (dF i0 (pv 0) (cr)) (λ_ _=>rfl)))) cZ) (am (bi (qO wt (iz T.S6) (dF i0 (pv 0) (dA T.LX)) (λ_ _=>rfl)))))),?_⟩;have hw:((65<=c.toNat/\c.toNat<=90)∨(97<=c.toNat/\c.toNat<=122))∨(48<=c.toNat/\c.toNat<=57):=by
  unfold eN isLetter isDigit at hw;simpa using hw
 left;refine cX (λh1=>?_) (λh1=>?_)
 .have h1:(97:Int)<=c.toNat:=by simpa using h1
  left;refine AW (j:=c.toNat-97) (c:=c.toNat) (by rfl') (by lia) ?_ q;have:=OB (c.toNat-97) (by lia);rw[this]
  congr 1
  lia
 .have h1:¬(97:Int)<=c.toNat:=by simpa using h1
  left;refine cX (λh2=>?_) (λh2=>?_)
  .have h2:(65:Int)<=c.toNat:=by simpa using h2
   left;refine AW (j:=c.toNat-65) (c:=c.toNat) (by rfl') (by lia) ?_ q;have:=OC (c.toNat-65) (by lia);rw[this]
   congr 1
   lia
  .have h2:¬(65:Int)<=c.toNat:=by simpa using h2
   left;refine AW (j:=c.toNat-48) (c:=c.toNat) (by rfl') (by lia) ?_ q;have:=OD (c.toNat-48) (by lia);rw[this]
   congr 1
   lia
theorem OE(w:Bytes):Txt.join "" (w.map Nn)=strOf w:=by
 refine(qT (Ou _)).trans ?_;unfold strOf
 congr 2
 induction w with
 | nil=>rfl
 | cons x r ih=>
  rw[ay,bP,ay,ih];rfl
theorem Ll(h:isLetter c=true):VasesBase.token (c::r)=if 16<tw eN (c::r) then none else some (.name ((c::r).takeWhile eN),tw eN (c::r)):=by
 show(if isLetter c=true then _ else _)=_;rw[ae h];rfl
theorem lq:∀{l:Bytes} {x:UInt8},x∈l.takeWhile p->p x=true
 | y::r,x,h=>by
  rw[bH] at h;split at h
  .rcases aw.mp h with e|e
   .rw[e];assumption
   .exact lq e
  .cases h
def UU(a:dj):Sp:=λvs H Q E=>∃W tx b k c,vs=[.ref tx,.int (k:Nat)]/\H tx=some (.lst (dc b))/\fT W H/\b[k]?=some c/\isLetter c=true/\GO a W H Q E k (VasesBase.token (b.drop k))
theorem Lm:ir P w base a.du T.Dd 3 (UU a):=by
 refine T.Dd.fn.okX ["text","place","behind","word","byte"] λW8 A outer s H vs Q E hr h nd hu W9 th=>?_;intro X;obtain⟨W,tx,b,k,c,rfl,ht,D,hc,hl,q⟩:=h;have po:PassesOwn (model P w) (j7 (kH P w a.du) P w K mg base ["text","place","behind","word","byte"] "word_at" (dr nQ) a.rE W8 A outer s H E).A (j7 (kH P w a.du) P w K mg base ["text","place","behind","word","byte"] "word_at" (dr nQ) a.rE W8 A outer s H E).env (j7 (kH P w a.du) P w K mg base ["text","place","behind","word","byte"] "word_at" (dr nQ) a.rE W8 A outer s H E).xe:=PassesOwn.leaving;refine⟨_,(ad (dz 2 nd (pv 1)) (ad (gI PassesOwn.leaving (PW.pt (l8 (jW (pv 2) (fS T.d5 (pv 0))) (lM (PW.pt (lc (gm (df T.xI (wT T) hr ci (dq (eF (pv 0) (pv 2))))) (jM (gm (df T.mY (kT T) hr ci (dq (eF (pv 0) (pv 2))))))))))) (am (mf 2 nd (cr) ij))) (ad (de (wB (dF i0 (pv 2) (pv 1)) (dA T.HZ)) (am (gw T.dL (eE T) T.gy (hr.mono (by decide)) rfl T.fL th rfl (dg (dA T.qD) (pv 1)))) cZ) (ad (dz 3 nd (J2 (dO) (wC [("byte",4)] nd (eW (uv ya (pv 0) (lO (pv 1)) (lO (pv 2)))) (λ_ _ _ _ _=>(gh 4 nd)) (λ_ _ _ _ _=>by exact(df T.qC (Be T) hr ci (dq (pv 4))))))) (am (bi (fQ T.u6 T.jc (iZ T) hr ci (db (dA T.Tg) (db (pv 3) (dg (pv 1) (pv 2))))))))))),?_⟩;have e0:=Ll (r:=b.drop (k+1)) hl;rw[←eZ hc] at e0;rw[e0] at q;have hk:=(ax.mp hc).1;have n1:=Lj (p:=eN) (b:=b.drop k);rw[aT] at n1;generalize hn:tw eN (b.drop k)=n at q n1;left;refine iQ (λm U H'=>H'=H/\∃j:Nat,U=[some (.ref tx),some (.int (k:Nat)),some (.int (j:Nat)),none,none]/\j<=b.length/\m=b.length-j/\j+tw eN (b.drop j)=k+n)
  (λU H'=>H'=H/\U=[some (.ref tx),some (.int (k:Nat)),some (.int ((k+n:Nat):Int)),none,none]) (b.length-k) ⟨rfl,k,rfl,by lia,rfl,by rw[hn]⟩ ?_ (λtail=>?_)
 .rintro U H' ⟨rfl,rfl⟩;left;refine cX (λh1=>?_) (λh1=>?_)
  .have h1:16<n:=by simp at h1;lia
   rw[ae h1] at q;left;exact fU q rfl rfl
  .have h1:¬16<n:=by simp at h1;lia
   rw[aa h1] at q;left;refine PY ht (by rw[dD];lia) λsl ab2=>?_;have e1:((dc b).drop k).take (k+n-k)=dc ((b.drop k).take n):=by
    unfold dc;rw[←List.map_drop,←List.map_take,cR]
   have e2:(b.drop k).take n=(b.drop k).takeWhile eN:=by rw[Kf,hn]
   rw[e1,e2];generalize hw:(b.drop k).takeWhile eN=wd at q;have YB:wd.length=n:=by rw[←hw];exact hn
   have s1:bn H' (upd H' sl (.lst (dc wd))):=bn.upd ab2;have YR:upd H' sl (.lst (dc wd)) sl=some (.lst (dc wd)):=bv;generalize upd H' sl (.lst (dc wd))=H1 at s1 YR;left;intro D2 YZ;refine yO (wd.map λc=>V.str (Nn c)) (by simp[dc]) YR YZ (by rw[dD];refine aA (m:=16) (by lia) (by decide)) (λi x y H2 R hx hy s2 k2=>?_) gK ?_
   .obtain⟨c',XZ,rfl⟩:∃c',wd[i]?=some c'/\x=.int (c'.toNat:Int):=by
     unfold dc at hx;rw[ak] at hx;cases z:wd[i]? with
     | none=>rw[z] at hx;cases hx
     | some c'=>rw[z] at hx;cases hx;exact⟨c',rfl,rfl⟩
    rw[ak,XZ] at hy;cases hy;left;refine'⟨rfl,?_⟩;refine⟨c',rfl,?_,k2 _ (bn.refl _)⟩;have:=aJ XZ;rw[←hw] at this;exact lq this
   .intro H2 s2 hD;left;refine⟨_,D2,wd.map Nn,rfl,rfl,.inl (dU.of (by rw[hD,aO];rfl)),?_,?_⟩
    .have e3:("":Str).length=0:=(by rfl');rw[e3,Nat.mul_zero,Nat.add_zero,aO];have:((wd.map ((λx:Str=>x.length) ∘ Nn))).sum=wd.length:=by
      clear hw YB YR hD e1 e2 q
      induction wd with
      | nil=>rfl
      | cons x r ih=>rw[ay,bF,ih];show 1+r.length=r.length+1;lia
     rw[this,YB]
     lia
    .rw[OE];left;refine pY (t:=.name wd) D (s1.trans s2) ?_ rfl rfl rfl q;refine⟨?_,by lia,λx hx=>?_⟩
     .rintro rfl;have:=mS (p:=eN) hc (by unfold eN;rw[hl];rfl);simp at YB
      lia
     .rw[←hw] at hx;have:=lq hx;unfold eN at this;simpa using this
 .rintro m U H' ⟨rfl,j,rfl,hj,rfl,hm⟩;left;rw[dD];refine cX (λh1=>?_) (λh1=>?_)
  .have h1:j<b.length:=by simpa using h1
   obtain⟨c',XZ⟩:=kt h1;left;refine' gt ht XZ rfl ?_;refine⟨_,rfl,?_⟩;rw[zq];left;have go:eN c'=true->∃m',m'<b.length-j/\H'=H'/\∃j',[some (V.ref tx),some (.int (k:Nat)),some (.int ((j:Int)+1)),none,none]=[some (V.ref tx),some (.int (k:Nat)),some (.int (j':Nat)),none,none]/\j'<=b.length/\m'=b.length-j'/\j'+tw eN (b.drop j')=k+n:=λhw=>by
    rw[mS XZ hw] at hm;exact⟨b.length-(j+1),by lia,rfl,j+1,rfl,h1,rfl,by lia⟩
   cases e1:isLetter c' with
   | true=>
    refine' eU ⟨_,λ_ _ z=>z,?_⟩;exact go (by unfold eN;rw[e1];rfl)
   | false=>
    refine' eQ ?_;refine' gt ht XZ rfl ?_;refine⟨_,rfl,?_⟩;rw[mw];left;cases e2:isDigit c' with
    | true=>
     refine' eU ⟨_,λ_ _ z=>z,?_⟩;exact go (by unfold eN;rw[e1,e2];rfl)
    | false=>
     refine eQ (tail _ _ ⟨rfl,?_⟩);rw[Cz XZ (by unfold eN;rw[e1,e2];rfl)] at hm;rw[←hm];rfl
  .have h1:b.length<=j:=by simpa using h1
   refine eQ (tail _ _ ⟨rfl,?_⟩);rw[GN h1] at hm;rw[←hm];rfl
section
open VasesBase (decimal numberOf)
theorem GP(l:Bytes)(c:UInt8):decimal (l++[c])=10*decimal l+(c.toNat-48):=by
 unfold decimal;rw[List.foldl_append];rfl
theorem Kg:∀(l:Bytes)(n:Nat),(∀c∈l,isDigit c=true)->l.foldl (λn b=>10*n+(b.toNat-48)) n<(n+1)*10^l.length
 | [],n,_=>by simp
 | c::l,n,h=>by
  have h2:=h c (by simp);unfold isDigit at h2;simp at h2;have ih:=Kg l (10*n+(c.toNat-48)) λx hx=>h x (by simp[hx]);rw[List.foldl_cons,az,bp];refine aE ih ?_;rw[Nat.mul_comm (10^l.length) 10,←Nat.mul_assoc];exact Nat.mul_le_mul_right _ (by lia)
theorem Ln(l:Bytes)(h:∀c∈l,isDigit c=true):decimal l<10^l.length:=by
 have:=Kg l 0 h;rw[Nat.zero_add,Nat.one_mul] at this;exact this
theorem No:∀(l:Bytes)(n:Nat),n<=l.foldl (λn b=>10*n+(b.toNat-48)) n
 | [],n=>ah _
 | c::l,n=>by
  have ih:=No l (10*n+(c.toNat-48));rw[List.foldl_cons]
  lia
def UV:Sp:=λvs H Q _=>∃dl ds,vs=[.ref dl]/\H dl=some (.lst (dc ds))/\(∀c∈ds,isDigit c=true)/\ds.length<=10/\Q (.int (decimal ds:Nat)) H
theorem wX:fc P w base T.rJ 1 UV:=by
 specialize T.rJ.fn.okN ["digits","amount","digit"];obtain⟨dl,ds,rfl,hd,ab3,hl,q⟩:=h;refine'⟨_,(ad (dz 1 nd (cr)) (ad (fv PassesOwn.never rfl (eW (pv 0)) (gh 2 nd) (am (dz 1 nd (dF i0 (dF fw (dF kh (pv 1) (cr)) (pv 2)) (dA T.LX))))) (am (bi (pv 1))))),?_⟩;refine lE (xs:=dc ds) (λj U H'=>H'=H/\∃x,U=[some (.ref dl),some (.int (decimal (ds.take j):Nat)),x]) ⟨rfl,none,rfl⟩ (λi U H' _ h=>by rw[h.1];exact hd) ?_ ?_
 .rintro j x U H' hx ⟨rfl,y,rfl⟩;obtain⟨c,hc,rfl⟩:∃c,ds[j]?=some c/\x=.int (c.toNat:Int):=by
   unfold dc at hx;rw[ak] at hx;cases z:ds[j]? with
   | none=>rw[z] at hx;cases hx
   | some c'=>rw[z] at hx;cases hx;exact⟨c',rfl,rfl⟩
  left;have hb:decimal (ds.take j)<10^10:=aE (Ln _ λc hc=>ab3 c (bZ hc)) (bh (by decide) (aA (List.length_take_le' _ _) hl));refine' kO ⟨fz rfl (jf (aX hb (by decide))),fz (n:=10) rfl (jf (by decide))⟩ ?_;have ab4:=ab3 c (aJ hc);unfold isDigit at ab4;simp at ab4;refine⟨rfl,some (.int (c.toNat:Int)),?_⟩;have e3:ds.take (j+1)=ds.take j++[c]:=by rw[bX,hc];rfl
  rw[e3,GP];show _=[_,some (V.int _),_];have e4:((decimal (ds.take j):Nat):Int)*10+(c.toNat:Int)-48=((10*decimal (ds.take j)+(c.toNat-48):Nat):Int):=by lia
  rw[←e4];rfl
 .rintro U H' ⟨rfl,y,rfl⟩;left;rw[dD,aQ];exact q
theorem GQ(l:Bytes)(c:UInt8)(h:48<c.toNat):0<decimal (c::l):=by
 have:=No l (10*0+(c.toNat-48));show 0<l.foldl _ (10*0+(c.toNat-48))
 lia
def UW:Sp:=λvs H Q _=>∃dl ds neg,vs=[.ref dl,.bl neg]/\H dl=some (.lst (dc ds))/\(∀c∈ds,isDigit c=true)/\ds≠[]/\ds.length<=5000/\Q (.bl (numberOf neg ds).isSome) H
theorem GR:fc P w base T.xL 2 UW:=by
 specialize T.xL.fn.okN ["digits","negative"];obtain⟨dl,ds,neg,rfl,hd,ab3,hn,hl,q⟩:=h;refine⟨_,(ad (de (wB (fS T.d5 (pv 0)) (dA T.Ji)) (am (bi (xX))) cZ) (ad (de (fM (eF (pv 0) (cr)) (dA T.LX)) (am (bi (Mp (iY qM (fS T.d5 (pv 0)) (cr) (gJ _)) (pH (Rp (pv 1)))))) cZ) (am (bi (iY jV (df T.rJ (wX T) hr ci (dq (pv 0))) (dA T.BO) (gJ _)))))),?_⟩;obtain⟨c,r,rfl⟩:=List.exists_cons_of_ne_nil hn;left;rw[dD];refine cX (λh1=>?_) (λh1=>?_)
 .have h1:10<(c::r).length:=by simp at h1 ⊢;lia
  left;have e:numberOf neg (c::r)=none:=by unfold numberOf;rw[ae (.inr (.inl h1))]
  rw[e] at q;exact q
 .have h1:¬10<(c::r).length:=by simp at h1 ⊢;lia
  left;refine' gt (k:=0) (c:=c) hd rfl rfl ?_;refine cX (λh2=>?_) (λh2=>?_)
  .have h2:c=48:=(fg (n:=48) (by decide)).mp (by simpa using h2);subst h2;left;rw[dD];refine cX (λh3=>?_) (λh3=>?_)
   .have h3:r=[]:=(by simp at h3;exact bz.mp (by lia));subst h3;left;have e:(numberOf neg [48]).isSome=!neg:=by cases neg<;>decide
    rw[e] at q;exact q
   .have h3:1<((48:UInt8)::r).length:=by
     have:¬((((48:UInt8)::r).length:Int)=1):=(by simpa using h3);rw[az] at this ⊢
     lia
    have e:numberOf neg (48::r)=none:=(by unfold numberOf;rw[ae (.inr (.inr ⟨h3,rfl⟩))]);rw[e] at q;exact q
  .have h2:c≠48:=λe=>h2 (by rw[e];decide);have ab4:=ab3 c (by simp);unfold isDigit at ab4;simp at ab4;have hc:48<c.toNat:=by
    have:c.toNat≠48:=λe=>h2 ((fg (n:=48) (by decide)).mp (by lia))
    lia
   left;refine'⟨dl,c::r,rfl,hd,ab3,by lia,?_⟩;have e:decide ((decimal (c::r):Int)<=1000000000)=(numberOf neg (c::r)).isSome:=by
    unfold numberOf;rw[aa]
    .have:=GQ r c hc;by_cases z:decimal (c::r)<=1000000000
     .rw[aa]
      .rw[ao (by lia)];rfl
      .rintro (z2|⟨_,z2⟩)
       .have:1000000000<decimal (c::r):=z2
        lia
       .lia
     .rw[ae (.inl (show 1000000000<_ by lia)),a6 (by lia)];rfl
    .rintro (z|z|⟨_,z⟩)
     .cases z
     .exact h1 z
     .injection z with z;exact h2 z
   rw[e];exact q
def UX(a:dj):Sp:=λvs H Q E=>∃W tx b k f c,∃neg:Bool,vs=[.ref tx,.int (k:Nat),.int (f:Nat)]/\f=(if neg=true then k+1 else k)/\H tx=some (.lst (dc b))/\b.length<=4096/\fT W H/\b[f]?=some c/\isDigit c=true/\
 GO a W H Q E k ((numberOf neg ((b.drop f).takeWhile isDigit)).map λn=>(.num n,f-k+tw isDigit (b.drop f)))
theorem II(h:numberOf neg ds=some n):yj (.num n)/\n=(if neg=true then -(decimal ds:Int) else(decimal ds:Int))/\ds.length<=10:=by
 unfold numberOf at h;split at h
 .cases h
 .rename_i h1;split at h
  .cases h
  .rename_i h2;have h3:¬1000000000<decimal ds:=λz=>h2 (.inl z);have h4:¬10<ds.length:=λz=>h1 (.inr (.inl z));cases h;refine⟨?_,rfl,by lia⟩;show -1000000000<=_/\_<=1000000000;split<;>lia
theorem wY:ir P w base a.du T.rF 3 (UX a):=by
 refine T.rF.fn.okX ["text","place","first_digit","behind","digits","negative","amount"] λW8 A outer s H vs Q E hr h nd hu W9 th=>?_;intro X;obtain⟨W,tx,b,k,f,c,neg,rfl,hf,ht,Xp,D,hc,hl,q⟩:=h;refine⟨_,(ad (dz 3 nd (pv 2)) (ad (gI PassesOwn.leaving (PW.pt (l8 (jW (pv 3) (fS T.d5 (pv 0))) (lM (gm (df T.mY (kT T) hr ci (dq (eF (pv 0) (pv 3)))))))) (am (mf 3 nd (cr) ij))) (ad (dz 4 nd (uv ya (pv 0) (lO (pv 2)) (lO (pv 3)))) (ad (dz 5 nd (iY Pp (pv 2) (pv 1) (gJ _))) (ad (de (j6 (gm (df T.xL (GR T) hr ci (dg (pv 4) (pv 5))))) (am (gw T.dL (eE T) T.gy (hr.mono (by decide)) rfl T.fL th rfl (dg (dA T.qD) (pv 1)))) cZ) (ad (dz 6 nd (df T.rJ (wX T) hr ci (dq (pv 4)))) (am (bi (fQ T.u6 T.jc (iZ T) hr ci (db (dA T.BT) (db (ut (gm (pv 5)) (qL nI (pv 6)) (pv 6)) (dg (pv 1) (pv 3))))))))))))),?_⟩;have hk:=(ax.mp hc).1;have n1:=Lj (p:=isDigit) (b:=b.drop f);have n2:=mS (p:=isDigit) hc hl;rw[aT] at n1;generalize hn:tw isDigit (b.drop f)=n at q n1 n2;have hfk:k<=f:=by rw[hf];split<;>lia
 left;refine iQ (λm U H'=>H'=H/\∃j:Nat,U=[some (.ref tx),some (.int (k:Nat)),some (.int (f:Nat)),some (.int (j:Nat)),none,none,none]/\j<=b.length/\m=b.length-j/\j+tw isDigit (b.drop j)=f+n)
  (λU H'=>H'=H/\U=[some (.ref tx),some (.int (k:Nat)),some (.int (f:Nat)),some (.int ((f+n:Nat):Int)),none,none,none]) (b.length-f) ⟨rfl,f,rfl,by lia,rfl,by rw[hn]⟩ ?_ (λtail=>?_)
 .rintro U H' ⟨rfl,rfl⟩;left;refine PY ht (by rw[dD];lia) λsl ab2=>?_;have e1:((dc b).drop f).take (f+n-f)=dc ((b.drop f).take n):=by
   unfold dc;rw[←List.map_drop,←List.map_take,cR]
  have e2:(b.drop f).take n=(b.drop f).takeWhile isDigit:=by rw[Kf,hn]
  rw[e1,e2];have XD:∀x∈(b.drop f).takeWhile isDigit,isDigit x=true:=λx hx=>lq hx;have YB:((b.drop f).takeWhile isDigit).length=n:=hn;generalize (b.drop f).takeWhile isDigit=ds at q XD YB;have s1:bn H' (upd H' sl (.lst (dc ds))):=bn.upd ab2;have YR:upd H' sl (.lst (dc ds)) sl=some (.lst (dc ds)):=bv;generalize upd H' sl (.lst (dc ds))=H1 at s1 YR;have agL:decide ((k:Int)<(f:Int))=neg:=by
   rw[hf];cases neg<;>simp<;>lia
  left;rw[agL];refine'⟨sl,ds,neg,rfl,YR,XD,(by rintro rfl;simp at YB;lia),by lia,?_⟩;cases e3:numberOf neg ds with
  | none=>
   rw[e3] at q;refine' eU ?_;exact fU (Fl.but q s1.but) rfl rfl
  | some v=>
   rw[e3] at q;obtain⟨wf,hv,hlen⟩:=II e3;refine' eQ ?_;refine'⟨sl,ds,rfl,YR,XD,hlen,?_⟩;cases neg with
   | true=>
    refine' eU ?_;refine pY (t:=.num v) (n:=f-k+n) D s1 wf rfl (by lia) ?_ q;rw[hv];rfl
   | false=>
    refine' eQ ?_;refine pY (t:=.num v) (n:=f-k+n) D s1 wf rfl (by lia) ?_ q;rw[hv];rfl
 .rintro m U H' ⟨rfl,j,rfl,hj,rfl,hm⟩;left;rw[dD];refine cX (λh1=>?_) (λh1=>?_)
  .have h1:j<b.length:=by simpa using h1
   obtain⟨c',XZ⟩:=kt h1;left;refine' gt ht XZ rfl ?_;refine⟨_,rfl,?_⟩;rw[mw];left;cases e1:isDigit c' with
   | true=>
    refine' eU ⟨_,λ_ _ z=>z,?_⟩;rw[mS XZ e1] at hm;exact⟨b.length-(j+1),by lia,rfl,j+1,rfl,h1,rfl,by lia⟩
   | false=>
    refine eQ (tail _ _ ⟨rfl,?_⟩);rw[Cz XZ e1] at hm;rw[←hm];rfl
  .have h1:b.length<=j:=by simpa using h1
   refine eQ (tail _ _ ⟨rfl,?_⟩);rw[GN h1] at hm;rw[←hm];rfl
end
section
open VasesBase (hexOf escape quoted)
noncomputable def GS(o:Option Nat):Int:=match o with
 | some n=>(n:Int)
 | none=>-1
def UY:Sp:=λvs H Q _=>∃c:UInt8,vs=[.int (c.toNat:Int)]/\Q (.int (GS (hexOf c))) H
theorem wZ:fc P w base T.rH 2 UY:=by
 specialize T.rH.fn.okN ["byte"];obtain⟨c,rfl,q⟩:=h;refine⟨_,(ad (de (gm (df T.mY (kT T) hr ci (dq (pv 0)))) (am (bi (dF i0 (pv 0) (dA T.LX)))) cZ) (ad (de (N9 jV jV (cr) (pv 0) (cr)) (am (bi (dF i0 (pv 0) (cr)))) cZ) (am (bi (qL nI (cr)))))),?_⟩;unfold hexOf at q;left;refine⟨_,rfl,?_⟩;rw[mw];left;refine cX (λh1=>?_) (λh1=>?_)
 .rw[ae h1] at q;unfold isDigit at h1;simp at h1;left;have e:(c.toNat:Int)-48=GS (some (c.toNat-48)):=by show _=(((c.toNat-48:Nat)):Int);lia
  rw[e];exact q
 .rw[aa h1] at q;left;refine cX (λh2=>?_) (λh2=>?_)
  .have h2:(97:Int)<=c.toNat:=by simpa using h2
   left;refine cX (λh3=>?_) (λh3=>?_)
   .have h3:(c.toNat:Int)<=102:=(by simpa using h3);rw[ae ⟨by lia,by lia⟩] at q;left;have e:(c.toNat:Int)-87=GS (some (c.toNat-87)):=(by show _=(((c.toNat-87:Nat)):Int);lia);rw[e];exact q
   .have h3:¬(c.toNat:Int)<=102:=(by simpa using h3);rw[aa (by lia)] at q;left;exact q
  .have h2:¬(97:Int)<=c.toNat:=by simpa using h2
   rw[aa (by lia)] at q;left;refine' eQ ?_;exact q
theorem GT(h:hexOf c=some n):n<16:=by
 unfold hexOf at h;split at h
 .rename_i h1;unfold isDigit at h1;simp at h1;cases h
  lia
 .split at h
  .cases h
   lia
  .cases h
noncomputable def OF(c d:UInt8):Option UInt8:=match hexOf c,hexOf d with
 | some x,some y=>some (UInt8.ofNat (16*x+y))
 | _,_=>none
noncomputable def FV(o:Option UInt8):Int:=match o with
 | some n=>(n.toNat:Int)
 | none=>-1
def UZ:Sp:=λvs H Q _=>∃c d:UInt8,vs=[.int (c.toNat:Int),.int (d.toNat:Int)]/\Q (.int (FV (OF c d))) H
theorem IJ:fc P w base T.Aq 3 UZ:=by
 specialize T.Aq.fn.okN ["first","second","high","low"];obtain⟨c,d,rfl,q⟩:=h;refine⟨_,(ad (dz 2 nd (df T.rH (wZ T) hr ci (dq (pv 0)))) (ad (dz 3 nd (df T.rH (wZ T) hr ci (dq (pv 1)))) (ad (de (PW.pt (lc (jW (pv 2) (cr)) (jM (jW (pv 3) (cr))))) (am (bi (qL nI (cr)))) cZ) (am (bi (dF fw (dF kh (pv 2) (cr)) (pv 3))))))),?_⟩;unfold OF at q;left;refine'⟨c,rfl,?_⟩;refine'⟨d,rfl,?_⟩;cases e1:hexOf c with
 | none=>
  rw[e1] at q;refine cX (λ_=>?_) (λz=>absurd (by decide) z);refine' eU ?_;exact q
 | some x=>
  have hx:=GT e1;refine' cX (λz=>absurd (ai z) (by show ¬((x:Int)<0);lia)) (λ_=>?_);cases e2:hexOf d with
  | none=>
   rw[e1,e2] at q;refine' cX (λ_=>?_) (λz=>absurd (by decide) z);exact q
  | some y=>
   have hy:=GT e2;rw[e1,e2] at q;refine' cX (λz=>absurd (ai z) (by show ¬((y:Int)<0);lia)) (λ_=>?_);refine' kO ⟨fz (n:=x) rfl (jf (aX hx (by decide))),fz (n:=16) rfl (jf (by decide))⟩ ?_;have e:(GS (some x))*16+GS (some y)=FV (some (UInt8.ofNat (16*x+y))):=by
    show(x:Int)*16+(y:Int)=((UInt8.ofNat (16*x+y)).toNat:Int);have:(UInt8.ofNat (16*x+y)).toNat=16*x+y:=(by simp;lia);rw[this]
    lia
   rw[e];exact q
noncomputable def qb:Bytes->Option (UInt8×Nat)
 | []=>none
 | c::r=>if c==10 then none else if c==92 then(match escape r with
  | some (x,k)=>some (x,k+1)
  | none=>none) else some (c,1)
theorem yk:qb (c::r)=if c==10 then none else if c==92 then(match escape r with
  | some (x,k)=>some (x,k+1)
  | none=>none) else some (c,1):=rfl
theorem r9:quoted (n+1) (b::r)=if b==34 then some ([],1) else if b==10 then none else if b==92 then(match escape r with
  | some (c,k)=>(quoted n (r.drop k)).map λx=>(c::x.1,x.2+k+1)
  | none=>none) else(quoted n r).map λx=>(b::x.1,x.2+1):=rfl
theorem zr(h:c≠34):quoted (n+1) (c::r)=match qb (c::r) with
  | none=>none
  | some (x,w)=>(quoted n ((c::r).drop w)).map λy=>(x::y.1,y.2+w):=by
 rw[r9,yk];have e0:(c==34)=false:=by simpa using h
 simp only[e0,bo,if_false];cases e1:(c==10) with
 | true=>simp only[if_true]
 | false=>
  simp only[bo,if_false];cases e2:(c==92) with
  | true=>
   simp only[if_true];cases escape r with
   | none=>rfl
   | some x=>rfl
  | false=>
   simp only[bo,if_false];rfl
noncomputable def GU(r:Bytes):Option (UInt8×Nat):=match r with
 | c::d::_=>(match hexOf c,hexOf d with
  | some x,some y=>some (UInt8.ofNat (16*x+y),3)
  | _,_=>none)
 | _=>none
theorem sg:escape (d::r)=if(d==34||d==92)=true then some (d,1) else if d==110 then some (10,1) else if d==120 then GU r else none:=rfl
theorem GV{l:Bytes}{x:UInt8}{w:Nat}(h:qb l=some (x,w)):0<w/\w<=l.length:=by
 cases l with
 | nil=>cases h
 | cons c r=>
  rw[yk] at h;split at h
  .cases h
  .split at h
   .cases e:escape r with
    | none=>rw[e] at h;cases h
    | some y=>
     obtain⟨y,k⟩:=y;rw[e] at h;cases h;refine⟨by lia,?_⟩;cases r with
     | nil=>cases e
     | cons d r=>
      rw[sg] at e;split at e
      .cases e;simp
      .split at e
       .cases e;simp
       .split at e
        .unfold GU at e
         match r,e with
         | [],e=>cases e
         | [_],e=>cases e
         | d2::d3::r,e=>
          dsimp only at e;cases e1:hexOf d2 with
          | none=>rw[e1] at e;cases e
          | some m=>
           cases e2:hexOf d3 with
           | none=>rw[e1,e2] at e;cases e
           | some n=>rw[e1,e2] at e;cases e;simp
        .cases e
   .cases h;simp
theorem Kh{b:Bytes}{k:Nat}(h:k<b.length)(h1:¬k+1<b.length):b.drop (k+1)=[]:=bD (by lia)
def U0:Sp:=λvs H Q _=>∃tx b k c,vs=[.ref tx,.int (k:Nat)]/\H tx=some (.lst (dc b))/\b[k]?=some c/\Q (.int (FV ((qb (b.drop k)).map (·.1)))) H
theorem CA:fc P w base T.sM 4 U0:=by
 specialize T.sM.fn.okN ["text","place","letter"];obtain⟨tx,b,k,c,rfl,ht,hc,q⟩:=h;refine⟨_,(ad (de (fM (eF (pv 0) (pv 1)) (dA T.rK)) (am (bi (qL nI (cr)))) cZ) (ad (de (jw (eF (pv 0) (pv 1)) (dA T.on)) (am (bi (eF (pv 0) (pv 1)))) cZ) (ad (de (yP (dF fw (pv 1) (cr)) (fS T.d5 (pv 0))) (am (bi (qL nI (cr)))) cZ) (ad (dz 2 nd (eF (pv 0) (dF fw (pv 1) (cr)))) (ad (de (PW.pt (lc (fM (pv 2) (dA T.yy)) (jM (fM (pv 2) (dA T.on))))) (am (bi (pv 2))) cZ) (ad (de (fM (pv 2) (dA T.Rf)) (am (bi (dA T.rK))) cZ) (ad (de (PW.pt (l8 (fM (pv 2) (dA T.Kz)) (lM (jW (dF fw (pv 1) (cr)) (fS T.d5 (pv 0)))))) (am (bi (df T.Aq (IJ T) hr ci (dg (eF (pv 0) (dF fw (pv 1) (cr))) (eF (pv 0) (dF fw (pv 1) (cr))))))) cZ) (am (bi (qL nI (cr))))))))))),?_⟩;have hk:=(ax.mp hc).1;rw[eZ hc,yk] at q;left;refine' gt ht hc rfl ?_;by_cases h1:c=10
 .subst h1;refine' cX (λ_=>?_) (λz=>absurd (by decide) z);exact q
 .refine cX (λz=>absurd ((fg (n:=10) (by decide)).mp (by simpa using z)) h1) (λ_=>?_);rw[aa (by simpa using h1)] at q;left;refine' gt ht hc rfl ?_;by_cases h2:c=92
  .subst h2;refine cX (λz=>absurd z (by decide)) (λ_=>?_);rw[ae (by decide)] at q;left;rw[dD];by_cases h3:k+1<b.length
   .refine cX (λz=>absurd z (by simp;lia)) (λ_=>?_);obtain⟨d,hd⟩:=kt h3;rw[eZ hd,sg] at q;left;refine' gt ht hd (by lia) ?_;by_cases h4:d=34
    .subst h4;refine cX (λ_=>?_) (λz=>absurd (by decide) z);refine' eU ?_;exact q
    .refine' cX (λz=>absurd ((fg (n:=34) (by decide)).mp (by simpa using z)) h4) (λ_=>?_);by_cases h5:d=92
     .subst h5;refine' cX (λ_=>?_) (λz=>absurd (by decide) z);exact q
     .refine cX (λz=>absurd ((fg (n:=92) (by decide)).mp (by simpa using z)) h5) (λ_=>?_);rw[aa (by simp[h4,h5])] at q;left;by_cases h6:d=110
      .subst h6;refine' cX (λ_=>?_) (λz=>absurd (by decide) z);exact q
      .refine cX (λz=>absurd ((fg (n:=110) (by decide)).mp (by simpa using z)) h6) (λ_=>?_);rw[aa (by simpa using h6)] at q;left;by_cases h7:d=120
       .subst h7;refine cX (λ_=>?_) (λz=>absurd (by decide) z);rw[ae (by decide)] at q;left;rw[dD];by_cases h8:k+3<b.length
        .refine cX (λ_=>?_) (λz=>absurd (by simp;lia) z);obtain⟨x,hx⟩:=kt (b:=b) (j:=k+2) (by lia);obtain⟨y,hy⟩:=kt h8;rw[show k+1+1=k+2 from rfl,eZ hx,show k+2+1=k+3 from rfl,eZ hy] at q;unfold GU at q;left;refine' gt ht hx (by lia) ?_;refine' gt ht hy (by lia) ?_;refine⟨x,y,rfl,?_⟩;unfold OF;revert q;dsimp only;cases hexOf x with
         | none=>exact λq=>q
         | some m=>
          cases hexOf y with
          | none=>exact λq=>q
          | some n=>exact λq=>q
        .refine' cX (λz=>absurd z (by simp;lia)) (λ_=>?_);have e:GU (b.drop (k+1+1))=none:=by
          have hl:(b.drop (k+1+1)).length<=1:=(by rw[aT];lia)
          match b.drop (k+1+1),hl with
          | [],_=>rfl
          | [_],_=>rfl
         rw[e] at q;exact q
       .refine cX (λz=>absurd ((fg (n:=120) (by decide)).mp (by simpa using z)) h7) (λ_=>?_);refine eQ ?_;rw[aa (by simpa using h7)] at q;left;exact q
   .refine' cX (λ_=>?_) (λz=>absurd (by simp;lia) z);rw[Kh hk h3] at q;exact q
  .refine cX (λ_=>?_) (λz=>absurd ?_ z)
   .rw[aa (by simpa using h2)] at q;left;refine gt ht hc rfl ?_;exact q
   .simp;intro e;exact h2 ((fg (n:=92) (by decide)).mp e)
def U4:Sp:=λvs H Q _=>∃tx b k x w,vs=[.ref tx,.int (k:Nat)]/\H tx=some (.lst (dc b))/\qb (b.drop k)=some (x,w)/\Q (.int (w:Nat)) H
theorem Bf:fc P w base T.ql 1 U4:=by
 specialize T.ql.fn.okN ["text","place"];obtain⟨tx,b,k,x,w,rfl,ht,hq,q⟩:=h;refine⟨_,(ad (de (jw (eF (pv 0) (pv 1)) (dA T.on)) (am (bi (cr))) cZ) (ad (de (fM (eF (pv 0) (dF fw (pv 1) (cr))) (dA T.Kz)) (am (bi (cr))) cZ) (am (bi (cr))))),?_⟩;have hk:k<b.length:=by
  have:=GV hq;rw[aT] at this
  lia
 obtain⟨c,hc⟩:=kt hk;rw[eZ hc,yk] at hq;left;refine' gt ht hc rfl ?_;split at hq
 .cases hq
 .split at hq
  .rename_i h1 h2;have h2:c=92:=by simpa using h2
   subst h2;refine cX (λz=>absurd z (by decide)) (λ_=>?_);cases e:escape (b.drop (k+1)) with
   | none=>rw[e] at hq;cases hq
   | some y=>
    obtain⟨y,j⟩:=y;rw[e] at hq;cases hq;have h3:k+1<b.length:=by
     by_cases z:k+1<b.length
     .exact z
     .rw[Kh hk z] at e;cases e
    obtain⟨d,hd⟩:=kt h3;rw[eZ hd,sg] at e;left;refine' gt ht hd (by lia) ?_;by_cases h7:d=120
    .subst h7;refine cX (λ_=>?_) (λz=>absurd (by decide) z);rw[aa (by decide),aa (by decide),ae (by decide)] at e;left;have:j=3:=by
      unfold GU at e;split at e
      .split at e
       .cases e;rfl
       .cases e
      .cases e
     subst this;exact q
    .refine' cX (λz=>absurd ((fg (n:=120) (by decide)).mp (by simpa using z)) h7) (λ_=>?_);have:j=1:=by
      split at e
      .cases e;rfl
      .split at e
       .cases e;rfl
       .rw[aa (by simpa using h7)] at e;cases e
     subst this;exact q
  .rename_i h1 h2;have h2:c≠92:=by simpa using h2
   cases hq;refine cX (λ_=>?_) (λz=>absurd ?_ z)
   .left;exact q
   .simp;intro e;exact h2 ((fg (n:=92) (by decide)).mp e)
end
section
open VasesBase (quoted token)
theorem IK:token (34::r)=match quoted (r.length+1) r with
  | some (t,k)=>if 255<t.length then none else some (.text t,k+1)
  | none=>none:=rfl
def U5(a:dj):Sp:=λvs H Q E=>∃W tx b k,vs=[.ref tx,.int (k:Nat)]/\H tx=some (.lst (dc b))/\b.length<=4096/\fT W H/\b[k]?=some 34/\GO a W H Q E k (token (b.drop k))
theorem GW:ir P w base a.du T.xF 5 (U5 a):=by
 refine T.xF.fn.okX ["text","place","told","behind","byte"] λW8 A outer s H vs Q E hr h nd hu W9 th=>?_;intro X;obtain⟨W,tx,b,k,rfl,ht,Xp,D,hc,q⟩:=h;refine⟨_,(ad (dz 2 nd (dw eA)) (ad (dz 3 nd (dF fw (pv 1) (cr))) (ad (gI PassesOwn.leaving (PW.pt (l8 (jW (pv 3) (fS T.d5 (pv 0))) (lM (jw (eF (pv 0) (pv 3)) (dA T.yy))))) (ad (dz 4 nd (df T.sM (CA T) hr ci (dg (pv 0) (pv 3)))) (ad (de (jW (pv 4) (cr)) (am (gw T.dL (eE T) T.gy (hr.mono (by decide)) rfl T.fL th rfl (dg (dA T.qD) (pv 1)))) cZ) (ad (dB (ve (pv 2) (pv 4))) (am (mf 3 nd (df T.ql (Bf T) hr ci (dg (pv 0) (pv 3))) ij)))))) (ad (de (PW.pt (lc (yP (pv 3) (fS T.d5 (pv 0))) (jM (wB (fS T.d5 (pv 2)) (dA T.C8))))) (am (gw T.dL (eE T) T.gy (hr.mono (by decide)) rfl T.fL th rfl (dg (dA T.qD) (pv 1)))) cZ) (am (bi (fQ T.u6 T.jc (iZ T) hr ci (db (dA T.NU) (db (j8 rT (by rfl) T.DM boot_tuple (dq (pv 2))) (dg (pv 1) (dF fw (pv 3) (cr)))))))))))),?_⟩;have hk:=(ax.mp hc).1;rw[eZ hc,IK] at q;generalize Xn:quoted ((b.drop (k+1)).length+1) (b.drop (k+1))=sp at q;left;refine⟨by(show 0<=sizeLine;decide),λtl Xv=>?_⟩;have acX:tx≠tl:=ca ht Xv;have nW:¬W tl:=D.no Xv;left
 refine iQ (λm U H'=>bn H H'/\∃(j f:Nat)(ts:Bytes)(x:Option V),U=[some (.ref tx),some (.int (k:Nat)),some (.ref tl),some (.int (j:Nat)),x]/\H' tl=some (.lst (dc ts))/\k<j/\j<=b.length/\ts.length<=j/\m=b.length-j/\(b.drop j).length<f/\
   sp=(quoted f (b.drop j)).map λy=>(ts++y.1,y.2+(j-(k+1))))
  (λU H'=>bn H H'/\∃(j:Nat)(ts:Bytes)(x:Option V),U=[some (.ref tx),some (.int (k:Nat)),some (.ref tl),some (.int (j:Nat)),x]/\H' tl=some (.lst (dc ts))/\k<j/\((j=b.length/\sp=none)∨(j<b.length/\sp=some (ts,j-k)))) (b.length-(k+1)) ?_ ?_ (λtail=>?_)
 .refine⟨bn.upd Xv,k+1,_,[],none,rfl,bv,by lia,hk,by simp,rfl,bj _,?_⟩;rw[Xn];cases sp with
  | none=>rfl
  | some y=>simp
 .rintro U H' ⟨sm,j,ts,x,rfl,Yv,ZL,hj⟩;have aad:=sm _ _ ht;left;rw[dD];rcases hj with ⟨rfl,hs⟩|⟨Xg,hs⟩
  .refine cX (λ_=>?_) (λz=>absurd (by simp) z);refine' eU ?_;rw[hs] at q;exact fU (Fl.but q sm.but) rfl rfl
  .rw[hs] at q;dsimp only at q;refine' cX (λz=>absurd z (by simp;lia)) (λ_=>?_);rw[dD];by_cases hl:255<ts.length
   .rw[ae hl] at q;refine' cX (λ_=>?_) (λz=>absurd (by simp;lia) z);exact fU (Fl.but q sm.but) rfl rfl
   .rw[aa hl] at q;refine' cX (λz=>absurd z (by simp;lia)) (λ_=>?_);refine' Cr Yv λtp Yw=>?_;refine pY (t:=.text ts) (n:=j-k+1) D (sm.trans (bn.upd Yw)) (by show ts.length<=255;lia) rfl (by lia) ⟨tp,rfl,dQ bv ((D.same sm).no Yw)⟩ q
 .rintro m U H' ⟨sm,j,f,ts,x,rfl,Yv,ZL,hj,ZA,rfl,hf,hs⟩;have aad:=sm _ _ ht;left;rw[dD];by_cases h1:j<b.length
  .refine cX (λ_=>?_) (λz=>absurd (by simpa using h1) z);obtain⟨c,ab5⟩:=kt h1;obtain⟨f,rfl⟩:∃g,f=g+1:=⟨f-1,by lia⟩;left;refine' gt aad ab5 rfl ?_;by_cases h2:c=34
   .subst h2;refine cX (λz=>absurd z (by decide)) (λ_=>?_);refine tail _ _ ⟨sm,j,ts,x,rfl,Yv,ZL,.inr ⟨h1,?_⟩⟩;rw[hs,eZ ab5,r9,ae (by decide)];simp
    lia
   .refine cX (λ_=>⟨_,λ_ _ z=>z,?_⟩) (λz=>absurd ?_ z)
    .rw[eZ ab5,zr h2,←eZ ab5] at hs;left;refine'⟨tx,b,j,c,rfl,aad,ab5,?_⟩;cases e:qb (b.drop j) with
     | none=>
      rw[e] at hs;refine' cX (λ_=>?_) (λz=>absurd (by decide) z);have:sp=none:=hs;rw[this] at q;exact fU (Fl.but q sm.but) rfl rfl
     | some y=>
      obtain⟨y,wd⟩:=y;rw[e] at hs;obtain⟨w0,w1⟩:=GV e;rw[aT] at w1 hf;refine' cX (λz=>absurd (ai z) (by show ¬((y.toNat:Int)<0);lia)) (λ_=>?_);refine' ik Yv ?_;refine⟨tl,_,_,rfl,rfl,Yv,?_,?_⟩
      .rw[dD];exact aN (m:=5000) (by lia) (by decide)
      .have YK:upd H' tl (.lst (dc ts++[V.int (FV (some y))])) tx=some (.lst (dc b)):=(by rw[ap acX];exact aad);left;refine'⟨tx,b,j,y,wd,rfl,YK,e,?_⟩;refine⟨b.length-(j+wd),by lia,λc o h=>?_,j+wd,f,ts++[y],_,rfl,?_,by lia,by lia,by simp;lia,rfl,by rw[aT];lia,?_⟩
       .rw[ap (ca h Xv)];exact sm _ _ h
       .rw[bv];unfold dc;rw[aD];rfl
       .rw[hs];dsimp only;rw[bQ];cases quoted f (b.drop (j+wd)) with
        | none=>rfl
        | some z=>
         simp
         lia
    .simp;intro e;exact h2 ((fg (n:=34) (by decide)).mp e)
  .refine cX (λz=>absurd (by simpa using z) h1) (λ_=>?_);have:j=b.length:=by lia
   refine eQ (tail _ _ ⟨sm,j,ts,x,rfl,Yv,ZL,.inl ⟨this,?_⟩⟩);rw[hs,bD (by lia)];cases f with
   | zero=>rfl
   | succ f=>rfl
theorem GX(c:UInt8):ft ([(.inl 61,.str "="),(.inl 123,.str "{"),(.inl 125,.str "}"),(.inl 40,.str "("),(.inl 41,.str ")"),(.inl 91,.str "["),(.inl 93,.str "]"),(.inl 44,.str ","),(.inl 59,.str ";"),(.inl 58,.str ":"),(.inl 33,.str "!"),(.inl 63,.str "?"),(.inl 124,.str "|")]:List (fb×V)) (.inl (c.toNat:Int))=if VasesBase.SIGNS.contains c=true then some (.str (ff c.toNat)) else none:=by
 revert c;have:∀n:Fin 256,ft ([(.inl 61,.str "="),(.inl 123,.str "{"),(.inl 125,.str "}"),(.inl 40,.str "("),(.inl 41,.str ")"),(.inl 91,.str "["),(.inl 93,.str "]"),(.inl 44,.str ","),(.inl 59,.str ";"),(.inl 58,.str ":"),(.inl 33,.str "!"),(.inl 63,.str "?"),(.inl 124,.str "|")]:List (fb×V)) (.inl ((UInt8.ofNat n.val).toNat:Int)) =
  if VasesBase.SIGNS.contains (UInt8.ofNat n.val)=true then some (.str (ff (UInt8.ofNat n.val).toNat)) else none:=by rfl'
 intro c;have:=this ⟨c.toNat,c.toNat_lt⟩;simpa using this
end
section
open VasesBase (quoted token numberOf)
theorem OG(xs:List V)(i j:Nat)(hi:i<=xs.length):wq xs (some (i:Int)) (some (j:Int))=(xs.drop i).take (j-i):=by
 unfold wq;rw[HT.x5,HT.x5,Nat.min_eq_left hi];by_cases h:j<=xs.length
 .rw[Nat.min_eq_left h]
 .rw[Nat.min_eq_right (by lia),cD (by rw[aT];lia),cD (by rw[aT];lia)]
theorem TK{H:Hp}{Q:VK}{x:cS}{xs:List V}{i j:Nat}(e:H x=some (.lst xs))(hi:i<=xs.length)(q:∀p,H p=none->Q (.ref p) (upd H p (.lst ((xs.drop i).take (j-i))))):Og K (.ref x) (some (i:Int)) (some (j:Int)) H Q:=
 ⟨x,xs,rfl,dU.of e,λp hp=>by rw[OG xs i j hi];exact q p hp⟩
abbrev Lo:List (List fb×V):=[([.inl 45,.inl 62],.str "->"),([.inl 60,.inl 45],.str "<-")]
theorem Sr(c d:UInt8):ft Lo [.inl (c.toNat:Int),.inl (d.toNat:Int)]=if c=45/\d=62 then some (.str "->") else if c=60/\d=45 then some (.str "<-") else none:=by
 have e1:=fg (c:=c) (n:=45) (by decide);have e2:=fg (c:=d) (n:=62) (by decide);have e3:=fg (c:=c) (n:=60) (by decide);have e4:=fg (c:=d) (n:=45) (by decide);by_cases h1:c=45/\d=62
 .obtain⟨rfl,rfl⟩:=h1;rfl
 .rw[aa h1];have n1:¬(([Sum.inl 45,Sum.inl 62]:List fb)=[.inl (c.toNat:Int),.inl (d.toNat:Int)]):=λe=>by
   injection e with a1 a2;injection a2 with a2 _;exact h1 ⟨e1.mp (Sum.inl.inj a1).symm,e2.mp (Sum.inl.inj a2).symm⟩
  rw[gf n1];by_cases h2:c=60/\d=45
  .obtain⟨rfl,rfl⟩:=h2;rfl
  .rw[aa h2];have n2:¬(([Sum.inl 60,Sum.inl 45]:List fb)=[.inl (c.toNat:Int),.inl (d.toNat:Int)]):=λe=>by
    injection e with a1 a2;injection a2 with a2 _;exact h2 ⟨e3.mp (Sum.inl.inj a1).symm,e4.mp (Sum.inl.inj a2).symm⟩
   rw[gf n2];rfl
theorem Ss(c:UInt8):ft Lo [.inl (c.toNat:Int)]=none:=by
 rw[gf (by intro e;injection e with _ e;cases e),gf (by intro e;injection e with _ e;cases e)];rfl
noncomputable def ym(c:UInt8)(o:Option UInt8):Option (uL×Nat):=
 if c=45/\o=some 62 then some (.sign 1,2) else if c=60/\o=some 45 then some (.sign 2,2) else if VasesBase.SIGNS.contains c=true then some (.sign c.toNat,1) else none
theorem pc:token (b::r)=if isLetter b=true then(if 16<((b::r).takeWhile λc=>isLetter c||isDigit c).length then none else some (.name ((b::r).takeWhile λc=>isLetter c||isDigit c),((b::r).takeWhile λc=>isLetter c||isDigit c).length)) else if isDigit b=true then(numberOf false ((b::r).takeWhile isDigit)).map λn=>(.num n,((b::r).takeWhile isDigit).length) else if(b==45)=true then(if r.head?=some 62 then some (.sign 1,2) else(numberOf true (r.takeWhile isDigit)).map λn=>(.num n,(r.takeWhile isDigit).length+1)) else if(b==60)=true then(if r.head?=some 45 then some (.sign 2,2) else none) else if(b==34)=true then(match quoted (r.length+1) r with
   | some (t,k)=>if 255<t.length then none else some (.text t,k+1)
   | none=>none)
  else if VasesBase.SIGNS.contains b=true then some (.sign b.toNat,1) else none:=rfl
theorem Lp(h1:isLetter c=false)(h2:isDigit c=false)(h3:c≠34)(h4:c=45->∀d,r.head?=some d->isDigit d=false):token (c::r)=ym c r.head?:=by
 have e3:(c==34)=false:=by simpa using h3
 rw[pc];unfold ym;simp only[h1,h2,e3,bo,if_false,ba];by_cases z:c=45
 .subst z;simp only[if_true,true_and];by_cases y:r.head?=some 62
  .rw[ae y,ae y]
  .rw[aa y,aa y,aa (λq=>absurd q.1 (by decide)),aa (by decide)];have:r.takeWhile isDigit=[]:=by
    cases r with
    | nil=>rfl
    | cons d r=>rw[bH,aa (by rw[h4 rfl d rfl];exact aq)]
   rw[this];rfl
 .simp only[z,if_false,false_and];by_cases y:c=60
  .subst y;simp only[if_true,true_and];by_cases x:r.head?=some 45
   .rw[ae x,ae x]
   .rw[aa x,aa x,aa (by decide)]
  .simp only[y,if_false,false_and]
def U9(a:dj):Sp:=λvs H Q E=>∃W tx b k c,vs=[.ref tx,.int (k:Nat)]/\H tx=some (.lst (dc b))/\fT W H/\b[k]?=some c/\GO a W H Q E k (ym c b[k+1]?)
theorem Lq:ir P w base a.du T.C1 3 (U9 a):=by
 refine T.C1.fn.okX ["text","place","pair"] λW8 A outer s H vs Q E hr h nd hu W9 th=>?_;intro X;obtain⟨W,tx,b,k,c,rfl,ht,D,hc,q⟩:=h;refine⟨_,(ad (dz 2 nd (j8 rT (by rfl) T.DM boot_tuple (dq (uv ya (pv 0) (lO (pv 1)) (lO (dF fw (pv 1) (cr))))))) (ad (de (jl (Sb hu T.kE) (pv 2) (Ei T.kE.mg_) rfl) (am (bi (fQ T.u6 T.jc (iZ T) hr ci (db (dA T.S5) (db (Qz hu T.kE (Ei T.kE.mg_) (pv 2) (λ_ _=>rfl)) (dg (pv 1) (dF fw (pv 1) (cr)))))))) cZ) (ad (de (jl (Sa T.kG) (eF (pv 0) (pv 1)) (Ei T.kG.mg_) rfl) (am (bi (fQ T.u6 T.jc (iZ T) hr ci (db (dA T.S5) (db (Qy T.kG (Ei T.kG.mg_) (eF (pv 0) (pv 1)) (λ_ _=>rfl)) (dg (pv 1) (dF fw (pv 1) (cr)))))))) cZ) (am (gw T.dL (eE T) T.gy (hr.mono (by decide)) rfl T.fL th rfl (dg (dA T.qD) (pv 1))))))),?_⟩;have hk:=(ax.mp hc).1;left;refine TK (j:=k+2) ht (by rw[dD];lia) λsl ab2=>?_;have YR:upd H sl (.lst (((dc b).drop k).take (k+2-k))) sl=some (.lst (((dc b).drop k).take (k+2-k))):=bv;have s1:bn H (upd H sl (.lst (((dc b).drop k).take (k+2-k)))):=bn.upd ab2;generalize upd H sl (.lst (((dc b).drop k).take (k+2-k)))=H1 at YR s1;left;refine Cr YR λtp Yw=>?_;obtain⟨ks,adY,hv⟩:∃ks:List fb,((dc b).drop k).take (k+2-k)=ks.map kV/\ft Lo ks=(if c=45/\b[k+1]?=some 62 then some (V.str "->") else if c=60/\b[k+1]?=some 45 then some (.str "<-") else none):=by
  have e0:((dc b).drop k).take (k+2-k)=dc ((b.drop k).take 2):=by
   unfold dc;rw[←List.map_drop,←List.map_take,cR]
  rw[e0,eZ hc];by_cases h1:k+1<b.length
  .obtain⟨d,hd⟩:=kt h1;rw[eZ hd,hd];refine⟨[.inl (c.toNat:Int),.inl (d.toNat:Int)],rfl,?_⟩;rw[Sr];simp
  .rw[bD (by lia),cq (by lia)];refine⟨[.inl (c.toNat:Int)],rfl,?_⟩;rw[Ss];simp
 have abz:upd H1 tp (.tup (((dc b).drop k).take (k+2-k))) tp=some (.tup (ks.map kV)):=by rw[bv,adY]
 have s2:bn H (upd H1 tp (.tup (((dc b).drop k).take (k+2-k)))):=s1.trans (bn.upd Yw);generalize upd H1 tp (.tup (((dc b).drop k).take (k+2-k)))=H2 at abz s2;have YK:=s2 _ _ ht;unfold ym at q;left;refine'⟨tp,ks,rfl,abz,rfl,?_⟩;rw[hv];by_cases h1:c=45/\b[k+1]?=some 62
 .rw[ae h1] at q hv ⊢;refine' eU ?_;refine'⟨tp,ks,_,rfl,rfl,abz,hv,?_⟩;exact pY (t:=.sign 1) (n:=2) D s2 (.inl rfl) rfl (by lia) (by show V.str "->"=V.str (ff 1);rfl') q
 .rw[aa h1] at q hv ⊢;by_cases h2:c=60/\b[k+1]?=some 45
  .rw[ae h2] at q hv ⊢;refine' eU ?_;refine'⟨tp,ks,_,rfl,rfl,abz,hv,?_⟩;exact pY (t:=.sign 2) (n:=2) D s2 (.inr (.inl rfl)) rfl (by lia) (by show V.str "<-"=V.str (ff 2);rfl') q
  .rw[aa h2] at q hv ⊢;refine' eQ ?_;refine' gt YK hc rfl ?_;refine'⟨.inl (c.toNat:Int),rfl,rfl,?_⟩;rw[GX];by_cases h3:VasesBase.SIGNS.contains c=true
   .rw[ae h3] at q ⊢;refine' eU ?_;refine gt YK hc rfl ?_;refine'⟨.inl (c.toNat:Int),_,rfl,rfl,by rw[GX,ae h3],?_⟩;refine pY (t:=.sign c.toNat) (n:=1) D s2 (.inr (.inr ?_)) rfl (by lia) rfl q;exact aW.mpr ⟨c,by simpa using h3,rfl⟩
   .rw[aa h3] at q ⊢;refine' eQ ?_;exact fU (Fl.but q s2.but) rfl rfl
def Va(a:dj):Sp:=λvs H Q E=>∃W tx b k c,vs=[.ref tx,.int (k:Nat)]/\H tx=some (.lst (dc b))/\b.length<=4096/\fT W H/\b[k]?=some c/\GO a W H Q E k (token (b.drop k))
theorem IL(h1:isLetter c=false)(h2:isDigit c=true):token (c::r)=(numberOf false ((c::r).takeWhile isDigit)).map λn=>(.num n,tw isDigit (c::r)):=by
 rw[pc];simp only[h1,h2,bo,if_false,if_true];rfl
theorem IM(h2:isDigit d=true):token (45::d::r)=(numberOf true ((d::r).takeWhile isDigit)).map λn=>(.num n,tw isDigit (d::r)+1):=by
 have h3:¬((d::r).head?=some 62):=by
  intro e;injection e with e;subst e;revert h2;decide
 rw[pc,aa (by decide),aa (by decide),ae (by decide),aa h3];rfl
theorem TM(B:Bool)(ht:B=true->t ⟨nx,rt,bk,ct⟩ U H)(hu:B=false->u ⟨nx,rt,bk,ct⟩ U H)(h:(B=true->t ⟨nx,rt,bk,ct⟩ U H)->(B=false->u ⟨nx,rt,bk,ct⟩ U H)->c U H λb H1=>if b=true then t ⟨nx,rt,bk,ct⟩ U H1 else u ⟨nx,rt,bk,ct⟩ U H1):F1 c t u ⟨nx,rt,bk,ct⟩ U H:=h ht hu
theorem IN:ir P w base a.du T.Am 6 (Va a):=by
 refine T.Am.fn.okX ["text","place"] λW8 A outer s H vs Q E hr h nd hu W9 th=>?_;intro X;obtain⟨W,tx,b,k,c,rfl,ht,Xp,D,hc,q⟩:=h;refine⟨_,(ad (de (gm (df T.xI (wT T) hr ci (dq (eF (pv 0) (pv 1))))) (am (bi (df T.Dd (Lm T) hr (th.passes rfl) (dg (pv 0) (pv 1))))) cZ) (ad (de (gm (df T.mY (kT T) hr ci (dq (eF (pv 0) (pv 1))))) (am (bi (df T.rF (wY T) hr (th.passes rfl) (db (pv 0) (dg (pv 1) (pv 1)))))) cZ) (ad (de (PW.pt (l8 (fM (eF (pv 0) (pv 1)) (dA T.T5)) (l8 (jW (dF fw (pv 1) (cr)) (fS T.d5 (pv 0))) (lM (gm (df T.mY (kT T) hr ci (dq (eF (pv 0) (dF fw (pv 1) (cr)))))))))) (am (bi (df T.rF (wY T) hr (th.passes rfl) (db (pv 0) (dg (pv 1) (dF fw (pv 1) (cr))))))) cZ) (ad (de (fM (eF (pv 0) (pv 1)) (dA T.yy)) (am (bi (df T.xF (GW T) hr (th.passes rfl) (dg (pv 0) (pv 1))))) cZ) (am (bi (df T.C1 (Lq T) hr (th.passes rfl) (dg (pv 0) (pv 1))))))))),?_⟩;have hk:=(ax.mp hc).1;left;refine' gt ht hc rfl ?_;refine⟨_,rfl,?_⟩;rw[zq];left;cases h1:isLetter c with
 | true=>
  refine' eU ?_;exact⟨W,tx,b,k,c,rfl,ht,D,hc,h1,q⟩
 | false=>
  refine' eQ ?_;refine' gt ht hc rfl ?_;refine⟨_,rfl,?_⟩;rw[mw];left;cases h2:isDigit c with
  | true=>
   refine' eU ?_;refine⟨W,tx,b,k,k,c,false,rfl,rfl,ht,Xp,D,hc,h2,?_⟩;rw[eZ hc] at q ⊢;rw[IL h1 h2] at q;rw[Nat.sub_self,Nat.zero_add];exact q
  | false=>
   refine eQ ?_;refine M2 (Tu ?_);have hd:(b.drop (k+1)).head?=b[k+1]?:=by rw[List.head?_drop]
   refine TM (decide (c=45)&&(match b[k+1]? with|some d=>isDigit d|none=>false)) (λhB=>?_) (λhB=>?_) (λyes no=>?_)
   .simp only[aS,decide_eq_true_eq] at hB;obtain⟨rfl,hB⟩:=hB;cases e:b[k+1]? with
    | none=>rw[e] at hB;cases hB
    | some d=>
     rw[e] at hB;have hB:isDigit d=true:=hB;left;refine⟨W,tx,b,k,k+1,d,true,rfl,rfl,ht,Xp,D,e,hB,?_⟩;rw[eZ hc,eZ e,IM hB] at q;rw[eZ e];have e2:k+1-k+tw isDigit (d::b.drop (k+1+1))=tw isDigit (d::b.drop (k+1+1))+1:=(by lia);rw[e2];exact q
   .left;refine' gt ht hc rfl ?_;by_cases h3:c=34
    .subst h3;refine' cX (λ_=>?_) (λz=>absurd (by decide) z);exact⟨W,tx,b,k,rfl,ht,Xp,D,hc,q⟩
    .refine' cX (λz=>absurd ((fg (n:=34) (by decide)).mp (by simpa using z)) h3) (λ_=>?_);refine⟨W,tx,b,k,c,rfl,ht,D,hc,?_⟩
     rw[eZ hc,Lp h1 h2 h3 (by
      rw[hd];rintro rfl d e;rw[e] at hB
      simpa using hB),hd] at q
     exact q
   .left;refine' gt ht hc rfl ?_;by_cases h3:c=45
    .subst h3;refine' cX (λ_=>?_) (λz=>absurd (by decide) z);rw[dD];by_cases h4:k+1<b.length
     .refine cX (λ_=>?_) (λz=>absurd (by simp;lia) z);obtain⟨d,e⟩:=kt h4;left;refine' gt ht e (by lia) ?_;refine⟨_,rfl,?_⟩;rw[mw];left;rw[e] at yes no;cases h5:isDigit d with
      | true=>exact eU (yes (by simp[h5]))
      | false=>exact eQ (no (by simp[h5]))
     .refine cX (λz=>absurd z (by simp;lia)) (λ_=>?_);refine eQ (no ?_);rw[cq (by lia)];rfl
    .refine cX (λz=>absurd ((fg (n:=45) (by decide)).mp (by simpa using z)) h3) (λ_=>?_);exact eQ (no (by simp[h3]))
theorem Bg:∀(n:Nat)(l:Bytes)(t:Bytes)(k:Nat),quoted n l=some (t,k)->k<=l.length
 | 0,l,t,k,h=>by cases h
 | n+1,[],t,k,h=>by cases h
 | n+1,c::r,t,k,h=>by
  by_cases hc:c=34
  .subst hc;rw[r9,ae (by decide)] at h;cases h;simp
  .rw[zr hc] at h;cases e:qb (c::r) with
   | none=>rw[e] at h;cases h
   | some y=>
    obtain⟨y,w⟩:=y;rw[e] at h;dsimp only at h;obtain⟨z,hz,e2⟩:=cw.mp h;have ih:=Bg n _ z.1 z.2 hz;have w1:=GV e;cases e2;rw[aT] at ih
    lia
theorem Np(h:token l=some (t,n)):0<n/\n<=l.length/\t≠.halt_:=by
 cases l with
 | nil=>cases h
 | cons c r=>
  rw[pc] at h;split at h
  .rename_i h1;split at h
   .cases h
   .cases h;refine⟨?_,cH (cI _),by intro z;cases z⟩;rw[bH,ae (by rw[h1];rfl)];simp
  .split at h
   .rename_i h2;obtain⟨m,_,e⟩:=cw.mp h;cases e;refine⟨?_,cH (cI _),by intro z;cases z⟩;rw[bH,ae h2];simp
   .split at h
    .split at h
     .rename_i hd;cases h;refine⟨by decide,?_,by intro z;cases z⟩;cases r with
      | nil=>cases hd
      | cons d r=>simp
     .obtain⟨m,_,e⟩:=cw.mp h;cases e;refine⟨by lia,?_,by intro z;cases z⟩;have:=cH (cI isDigit (l:=r));simp;exact this
    .split at h
     .split at h
      .rename_i hd;cases h;refine⟨by decide,?_,by intro z;cases z⟩;cases r with
       | nil=>cases hd
       | cons d r=>simp
      .cases h
     .split at h
      .cases e:quoted (r.length+1) r with
       | none=>rw[e] at h;cases h
       | some y=>
        obtain⟨y,m⟩:=y;rw[e] at h;dsimp only at h;split at h
        .cases h
        .cases h;refine⟨by lia,?_,by intro z;cases z⟩;have:=Bg _ _ _ _ e;simp;exact this
      .split at h
       .cases h;exact⟨by decide,by simp,by intro z;cases z⟩
       .cases h
theorem Nq(h1:isBlank c=false)(h2:c≠35):VasesBase.lex (n+1) j (c::r)=match token (c::r) with
  | none=>.error ⟨2,j⟩
  | some (t,k)=>(VasesBase.lex n (j+k) ((c::r).drop k)).map λl=>⟨j,t⟩::l:=by
 show(if isBlank c=true then _ else if(c==35)=true then _ else _)=_;rw[aa (by rw[h1];exact aq),aa (by simpa using h2)];rfl
theorem EA:∀{ts:Toks} {t:PTok},(∀x∈ts,x.tok≠.halt_)->t.tok=.halt_->uN (ts++[t])
 | [],t,_,h=>h
 | x::r,t,hs,h=>by
  have ih:=EA (ts:=r) (t:=t) (λy hy=>hs y (by simp[hy])) h;cases r with
  | nil=>exact⟨hs x (by simp),ih⟩
  | cons y r=>exact⟨hs x (by simp),ih⟩
theorem OH{C:cS}{names:List Str}{args:List V}{H1:Hp}{Q:cS->Hp->Prop}{E:XK}(hl:args.length=names.length)(k:∀x dx H2,H1 x=none->bn H1 H2->H2 x=some (.ins C dx (names.zip args))->Q x H2):∀x dx,H1 x=none->H1 dx=none->dx≠x->lp C names (.ref x::(args++[])) (upd (upd H1 dx (.own x)) x (.ins C dx [])) (λv H2=>v=.non/\Q x H2) E:=by
 intro x dx nx nd ne;refine⟨x,dx,args,by rw[aZ],hl,bv,rfl,?_⟩;rw[eq];exact k x dx _ nx (bn.make nx nd rfl) bv
theorem QH{W:cS->Prop}{H H1:Hp}{Q:cS->Hp->Prop}{E:XK}{k n:Nat}{t:uL}{c:V}{kd:Int}{be:Int}(D:fT W H)(sm:bn H H1)(wf:yj t)(hk:kd=gL t)(hb:be=((k+n:Nat):Int))(hc:uM (dv W H1) t c)(q:∀p H',H1 p=none->bn H1 H'->wW a (dv W H') p ⟨k,t⟩ (k+n)->Q p H'):∀x dx,H1 x=none->H1 dx=none->dx≠x->lp a.iO ["kind","content","place","behind"] (.ref x::([.int kd,c,.int (k:Nat),.int be]++[])) (upd (upd H1 dx (.own x)) x (.ins a.iO dx [])) (λv H2=>v=.non/\Q x H2) E:=by
 refine OH rfl λx dx H2 nx s2 hx=>?_;refine q x H2 nx s2 ⟨wf,dx,c,?_,hc.same (d4 s2.but)⟩;subst hk hb;exact dQ hx ((D.same sm).no nx)
def Vb(a:dj):Sp:=λvs H Q E=>∃W tx b,vs=[.ref tx]/\H tx=some (.lst (dc b))/\fT W H/\match VasesBase.tokens b with
 | .ok ts=>∀p H',bn H H'->IsList (gp a) (dv W H') p ts->uN ts->ts.length<=4097->Q (.ref p) H'
 | .error f=>Fl a (λ_=>False) H E f
theorem GY:ir P w base a.du T.xD 7 (Vb a):=by
 refine T.xD.fn.okX ["text","tokens","place","token"] λW8 A outer s H vs Q E hr h nd hu W9 th=>?_;intro X;obtain⟨W,tx,b,rfl,ht,D,q⟩:=h;refine'⟨_,(ad (de (wB (fS T.d5 (pv 0)) (dA T.qw)) (am (gw T.dL (eE T) T.gy (hr.mono (by decide)) rfl T.fL th rfl (dg (dA T.O8) (dA T.qw)))) cZ) (ad (dz 1 nd (dw eA)) (ad (dz 2 nd (df T.nB (ua T) hr ci (dg (pv 0) (cr)))) (ad (gI PassesOwn.leaving (jW (pv 2) (fS T.d5 (pv 0))) (ad (dz 3 nd (df T.Am (IN T) hr (th.passes rfl) (dg (pv 0) (pv 2)))) (ad (dB (ve (pv 1) (pv 3))) (am (dz 2 nd (df T.nB (ua T) hr ci (dg (pv 0) (da (pv 3))))))))) (ad (dB (ve (pv 1) (fQ T.u6 T.jc (iZ T) hr ci (db (dA T.Ut) (db (dO) (dg (fS T.d5 (pv 0)) (fS T.d5 (pv 0)))))))) (am (bi (pv 1)))))))),?_⟩;rw[dD];by_cases h1:4096<b.length
 .have e:VasesBase.tokens b=.error ⟨1,4096⟩:=ae h1;rw[e] at q;refine' cX (λ_=>?_) (λz=>absurd (by simp;lia) z);exact fU q rfl rfl
 .have e:VasesBase.tokens b=VasesBase.lex (b.length+1) 0 b:=aa h1;rw[e] at q;refine cX (λz=>absurd z (by simp;lia)) (λ_=>?_);generalize Xn:VasesBase.lex (b.length+1) 0 b=sp at q;left;refine⟨by(show 0<=sizeLine;decide),λtl Xv=>?_⟩;have acX:tx≠tl:=ca ht Xv;have nW:¬W tl:=D.no Xv;have Ys:upd H tl (.lst []) tx=some (.lst (dc b)):=by rw[ap acX];exact ht
  left;refine'⟨tx,b,0,rfl,Ys,aI _,λj0 _ hj0 l0 s0=>?_⟩
  refine iQ (λm U H'=>bn H H'/\∃(j n:Nat)(ps:List cS)(ts:Toks)(x:Option V),U=[some (.ref tx),some (.ref tl),some (.int (j:Nat)),x]/\H' tl=some (.lst (ps.map V.ref))/\dX (gp a) (dv (Add W tl) H') ps ts/\j<=b.length/\ts.length<=j/\m=b.length-j/\b.length-j<n/\
    (∀t∈ts,t.tok≠.halt_)/\sp=(VasesBase.lex n j (b.drop j)).map (ts++·)/\∀c,b[j]?=some c->isBlank c=false/\c≠35)
   (λU H'=>bn H H'/\∃(ps:List cS)(ts:Toks)(x:Option V),U=[some (.ref tx),some (.ref tl),some (.int (b.length:Nat)),x]/\H' tl=some (.lst (ps.map V.ref))/\dX (gp a) (dv (Add W tl) H') ps ts/\ts.length<=b.length/\(∀t∈ts,t.tok≠.halt_)/\sp=.ok (ts++[⟨b.length,.halt_⟩])) (b.length-j0) ?_ ?_ (λtail=>?_)
  .obtain⟨n,hn,e0⟩:=l0 (b.length+1) (by lia);refine⟨bn.upd Xv,j0,n,[],[],none,rfl,bv,.nil,hj0,by simp,rfl,hn,by simp,?_,s0⟩;rw[←Xn];rw[List.drop_zero] at e0;rw[e0];cases VasesBase.lex n j0 (b.drop j0)<;>rfl
  .rintro U H' ⟨sm,ps,ts,x,rfl,Yv,Xe,hlen,acY,hs⟩;have aad:=sm _ _ ht;left;refine' ik Yv ?_;rw[dD];have D1:fT (Add W tl) H':=λb z e=>z.elim (λz=>(D.same sm) b z e) λz=>by rw[z,Yv] at e;cases e
   refine QH (t:=.halt_) (n:=0) (k:=b.length) (W:=Add W tl) (H:=H') D1 (bn.refl _) trivial rfl rfl rfl λp H2 np s2 tp=>?_;have abA:=s2 _ _ Yv;left;refine⟨tl,_,_,rfl,rfl,abA,?_,?_⟩
   .rw[af,Xe.len];exact aN (m:=5000) (by lia) (by decide)
   .left;rw[hs] at q;have k2:bn (dv (Add W tl) H') (dv W (upd H2 tl (.lst (ps.map V.ref++[V.ref p])))):=(d4 (s2.but.trans (fC.upd (.inr rfl)))).trans (pU λb z=>.inl z);refine q _ _ (λc o h=>?_) ⟨ps++[p],dQ (by rw[bv,aD];rfl) nW,(Xe.same (jC a) k2).snoc ?_⟩ (EA acY rfl) (by simp;lia)
    .rw[ap (ca h Xv)];exact s2 _ _ (sm _ _ h)
    .exact(tp.tok).same ((d4 (fC.upd (.inr rfl))).trans (pU λb z=>.inl z))
  .rintro m U H' ⟨sm,j,n,ps,ts,x,rfl,Yv,Xe,hj,hlen,rfl,hn,acY,hs,Xf⟩;have aad:=sm _ _ ht;left;rw[dD];have D1:fT (Add W tl) H':=λb z e=>z.elim (λz=>(D.same sm) b z e) λz=>by rw[z,Yv] at e;cases e
   by_cases h2:j<b.length
   .refine cX (λ_=>⟨_,λ_ _ z=>z,?_⟩) (λz=>absurd (by simpa using h2) z);obtain⟨c,hc⟩:=kt h2;obtain⟨n,rfl⟩:∃g,n=g+1:=⟨n-1,by lia⟩;obtain⟨hb,hh⟩:=Xf c hc;rw[eZ hc,Nq hb hh,←eZ hc] at hs;left;refine⟨Add W tl,tx,b,j,c,rfl,aad,by lia,D1,hc,?_⟩;cases e:token (b.drop j) with
    | none=>
     rw[e] at hs;have:sp=.error ⟨2,j⟩:=hs;rw[this] at q;exact Fl.but q sm.but
    | some y=>
     obtain⟨t,w⟩:=y;rw[e] at hs;obtain⟨w0,w1,w2⟩:=Np e;rw[aT] at w1;intro p H2 s2 tp;have abA:=s2 _ _ Yv;have YK:=s2 _ _ aad;left;refine' ik abA ?_;refine⟨tl,_,_,rfl,rfl,abA,?_,?_⟩
     .rw[af,Xe.len];exact aN (m:=5000) (by lia) (by decide)
     .obtain⟨wf,dx,cv,hp,hcv⟩:=tp;have np:p≠tl:=λz=>(dW hp).2 (.inr z);have Yi:upd H2 tl (.lst (ps.map V.ref++[V.ref p])) p=some (.ins a.iO dx [("kind",.int (gL t)),("content",cv),("place",.int j),("behind",.int ((j+w:Nat):Int))]):=(by rw[ap np];exact(dW hp).1);have ab6:upd H2 tl (.lst (ps.map V.ref++[V.ref p])) tx=some (.lst (dc b)):=(by rw[ap acX];exact YK);have k2:bn (dv (Add W tl) H2) (dv (Add W tl) (upd H2 tl (.lst (ps.map V.ref++[V.ref p])))):=d4 (fC.upd (.inr rfl));have ad7:upd H2 tl (.lst (ps.map V.ref++[V.ref p])) tl=some (.lst ((ps++[p]).map V.ref)):=(by rw[bv,aD];rfl);have YY:bn H (upd H2 tl (.lst (ps.map V.ref++[V.ref p]))):=λc o h=>(by rw[ap (ca h Xv)];exact s2 _ _ (sm _ _ h));generalize upd H2 tl (.lst (ps.map V.ref++[V.ref p]))=H3 at Yi ab6 k2 ad7 YY;left;refine⟨tx,b,j+w,rfl,ab6,by lia,λj' hjj aaM l' s'=>?_⟩;obtain⟨n',Zg,e'⟩:=l' n (by lia);left;refine⟨b.length-j',by lia,YY,j',n',ps++[p],ts++[⟨j,t⟩],_,rfl,ad7,(Xe.same (jC a) ((d4 s2.but).trans k2)).snoc (gp.same k2 ⟨wf,dx,cv,_,hp,hcv⟩),aaM,by simp;lia,rfl,Zg,?_,?_,s'⟩
      .intro u hu;rcases bq.mp hu with z|z
       .exact acY u z
       .rw[bV.mp z];exact w2
      .rw[hs];dsimp only;rw[bQ,e'];cases VasesBase.lex n' j' (b.drop j') with
       | error f=>rfl
       | ok z=>
        show Except.ok _=Except.ok _;simp
   .refine cX (λz=>absurd (by simpa using z) h2) (λ_=>?_);have aaM:j=b.length:=(by lia);subst aaM;refine tail _ _ ⟨sm,ps,ts,x,rfl,Yv,Xe,hlen,acY,?_⟩;rw[hs,bD (ah _)];cases n with
    | zero=>lia
    | succ n=>rfl
def Vc(a:dj):Sp:=λvs H Q E=>∃W x dx tx b,vs=[.ref x,.ref tx]/\W x/\H x=some (.ins a.dS dx [])/\H tx=some (.lst (dc b))/\fT W H/\match VasesBase.tokens b with
 | .ok ts=>∀H',fC (·=x) H H'->eC a W H' x ts->Q .non H'
 | .error f=>Fl a (·=x) H E f
theorem ub:UM P w base a.du T.nA mg 8 (Vc a):=by
 refine T.nA.fn.okX ["self","text"] λW8 A outer s H vs Q E hr h nd hu W9 th=>?_;intro X;obtain⟨W,x,dx,tx,b,rfl,wx,hx,ht,D,q⟩:=h;refine'⟨_,(ad (fR (pv 0) (df T.xD (GY T) hr (th.passes rfl) (dq (pv 1)))) (am (fR (pv 0) (cr)))),?_⟩;refine⟨W,tx,b,rfl,ht,D,?_⟩;cases e:VasesBase.tokens b with
 | error f=>rw[e] at q;exact q.more λb z=>z.elim
 | ok ts=>
  rw[e] at q;intro p H1 s1 hp hg hl;have XR:=s1 _ _ hx;left;rw[eq];refine q _ (s1.but.trans (fC.upd rfl)) ⟨wx,dx,p,ts,0,bv,hp.same (jC a) (d4 (fC.upd wx)),hl,rfl,hg⟩
end
noncomputable def pZ(t w s st:cS)(fm:V):List (Str×V):=[("title",.ref t),("worker",.ref w),("start",.ref s),("states",.ref st),("form",fm)]
def TN(a:dj):Sp:=λvs H Q _=>∃x dx t w s st,vs=[.ref x,.ref t,.ref w,.ref s,.ref st]/\H x=some (.ins a.ic dx [])/\∀fm H2,fC (·=x) H H2->H2 x=some (.ins a.ic dx (pZ t w s st (.ref fm)))->H2 fm=some (.lst [])->Q .non H2
theorem GZ:wD P w base T.xw mg 1 (TN a):=by
 specialize T.xw.fn.okN ["self","title","worker","start","states"];obtain⟨x,dx,t,w,s',st,rfl,hx,q⟩:=h;refine'⟨_,(ad (fR (pv 0) (pv 1)) (ad (fR (pv 0) (pv 2)) (ad (fR (pv 0) (pv 3)) (ad (fR (pv 0) (pv 4)) (am (fR (pv 0) (dw eA))))))),?_⟩;rw[eq,eq,eq];refine⟨by(show 0<=sizeLine;decide),λbl Xp=>?_⟩;have nb:bl≠x:=λz=>by rw[z,bv] at Xp;cases Xp
 rw[ap nb] at Xp;left;refine Cp (a:=x) (C:=a.ic) (dx:=dx) (fs:=[("title",.ref t),("worker",.ref w),("start",.ref s'),("states",.ref st)]) ?_ T.ia (by decide) (by show 4<1000;decide) rfl ?_
 .rw[ap (Ne.symm nb),bv];rfl
 .refine q bl _ (λb u e n=>?_) bv ?_
  .rw[ap n,ap (ca e Xp),ap n];exact e
  .rw[ap nb,bv]
structure PtR(a:dj)(G:Hp)(t w s st:cS)(r:Vasesd.Raw):Prop where
 title:dH a G t r.title
 worker:dH a G w r.worker
 start:dH a G s r.start
 states:IsList (kq a) G st r.states
def nv(a:dj)(G:Hp)(p:cS)(r:Vasesd.Raw):Prop:=∃dx t w s st fm,G p=some (.ins a.ic dx (pZ t w s st fm))/\PtR a G t w s st r
noncomputable def ro(l:Toks):Except Fault (List (PName×Vasesd.RawNode)):=if next .halt_ l=true then .error ⟨3,here l⟩ else Vasesd.takeStates (l.length+1) 0 l
def lV(b:Bytes):Except Fault Vasesd.Raw:=match VasesBase.tokens b with
 | .error f=>.error f
 | .ok l=>match takeWord "part" l with
  | .error f=>.error f
  | .ok l=>match takeName l with
   | .error f=>.error f
   | .ok (t,l)=>match takeWord "of" l with
    | .error f=>.error f
    | .ok l=>match takeName l with
     | .error f=>.error f
     | .ok (w,l)=>match takeWord "start" l with
      | .error f=>.error f
      | .ok l=>match takeName l with
       | .error f=>.error f
       | .ok (s,l)=>match ro l with
        | .error f=>.error f
        | .ok ss=>.ok ⟨t,w,s,ss⟩
theorem Lr:(VasesBase.tokens b >>= Vasesd.takePart)=lV b:=by
 unfold lV Vasesd.takePart;dsimp only[bind,Except.bind];cases VasesBase.tokens b with
 | error f=>rfl
 | ok l=>
  dsimp only;cases takeWord "part" l with
  | error f=>rfl
  | ok l=>
   dsimp only;cases takeName l with
   | error f=>rfl
   | ok x=>
    obtain⟨t,l⟩:=x;dsimp only;cases takeWord "of" l with
    | error f=>rfl
    | ok l=>
     dsimp only;cases takeName l with
     | error f=>rfl
     | ok x=>
      obtain⟨w,l⟩:=x;dsimp only;cases takeWord "start" l with
      | error f=>rfl
      | ok l=>
       dsimp only;cases takeName l with
       | error f=>rfl
       | ok x=>
        obtain⟨s,l⟩:=x;dsimp only;unfold ro;by_cases h:next .halt_ l=true
        .simp only[h,if_true];rfl
        .simp only[h,if_false];cases Vasesd.takeStates (l.length+1) 0 l with
         | error f=>rfl
         | ok ss=>rfl
theorem G0:jr Vasesd.takeNode:=λl x l' h=>by
 rw[zp] at h;have dl:(l.drop 1).length<=l.length:=by simp
 have ad8:∀{c:Nat} {l:Toks} {y:PName×PName×List Vasesd.RawBranch} {l':Toks},fH c l=.ok (y,l')->l'.length<=l.length:=λ{c l y l'} h=>by
  unfold fH at h;split at h
  .cases h
  .rename_i x l1 e1;split at h
   .cases h
   .rename_i l2 e2;split at h
    .cases h
    .rename_i y l3 e3;split at h
     .cases h
     .rename_i bs l4 e4;have s1:=js _ _ _ e1;have s2:=hU e2;have s3:=js _ _ _ e3;have s4:l4.length<=l3.length:=by
       unfold iS at e4;split at e4
       .cases e4
       .rename_i l5 e5;split at e4
        .cases e4
        .rename_i bs l6 e6;split at e4
         .cases e4
         .rename_i l7 e7;cases e4;have:=hU e5;have:=ko tZ _ _ _ _ _ e6;have:=hU e7
          lia
      cases h
      lia
 split at h
 .cases h;exact dl
 .split at h
  .split at h
   .cases h
   .rename_i y l1 e;cases h;have:=ad8 e
    lia
  .split at h
   .split at h
    .cases h
    .rename_i y l1 e;cases h;have:=ad8 e
     lia
   .cases h
theorem zt(h:iK l=.ok (x,l')):l'.length<l.length:=by
 unfold iK at h;split at h
 .cases h
 .rename_i s l1 e1;split at h
  .cases h
  .rename_i l2 e2;split at h
   .cases h
   .rename_i b l3 e3;cases h;have s1:l1.length<l.length:=by
     cases e:nameNext l with
     | true=>
      obtain⟨p,b,r,rfl,e'⟩:=ni e;rw[e'] at e1;cases e1;simp
     | false=>rw[gH e] at e1;cases e1
    have s2:=hU e2;have s3:=G0 _ _ _ e3
    lia
def Vd(a:dj):Sp:=λvs H Q E=>∃W tx b,vs=[.ref tx]/\H tx=some (.lst (dc b))/\fT W H/\match lV b with
 | .ok r=>∀p H',bn H H'->nv a (dv W H') p r->Q (.ref p) H'
 | .error f=>Fl a (λ_=>False) H E f
theorem G1:ir P w base a.du T.xK 13 (Vd a):=by
 refine T.xK.fn.okX ["text","reader","title","worker","start","states"] λW8 A outer s H vs Q E hr h nd hu W9 th=>?_;intro X;obtain⟨W0,tx,b,rfl,ht,D0,q⟩:=h;refine⟨_,(ad (dz 1 nd (fQ T.dm T.nA (ub T) hr (th.passes rfl) (dq (pv 0)))) (ad (dB (dh (pv 1) T.dm T.eu (d8 T) hr (th.passes rfl) (dq (dO)))) (ad (dz 2 nd (d7 (pv 1) T.dm T.fX (gj T) hr (th.passes rfl))) (ad (dB (dh (pv 1) T.dm T.eu (d8 T) hr (th.passes rfl) (dq (dO)))) (ad (dz 3 nd (d7 (pv 1) T.dm T.fX (gj T) hr (th.passes rfl))) (ad (dB (dh (pv 1) T.dm T.eu (d8 T) hr (th.passes rfl) (dq (dO)))) (ad (dz 4 nd (d7 (pv 1) T.dm T.fX (gj T) hr (th.passes rfl))) (ad (dz 5 nd (dw (dq (df T.pD (vS T) hr (th.passes rfl) (dg (pv 1) (cr)))))) (ad (gI PassesOwn.leaving (j6 (gm (d7 (pv 1) T.dm T.j5 (nZ T) hr ci))) (am (dB (ve (pv 5) (df T.pD (vS T) hr (th.passes rfl) (dg (pv 1) (fS T.d5 (pv 5)))))))) (am (bi (fQ T.ia T.xw (GZ T) hr ci (db (pv 2) (db (pv 3) (dg (pv 4) (pv 5)))))))))))))))),?_⟩;have sp:("part":Str)=strOf (word "part"):=by rfl'
 have so:("of":Str)=strOf (word "of"):=by rfl'
 have ss:("start":Str)=strOf (word "start"):=by rfl'
 have tp:gM "part" (.name (word "part")):=iR sp (by decide);have to:gM "of" (.name (word "of")):=iR so (by decide);have ts:gM "start" (.name (word "start")):=iR ss (by decide);unfold lV at q;left;intro r dx nr ab7 ne;have Zc:(upd (upd H dx (.own r)) r (.ins a.dS dx [])) r=some (.ins a.dS dx []):=bv;have Yb:bn H (upd (upd H dx (.own r)) r (.ins a.dS dx [])):=bn.make nr ab7 rfl;have D:fT (Add W0 r) (upd (upd H dx (.own r)) r (.ins a.dS dx [])):=λb z e=>z.elim (λz=>(D0.same Yb) b z e) λz=>by rw[z,Zc] at e;cases e
 generalize upd (upd H dx (.own r)) r (.ins a.dS dx [])=H0 at Zc Yb D;have bs:∀{H':Hp},fC (·=r) H0 H'->bn H H':=λb c o e=>b c o (Yb c o e) (ca e nr);have fl:∀{f:Fault},Fl a (λ_=>False) H E f->Fl a (·=r) H0 E f:=λh Yf H' b e=>h Yf H' (bs b).but e;refine⟨Add W0 r,r,dx,tx,b,rfl,.inr rfl,Zc,Yb _ _ ht,D,?_⟩;have kp:∀{H1 H2:Hp},fC (·=r) H1 H2->bn (dv (Add W0 r) H1) (dv (Add W0 r) H2):=λb=>d4 (b.mono λb e=>.inr e);cases e0:VasesBase.tokens b with
 | error f=>rw[e0] at q;exact fl q
 | ok l0=>
  rw[e0] at q;intro H1 b1 R1;refine⟨rfl,?_⟩;obtain⟨Xq,tl,k2,Xd⟩:=R1.obj;dsimp only at q;left;refine⟨_,r,l0,_,_,rfl,R1,tp,(by intro z;cases z),?_⟩;unfold takeWord at q;cases e1:VasesBase.take (.name (word "part")) l0 with
  | error f=>rw[e1] at q;exact Fl.but (fl q) b1
  | ok l1=>
   rw[e1] at q;intro v H2 b2 R2;obtain⟨Xq,tl,k2,Xd⟩:=R2.obj;dsimp only at q;have c2:=b1.trans b2;left;refine⟨_,r,l1,rfl,R2,?_⟩;cases e2:takeName l1 with
   | error f=>rw[e2] at q;exact Fl.but (fl q) c2
   | ok x2=>
    obtain⟨nt,l2⟩:=x2;rw[e2] at q;rintro v H3 b3 ⟨pt,rfl,it,R3⟩;obtain⟨Xq,tl,k2,Xd⟩:=R3.obj;dsimp only at q;have c3:=c2.trans b3;left;refine⟨_,r,l2,_,_,rfl,R3,to,(by intro z;cases z),?_⟩;cases e3:VasesBase.take (.name (word "of")) l2 with
    | error f=>rw[e3] at q;exact Fl.but (fl q) c3
    | ok l3=>
     rw[e3] at q;intro v H4 b4 R4;obtain⟨Xq,tl,k2,Xd⟩:=R4.obj;dsimp only at q;have c4:=c3.trans b4;left;refine⟨_,r,l3,rfl,R4,?_⟩;cases e4:takeName l3 with
     | error f=>rw[e4] at q;exact Fl.but (fl q) c4
     | ok x4=>
      obtain⟨nw,l4⟩:=x4;rw[e4] at q;rintro v H5 b5 ⟨pw,rfl,iw,R5⟩;obtain⟨Xq,tl,k2,Xd⟩:=R5.obj;dsimp only at q;have c5:=c4.trans b5;left;refine⟨_,r,l4,_,_,rfl,R5,ts,(by intro z;cases z),?_⟩;cases e5:VasesBase.take (.name (word "start")) l4 with
      | error f=>rw[e5] at q;exact Fl.but (fl q) c5
      | ok l5=>
       rw[e5] at q;intro v H6 b6 R6;obtain⟨Xq,tl,k2,Xd⟩:=R6.obj;dsimp only at q;have c6:=c5.trans b6;left;refine⟨_,r,l5,rfl,R6,?_⟩;cases e6:takeName l5 with
       | error f=>rw[e6] at q;exact Fl.but (fl q) c6
       | ok x6=>
        obtain⟨ns,l6⟩:=x6;rw[e6] at q;rintro v H7 b7 ⟨Xk,rfl,ad9,R7⟩;dsimp only at q;have c7:=c6.trans b7;have D7:fT (Add W0 r) H7:=D.rd c7 R7;have it:dH a (dv (Add W0 r) H7) pt nt:=dG a _ _ _ _ (kp (b4.trans (b5.trans (b6.trans b7)))) it;have iw:dH a (dv (Add W0 r) H7) pw nw:=dG a _ _ _ _ (kp (b6.trans b7)) iw;have ad9:dH a (dv (Add W0 r) H7) Xk ns:=ad9;have R7:eC a (Add W0 r) H7 r l6:=R7;clear b1 b2 b3 b4 b5 b6 b7 c2 c3 c4 c5 c6 R1 R2 R3 R4 R5 R6 e0 e1 e2 e3 e4 e5 e6;have afO:=R7.len;left;refine⟨_,r,l6,0,rfl,D7,R7,?_⟩;unfold ro at q
        have aea:∀f,dP 64 nameNext iK 0 l6=.error f->(match (if next .halt_ l6=true then .error ⟨3,here l6⟩ else Vasesd.takeStates (l6.length+1) 0 l6) with
          | .error f=>Except.error f
          | .ok ss=>.ok (⟨nt,nw,ns,ss⟩:Vasesd.Raw))=.error f:=λf hf=>by
         by_cases hh:next .halt_ l6=true
         .rw[ae hh];obtain⟨p,rr,rfl⟩:=jp hh;have:nameNext ((⟨p,.halt_⟩:PTok)::rr)=false:=rfl;unfold dP at hf;rw[aa (by rw[this];simp)] at hf;unfold iK at hf;rw[gH this] at hf;cases hf;rfl
         .rw[aa hh,oz,aa hh,hf]
        cases e7:dP 64 nameNext iK 0 l6 with
        | error f=>
         rw[aea f e7] at q;exact Fl.but (fl q) c7
        | ok x7=>
         obtain⟨x1,l7⟩:=x7;have hh:¬next .halt_ l6=true:=λhh=>by
          obtain⟨p,rr,rfl⟩:=jp hh;have:nameNext ((⟨p,.halt_⟩:PTok)::rr)=false:=rfl;have:=kb e7;unfold iK at this;rw[gH rfl] at this;cases this
         rw[aa hh,oz,aa hh,e7] at q;dsimp only at q;rintro v H8 b8 ⟨p1,rfl,Xh,R8⟩;have D8:=D7.rd b8 R8;have t7:=zt (kb e7);left;refine⟨by(show 1<=sizeLine;decide),λp hp=>?_⟩;have YL:r≠p:=by
          obtain⟨_,_,_,z⟩:=R8.obj;exact ca z hp
         have nW:¬Add W0 r p:=D8.no hp;have c8:=c7.trans b8;have ab0:H0 p=none:=by
          cases z:H0 p with
          | none=>rfl
          | some o=>have:=c8 p o z (λe=>YL e.symm);rw[hp] at this;cases this
         left
         refine iQ (λm U H'=>U=[some (.ref tx),some (.ref r),some (.ref pt),some (.ref pw),some (.ref Xk),some (.ref p)]/\∃ps xs l2 fu,m=l2.length/\H' p=some (.lst (ps.map V.ref))/\dX (kq a) (dv (Add (Add W0 r) p) H') ps xs/\eC a (Add (Add W0 r) p) H' r l2/\fC (·=r) H0 H'/\bn (dv (Add W0 r) H7) (dv (Add (Add W0 r) p) H')/\fT (Add (Add W0 r) p) H'/\
           l2.length<fu/\xs.length+l2.length<=l6.length/\
           (match (match Vasesd.takeStates fu xs.length l2 with|.error f=>Except.error f|.ok ss=>.ok (xs++ss)) with
            | .error f=>Fl a (λ_=>False) H E f
            | .ok ss=>∀p H',bn H H'->nv a (dv W0 H') p ⟨nt,nw,ns,ss⟩->Q (.ref p) H'))
          (λU H'=>U=[some (.ref tx),some (.ref r),some (.ref pt),some (.ref pw),some (.ref Xk),some (.ref p)]/\∃ps xs,H' p=some (.lst (ps.map V.ref))/\dX (kq a) (dv (Add (Add W0 r) p) H') ps xs/\fC (·=r) H0 H'/\bn (dv (Add W0 r) H7) (dv (Add (Add W0 r) p) H')/\fT (Add (Add W0 r) p) H'/\
           ∀p H',bn H H'->nv a (dv W0 H') p ⟨nt,nw,ns,xs⟩->Q (.ref p) H') l7.length ?_ ?_ (λtail=>?_)
         .have kk:bn (dv (Add W0 r) H8) (dv (Add (Add W0 r) p) (upd H8 p (.lst [V.ref p1]))):=λb u e=>by
           obtain⟨e,nb⟩:=dW e;have hb:b≠p:=ca e hp;exact dQ (by rw[ap hb];exact e) λz=>z.elim nb hb
          refine⟨rfl,[p1],[x1],l7,l6.length,rfl,bv,.cons (ju a _ _ _ _ kk Xh) .nil,R8.add hp,c8.trans λb u e nb=>?_,(kp b8).trans kk,D8.add,t7,by(show 1+_<=_;lia),?_⟩
          .rw[ap (ca e hp)];exact e
          .rw[show([x1]:List (PName×Vasesd.RawNode)).length=0+1 from rfl];cases e9:Vasesd.takeStates l6.length (0+1) l7 with
           | error f=>rw[e9] at q;exact q
           | ok ss=>rw[e9] at q;exact q
         .rintro U H' ⟨rfl,ps,xs,Xe,hE,bb,k7,D',q'⟩;left;intro x XW nx afQ ne2;refine⟨x,XW,pt,pw,Xk,p,rfl,bv,λfm H9 b9 hx hfm=>⟨rfl,?_⟩⟩;have sm:bn H' H9:=λc u e=>b9 c u (by rw[ap (ca e nx),ap (ca e afQ)];exact e) (ca e nx);have k9:bn (dv (Add (Add W0 r) p) H') (dv W0 H9):=(d4 sm.but).trans (pU λb z=>.inl (.inl z));have abg:¬W0 x:=λz=>D'.no nx (.inl (.inl z));refine q' x H9 ((bs bb).trans sm) ⟨XW,pt,pw,Xk,p,.ref fm,dQ hx abg,?_⟩;exact⟨dG a _ _ _ _ (k7.trans k9) it,dG a _ _ _ _ (k7.trans k9) iw,dG a _ _ _ _ (k7.trans k9) ad9,ps,dQ (sm _ _ Xe) λz=>nW (.inl z),hE.same (ju a) k9⟩
         .rintro m U H' ⟨rfl,ps,xs,l2,fu,rfl,Xe,hE,R',bb,k7,D',acV,hlen,q'⟩;obtain⟨Xq,tl,k2,Xd⟩:=R'.obj;obtain⟨fu,rfl⟩:∃g,fu=g+1:=⟨fu-1,by lia⟩;left;refine'⟨_,r,l2,rfl,R',?_⟩;rw[oz] at q';cases Yr:next .halt_ l2 with
          | true=>
           rw[Yr,ae rfl] at q';refine eQ (tail _ _ ⟨rfl,ps,xs,Xe,hE,bb,k7,D',?_⟩);simpa using q'
          | false=>
           rw[Yr,aa aq] at q';refine' eU ⟨_,λ_ _ z=>z,?_⟩;refine' ik Xe ?_;refine⟨_,r,l2,xs.length,by rw[af,hE.len];rfl,D',R',?_⟩;cases e8:dP 64 nameNext iK xs.length l2 with
           | error f=>
            rw[e8] at q';exact Fl.but (fl q') bb
           | ok x8=>
            obtain⟨x4,l4⟩:=x8;rw[e8] at q';dsimp only at q';rintro v H9 b9 ⟨p4,rfl,aaN,R9⟩;have t4:=zt (kb e8);have acA:H9 p=some (.lst (ps.map V.ref)):=b9 p _ Xe λe=>YL e.symm;left;refine⟨p,_,_,rfl,rfl,acA,?_,?_⟩
            .rw[af,hE.len];exact aN (m:=5000) (by lia) (by decide)
            .have k1:bn (dv (Add (Add W0 r) p) H') (dv (Add (Add W0 r) p) (upd H9 p (.lst (ps.map V.ref++[V.ref p4])))):=d4 ((b9.mono (λb e=>.inl (.inr e))).trans (fC.upd (.inr rfl)));refine⟨l4.length,t4,rfl,ps++[p4],xs++[x4],l4,fu,rfl,by rw[bv,aD];rfl,(hE.same (ju a) k1).snoc (ju a _ _ _ _ (d4 (fC.upd (.inr rfl))) aaN),R9.wild (.inr rfl) YL,?_,k7.trans k1,(D'.rd b9 R9).upd,by lia,by simp;lia,?_⟩
             .refine(bb.trans b9).trans' λb u e=>?_;rw[ap (ca e ab0)]
             .have e5:(xs++[x4]).length=xs.length+1:=(by simp);rw[e5];revert q';cases Vasesd.takeStates fu (xs.length+1) l4 with
              | error f=>exact λq=>q
              | ok ss=>
               intro q';simpa using q'
def eI{α:Type}:Except Fault α->Option Fault
 | .ok _=>none
 | .error f=>some f
def CB(a:dj)(H:Hp)(Q:VK)(E:XK)(o:Option Fault):Prop:=match o with
 | none=>∀H',bn H H'->Q .non H'
 | some f=>Fl a (λ_=>False) H E f
theorem dH.obj(h:dH a H p n):∃dx be,H p=some (.ins a.iO dx [("kind",.int 1),("content",.str (strOf n.name)),("place",.int n.place),("behind",be)]):=by
 obtain⟨wf,dx,c,be,e,hc⟩:=h;obtain rfl:c=.str (strOf n.name):=hc;exact⟨dx,be,e⟩
def uO(kvs:List (fb×V))(bf:List Bytes):Prop:=(∀b,(ft kvs (.inr (strOf b))).isSome=bf.contains b)/\kvs.length<=bf.length
theorem zX:uO [] []:=⟨λ_=>rfl,ah _⟩
theorem G3{kvs:List (fb×V)}{k:fb}{v:V}:(jS kvs k v).length<=kvs.length+1:=by
 unfold jS;split
 .rw[af];lia
 .simp
theorem uO.put{kvs:List (fb×V)}{bf:List Bytes}(h:uO kvs bf)(n:Bytes)(v:V):uO (jS kvs (.inr (strOf n)) v) (bf++[n]):=by
 refine⟨λb=>?_,by have:=G3 (kvs:=kvs) (k:=.inr (strOf n)) (v:=v);rw[aC,bN];have:=h.2;lia⟩;rw[zR];by_cases e:b=n
 .subst e;simp
 .rw[aa (λz=>e (hG (Sum.inr.inj z))),h.1];simp[e]
def Ve(a:dj):Sp:=λvs H Q E=>∃p d n kvs,vs=[.ref p,.ref d]/\dH a H p n/\H d=some (.dK kvs)/\CB a H Q E (if(ft kvs (.inr (strOf n.name))).isSome=true then none else some ⟨6,n.place⟩)
theorem mJ:ir P w base a.du T.jH 3 (Ve a):=by
 refine T.jH.fn.okX ["name","numbers"] λW8 A outer s H vs Q E hr h nd hu W9 th=>?_;intro X;obtain⟨p,d,n,kvs,rfl,hp,hd,q⟩:=h;refine⟨_,(am (de (we (MJ hu (da (pv 0)) (pv 1))) (am (gw T.dL (eE T) T.gy (hr.mono (by decide)) rfl T.fL th rfl (dg (dA T.E7) (da (pv 0))))) cZ)),?_⟩;obtain⟨dx,be,ho⟩:=hp.obj;left;cases e:(ft kvs (.inr (strOf n.name))).isSome with
 | true=>
  rw[e,ae rfl] at q;exact eQ (q _ (bn.refl _))
 | false=>
  rw[e,aa aq] at q;refine' eU ?_;exact fU q rfl rfl
def Vf(a:dj):Sp:=λvs H Q E=>∃p d n kvs bf,vs=[.ref p,.ref d]/\dH a H p n/\H d=some (.dK kvs)/\uO kvs bf/\bf.length<=5000/\(bf.contains n.name=true->Fl a (λ_=>False) H E ⟨5,n.place⟩)/\(bf.contains n.name=false->∀X2,uO X2 (bf++[n.name])->Q .non (upd H d (.dK X2)))
theorem p5:ir P w base a.du T.ol 3 (Vf a):=by
 refine T.ol.fn.okX ["name","earlier"] λW8 A outer s H vs Q E hr h nd hu W9 th=>?_;intro X;obtain⟨p,d,n,kvs,bf,rfl,hp,hd,hs,hl,q1,q2⟩:=h;refine⟨_,(ad (de (we (RM hu (da (pv 0)) (pv 1))) (am (gw T.dL (eE T) T.gy (hr.mono (by decide)) rfl T.fL th rfl (dg (dA T.HY) (da (pv 0))))) cZ) (am (JY hu (pv 1) (da (pv 0)) (xX) rfl))),?_⟩;obtain⟨dx,be,ho⟩:=hp.obj;left;rw[hs.1];cases e:bf.contains n.name with
 | true=>
  refine' eU ?_;exact fU (q1 e) rfl rfl
 | false=>
  refine' eQ ?_;refine J9 hd (aN (m:=5000) (by have:=hs.2;lia) (by decide)) ?_;exact q2 e _ (hs.put _ _)
def Vg(a:dj):Sp:=λvs H Q E=>∃hl wk hs w,vs=[.ref hl,.ref wk]/\IsList (dH a) H hl hs/\dH a H wk w/\hs.length<=4097/\CB a H Q E (eI (Vasesd.namedHands w.name [] hs))
theorem Ls{w:Bytes}{bf:List Bytes}{p:PName}{r:List PName}:eI (Vasesd.namedHands w bf (p::r))=if p.name=w then some ⟨9,p.place⟩ else if bf.contains p.name=true then some ⟨5,p.place⟩ else eI (Vasesd.namedHands w (bf++[p.name]) r):=by
 show eI (if p.name=w then _ else if bf.contains p.name=true then _ else _)=_;split
 .rfl
 .split
  .rfl
  .show eI (Vasesd.namedHands w (bf++[p.name]) r >>= _)=_;cases Vasesd.namedHands w (bf++[p.name]) r<;>rfl
theorem i7{α:Type}{l:List α}{j:Nat}{x:α}(h:l[j]?=some x):l.drop j=x::l.drop (j+1):=by
 obtain⟨hj,e⟩:=ax.mp h;rw[cQ hj,e]
theorem eP{α:Type}{l:List α}{j:Nat}{x:α}(h:l[j]?=some x):l.take (j+1)=l.take j++[x]:=by
 rw[bX,h];rfl
theorem eY{ps:List cS}{j:Nat}{x:V}(h:(ps.map V.ref)[j]?=some x):∃p,ps[j]?=some p/\x=.ref p:=by
 rw[ak] at h;cases e:ps[j]? with
 | none=>rw[e] at h;cases h
 | some p=>rw[e] at h;cases h;exact⟨p,rfl,rfl⟩
theorem Bh:ir P w base a.du T.qj 4 (Vg a):=by
 refine T.qj.fn.okX ["seats","worker","earlier","seat"] λW8 A outer s H vs Q E hr h nd hu W9 th=>?_;intro X;obtain⟨hl,wk,hs,w',rfl,⟨ps,Xe,hE⟩,hw,hlen,q⟩:=h;refine⟨_,(ad (dz 2 nd (uA)) (am (fv PassesOwn.leaving rfl (eW (pv 0)) (gh 3 nd) (ad (de (fM (da (pv 3)) (da (pv 1))) (am (gw T.dL (eE T) T.gy (hr.mono (by decide)) rfl T.fL th rfl (dg (dA T.HQ) (da (pv 3))))) cZ) (am (dB (df T.ol (p5 T) hr (th.passes rfl) (dg (pv 3) (pv 2))))))))),?_⟩;generalize Xn:eI (Vasesd.namedHands w'.name [] hs)=sp at q;left;intro d hd;have YS:upd H d (.dK []) hl=some (.lst (ps.map V.ref)):=by rw[ap (ca Xe hd)];exact Xe
 left;refine lE (xs:=ps.map V.ref) (λj U H'=>bn H H'/\∃kvs x,U=[some (.ref hl),some (.ref wk),some (.ref d),x]/\H' d=some (.dK kvs)/\uO kvs ((hs.take j).map (·.name))/\sp=eI (Vasesd.namedHands w'.name ((hs.take j).map (·.name)) (hs.drop j))) ⟨bn.upd hd,[],none,rfl,bv,zX,Xn.symm⟩ (λi U H' _ h=>h.1 _ _ Xe) ?_ ?_
 .rintro j x U H' hx ⟨sm,kvs,y,rfl,Zd,YM,Xl⟩;obtain⟨p,hp,rfl⟩:=eY hx;obtain⟨n,hn,afl⟩:=hE.get' hp;have ab8:dH a H' p n:=dG a _ _ _ _ sm afl;have hw':dH a H' wk w':=dG a _ _ _ _ sm hw;obtain⟨Xq,Zb,YF⟩:=ab8.obj;obtain⟨XW,abk,aae⟩:=hw'.obj;rw[i7 hn,Ls] at Xl;left;by_cases h1:n.name=w'.name
  .rw[ae h1] at Xl;refine' cX (λ_=>?_) (λz=>absurd (by rw[h1];exact ao rfl) z);rw[Xl] at q;exact fU (Fl.but q sm.but) rfl rfl
  .rw[aa h1] at Xl;refine' cX (λz=>absurd (hG (V.str.inj (ai z))) h1) (λ_=>?_);refine⟨p,d,n,kvs,_,rfl,ab8,Zd,YM,by rw[af,aL];lia,λh2=>?_,λh2 X2 X9=>?_⟩
   .rw[ae h2] at Xl;rw[Xl] at q;exact Fl.but q sm.but
   .rw[aa (by rw[h2];exact aq)] at Xl;refine⟨λc o h=>by rw[ap (ca h hd)];exact sm _ _ h,X2,some (.ref p),rfl,bv,?_,?_⟩
    .rw[eP hn,aD];exact X9
    .rw[eP hn,aD];exact Xl
 .rintro U H' ⟨sm,kvs,y,rfl,Zd,YM,Xl⟩;rw[af,hE.len,bg] at Xl;have:sp=none:=Xl;rw[this] at q;exact q H' sm
noncomputable def n8:Vasesd.RawNode->Option Fault
 | .halt_=>none
 | .send x y _=>if x.name=y.name then some ⟨8,y.place⟩ else none
 | .recv y x _=>if y.name=x.name then some ⟨8,x.place⟩ else none
noncomputable def dI:Vasesd.RawNode->List Vasesd.RawBranch
 | .halt_=>[]
 | .send _ _ bs=>bs
 | .recv _ _ bs=>bs
def TQ(a:dj):Sp:=λvs H Q E=>∃p s,vs=[.ref p]/\kq a H p s/\CB a H Q E (n8 s.2)
theorem CC:ir P w base a.du T.sT 3 (TQ a):=by
 refine T.sT.fn.okX ["state"] λW8 A outer s H vs Q E hr h nd hu W9 th=>?_;intro X;obtain⟨p,st,rfl,⟨dx,pn,d,f,g,pb,bl,ho,hn,Xf⟩,q⟩:=h;refine⟨_,(am (de (PW.pt (l8 (jw (da (pv 0)) (iz T.Ic)) (lM (fM (da (da (pv 0))) (da (da (pv 0))))))) (am (gw T.dL (eE T) T.gy (hr.mono (by decide)) rfl T.fL th rfl (dg (dA T.LZ) (da (da (pv 0)))))) cZ)),?_⟩;unfold iB at ho;by_cases hh:st.2=.halt_
 .rw[hh] at Xf q;obtain⟨rfl,rfl,rfl,_⟩:=Xf;left;refine cX (λz=>absurd z (by rfl')) (λ_=>?_);refine eQ ?_;exact q _ (bn.refl _)
 .obtain⟨x,y,hd,⟨p1,rfl,i1⟩,⟨p2,rfl,i2⟩,q⟩:∃x y,d≠"stop"/\(∃p,f=.ref p/\dH a H p x)/\(∃p,g=.ref p/\dH a H p y)/\CB a H Q E (if x.name=y.name then some ⟨8,y.place⟩ else none):=by
   obtain⟨nm,node⟩:=st;cases node with
   | halt_=>exact absurd rfl hh
   | send x y bs=>obtain⟨h1,h2,h3,_⟩:=Xf;exact⟨x,y,by rw[h1];rfl',h2,h3,q⟩
   | recv x y bs=>obtain⟨h1,h2,h3,_⟩:=Xf;exact⟨x,y,by rw[h1];rfl',h2,h3,q⟩
  obtain⟨Xq,Zb,YF⟩:=i1.obj;obtain⟨XW,abk,aae⟩:=i2.obj;left;refine' cX (λ_=>?_) (λz=>absurd (by simpa using hd) z);by_cases h1:x.name=y.name
  .rw[ae h1] at q;refine' cX (λ_=>?_) (λz=>absurd (by rw[h1];exact ao rfl) z);exact fU q rfl rfl
  .rw[aa h1] at q;refine cX (λz=>absurd (hG (V.str.inj (ai z))) h1) (λ_=>?_);exact q _ (bn.refl _)
def uP(kvs:List (fb×V))(ns:List Bytes):Prop:=(∀b,(ft kvs (.inr (strOf b))).isSome=ns.contains b)/\(ns.Nodup->∀(i:Nat)(b:Bytes),ns[i]?=some b->ft kvs (.inr (strOf b))=some (.int (i:Nat)))/\kvs.length<=ns.length
theorem EB:eI (Vasesd.known ns p)=if ns.contains p.name=true then none else some ⟨6,p.place⟩:=by
 unfold Vasesd.known Vasesd.place;cases e:ns.findIdx? λx=>x==p.name with
 | none=>
  have:ns.contains p.name=false:=by
   rw[List.findIdx?_eq_none_iff] at e;rw[cP,List.any_eq_false];intro x hx;have:=e x hx;rw[Bool.beq_comm] at this;rw[this];exact aq
  rw[this];rfl
 | some i=>
  have:ns.contains p.name=true:=by
   rw[List.findIdx?_eq_some_iff_getElem] at e;obtain⟨h,e1,_⟩:=e;rw[cP,List.any_eq_true];exact⟨ns[i],by simp,by rw[Bool.beq_comm];exact e1⟩
  rw[this];rfl
theorem ES{w:Bytes}{ns bf:List Bytes}{b:Vasesd.RawBranch}{r:List Vasesd.RawBranch}:eI (Vasesd.namedBranches w ns bf (b::r))=if bf.contains b.label.name=true then some ⟨5,b.label.place⟩ else match eI (Vasesd.namedHands w [] b.hands) with
  | some f=>some f
  | none=>match (if ns.contains b.to.name=true then none else some (⟨6,b.to.place⟩:Fault)) with
   | some f=>some f
   | none=>eI (Vasesd.namedBranches w ns (bf++[b.label.name]) r):=by
 show eI (if bf.contains b.label.name=true then _ else _)=_;split
 .rfl
 .rw[←EB];show eI (Vasesd.namedHands w [] b.hands >>= _)=_;cases Vasesd.namedHands w [] b.hands with
  | error f=>rfl
  | ok hs=>
   show eI (Vasesd.known ns b.to >>= _)=_;cases Vasesd.known ns b.to with
   | error f=>rfl
   | ok t=>
    show eI (Vasesd.namedBranches w ns (bf++[b.label.name]) r >>= _)=_;cases Vasesd.namedBranches w ns (bf++[b.label.name]) r<;>rfl
def Vh(a:dj):Sp:=λvs H Q E=>∃p wk d s w kvs ns,vs=[.ref p,.ref wk,.ref d]/\kq a H p s/\dH a H wk w/\H d=some (.dK kvs)/\uP kvs ns/\(dI s.2).length<=4097/\(∀b∈dI s.2,b.hands.length<=4097)/\CB a H Q E (eI (Vasesd.namedBranches w.name ns [] (dI s.2)))
theorem zo.list(h:zo a G d f g pb n):IsList (jZ a) G pb (dI n):=by
 cases n with
 | halt_=>exact h.2.2.2
 | send x y bs=>exact h.2.2.2
 | recv x y bs=>exact h.2.2.2
theorem yB:ir P w base a.du T.m3 5 (Vh a):=by
 refine T.m3.fn.okX ["state","worker","numbers","earlier","branch"] λW8 A outer s H vs Q E hr h nd hu W9 th=>?_;intro X;obtain⟨p,wk,dn,st,w',kn,ns,rfl,⟨dx,pn,d0,f,g,pb,bl,ho,hn,Xf⟩,hw,Z9,XM,hlen,aaf,q⟩:=h;refine⟨_,(ad (dz 3 nd (uA)) (am (fv PassesOwn.leaving rfl (eW (da (pv 0))) (gh 4 nd) (ad (dB (df T.ol (p5 T) hr (th.passes rfl) (dg (da (pv 4)) (pv 3)))) (ad (dB (df T.qj (Bh T) hr (th.passes rfl) (dg (da (pv 4)) (pv 1)))) (am (dB (df T.jH (mJ T) hr (th.passes rfl) (dg (da (pv 4)) (pv 2)))))))))),?_⟩;obtain⟨ps,Xe,hE⟩:=Xf.list;unfold iB at ho;generalize dI st.2=bs at hE hlen aaf q;generalize Xn:eI (Vasesd.namedBranches w'.name ns [] bs)=sp at q;left;intro d hd;have YF:upd H d (.dK []) p=some (.ins a.ge dx [("name",.ref pn),("deed",.str d0),("first",f),("second",g),("branches",.ref pb),("by_label",.ref bl)]):=by rw[ap (ca ho hd)];exact ho
 have YS:upd H d (.dK []) pb=some (.lst (ps.map V.ref)):=by rw[ap (ca Xe hd)];exact Xe
 left;refine lE (xs:=ps.map V.ref) (λj U H'=>bn H H'/\∃kvs x,U=[some (.ref p),some (.ref wk),some (.ref dn),some (.ref d),x]/\H' d=some (.dK kvs)/\uO kvs ((bs.take j).map (·.label.name))/\sp=eI (Vasesd.namedBranches w'.name ns ((bs.take j).map (·.label.name)) (bs.drop j))) ⟨bn.upd hd,[],none,rfl,bv,zX,Xn.symm⟩ (λi U H' _ h=>h.1 _ _ Xe) ?_ ?_
 .rintro j x U H' hx ⟨sm,kvs,y,rfl,Zd,YM,Xl⟩;obtain⟨ZN,hp,rfl⟩:=eY hx;obtain⟨b,hb,Yj,pl,Xi,ph,pt,n,gg,Ya,Xs⟩:=hE.get' hp;have Y0:=aJ hb;have aaP:=sm _ _ Ya;have acB:=Xs.same sm;unfold i6 at aaP;rw[i7 hb,ES] at Xl;left;refine⟨pl,d,b.label,kvs,_,rfl,acB.label,Zd,YM,by rw[af,aL];lia,λh2=>?_,λh2 X2 X9=>?_⟩
  .rw[ae h2] at Xl;rw[Xl] at q;exact Fl.but q sm.but
  .rw[aa (by rw[h2];exact aq)] at Xl;have Xm:bn H (upd H' d (.dK X2)):=λc o h=>by rw[ap (ca h hd)];exact sm _ _ h
   have YX:upd H' d (.dK X2) d=some (.dK X2):=bv;generalize upd H' d (.dK X2)=H1 at Xm YX;have acC:=Xm _ _ Ya;have aaQ:=Xs.same Xm;unfold i6 at acC;left;refine⟨ph,wk,b.hands,w',rfl,aaQ.handed,dG a _ _ _ _ Xm hw,aaf b Y0,?_⟩;cases e1:eI (Vasesd.namedHands w'.name [] b.hands) with
   | some fa=>
    rw[e1] at Xl;rw[Xl] at q;exact Fl.but q Xm.but
   | none=>
    rw[e1] at Xl;dsimp only at Xl;intro H2 s2;have aaR:=s2 _ _ acC;have abB:=aaQ.same s2;left;refine⟨pt,dn,b.to,kn,rfl,abB.target,s2 _ _ (Xm _ _ Z9),?_⟩;rw[XM.1];cases e2:ns.contains b.to.name with
    | false=>
     rw[e2,aa aq] at Xl;rw[Xl] at q;exact Fl.but q (Xm.trans s2).but
    | true=>
     rw[e2,ae rfl] at Xl;intro H3 s3;refine⟨Xm.trans (s2.trans s3),X2,some (.ref ZN),rfl,s3 _ _ (s2 _ _ YX),?_,?_⟩
     .rw[eP hb,aD];exact X9
     .rw[eP hb,aD];exact Xl
 .rintro U H' ⟨sm,kvs,y,rfl,Zd,YM,Xl⟩;rw[af,hE.len,bg] at Xl;have:sp=none:=Xl;rw[this] at q;exact q H' sm
theorem IO{w:Bytes}{ns bf:List Bytes}{s:PName×Vasesd.RawNode}{r:List (PName×Vasesd.RawNode)}:eI (Vasesd.namedStates w ns bf (s::r))=if bf.contains s.1.name=true then some ⟨5,s.1.place⟩ else match n8 s.2 with
  | some f=>some f
  | none=>match eI (Vasesd.namedBranches w ns [] (dI s.2)) with
   | some f=>some f
   | none=>eI (Vasesd.namedStates w ns (bf++[s.1.name]) r):=by
 obtain⟨s,b⟩:=s;show eI (if bf.contains s.name=true then _ else _)=_;split
 .rfl
 .show eI (Vasesd.namedNode w ns b >>= _)=_;have rest:∀node,eI ((Except.ok node:Except Fault Vasesd.Node) >>= λnode=>Vasesd.namedStates w ns (bf++[s.name]) r >>= λrest=>.ok ((s.name,node)::rest))=eI (Vasesd.namedStates w ns (bf++[s.name]) r):=λnode=>by
   show eI (Vasesd.namedStates w ns (bf++[s.name]) r >>= _)=_;cases Vasesd.namedStates w ns (bf++[s.name]) r<;>rfl
  cases b with
  | halt_=>exact rest _
  | send x y bs=>
   show eI ((if x.name=y.name then _ else _) >>= _)=_;unfold n8 dI;dsimp only;by_cases h:x.name=y.name
   .rw[ae h,ae h];rfl
   .rw[aa h,aa h];dsimp only;cases Vasesd.namedBranches w ns [] bs with
    | error f=>rfl
    | ok l=>exact rest _
  | recv x y bs=>
   show eI ((if x.name=y.name then _ else _) >>= _)=_;unfold n8 dI;dsimp only;by_cases h:x.name=y.name
   .rw[ae h,ae h];rfl
   .rw[aa h,aa h];dsimp only;cases Vasesd.namedBranches w ns [] bs with
    | error f=>rfl
    | ok l=>exact rest _
def G4(r:Vasesd.Raw):Prop:=r.states.length<=64/\∀s∈r.states,(dI s.2).length<=16/\∀b∈dI s.2,b.hands.length<=2
theorem Nr:eI (Vasesd.named r)=match (if(r.states.map λs=>s.1.name).contains r.start.name=true then none else some (⟨6,r.start.place⟩:Fault)) with
  | some f=>some f
  | none=>eI (Vasesd.namedStates r.worker.name (r.states.map λs=>s.1.name) [] r.states):=by
 rw[←EB];show eI (Vasesd.known (r.states.map λs=>s.1.name) r.start >>= _)=_;cases Vasesd.known (r.states.map λs=>s.1.name) r.start with
 | error f=>rfl
 | ok t=>
  show eI (Vasesd.namedStates r.worker.name (r.states.map λs=>s.1.name) [] r.states >>= _)=_;cases Vasesd.namedStates r.worker.name (r.states.map λs=>s.1.name) [] r.states<;>rfl
def TR(a:dj):Sp:=λvs H Q E=>∃p d r kvs,vs=[.ref p,.ref d]/\nv a H p r/\H d=some (.dK kvs)/\uP kvs (r.states.map λs=>s.1.name)/\G4 r/\CB a H Q E (eI (Vasesd.named r))
theorem CD:ir P w base a.du T.sV 6 (TR a):=by
 refine T.sV.fn.okX ["part","numbers","earlier","state"] λW8 A outer s H vs Q E hr h nd hu W9 th=>?_;intro X;obtain⟨p,dn,r,kn,rfl,⟨dx,pt,pw,Xi,Xk,fm,ho,Yk⟩,Z9,XM,hlen,q⟩:=h;refine⟨_,(ad (dB (df T.jH (mJ T) hr (th.passes rfl) (dg (da (pv 0)) (pv 1)))) (ad (dz 2 nd (uA)) (am (fv PassesOwn.leaving rfl (eW (da (pv 0))) (gh 3 nd) (ad (dB (df T.ol (p5 T) hr (th.passes rfl) (dg (da (pv 3)) (pv 2)))) (ad (dB (df T.sT (CC T) hr (th.passes rfl) (dq (pv 3)))) (am (dB (df T.m3 (yB T) hr (th.passes rfl) (db (pv 3) (dg (da (pv 0)) (pv 1)))))))))))),?_⟩;unfold pZ at ho;obtain⟨ps,Xe,hE⟩:=Yk.states;rw[Nr] at q;left;refine⟨Xi,dn,r.start,kn,rfl,Yk.start,Z9,?_⟩;rw[XM.1];cases e0:(r.states.map λs=>s.1.name).contains r.start.name with
 | false=>
  rw[e0,aa aq] at q;exact q
 | true=>
  rw[e0,ae rfl] at q;dsimp only at q;intro H0 s0;generalize Xn:eI (Vasesd.namedStates r.worker.name (r.states.map λs=>s.1.name) [] r.states)=sp at q;left;intro d hd;have Yb:bn H (upd H0 d (.dK [])):=s0.trans (bn.upd hd);have YF:=Yb _ _ ho;have YS:=Yb _ _ Xe;have nd0:H d=none:=s0.free hd;left;refine lE (xs:=ps.map V.ref) (λj U H'=>bn H H'/\∃kvs x,U=[some (.ref p),some (.ref dn),some (.ref d),x]/\H' d=some (.dK kvs)/\uO kvs ((r.states.take j).map (·.1.name))/\sp=eI (Vasesd.namedStates r.worker.name (r.states.map λs=>s.1.name) ((r.states.take j).map (·.1.name)) (r.states.drop j))) ⟨Yb,[],none,rfl,bv,zX,Xn.symm⟩ (λi U H' _ h=>h.1 _ _ Xe) ?_ ?_
  .rintro j x U H' hx ⟨sm,kvs,y,rfl,Zd,YM,Xl⟩;obtain⟨Yc,hp,rfl⟩:=eY hx;obtain⟨st,hb,Xf⟩:=hE.get' hp;have Y0:=aJ hb;have agM:=ju a _ _ _ _ sm Xf;obtain⟨Y1,pn,d0,f,g,pb,bl,aeb,Z8,hsn⟩:=id agM;unfold iB at aeb;rw[i7 hb,IO] at Xl;left;refine⟨pn,d,st.1,kvs,_,rfl,Z8,Zd,YM,by rw[af,aL];have:=hlen.1;lia,λh2=>?_,λh2 X2 X9=>?_⟩
   .rw[ae h2] at Xl;rw[Xl] at q;exact Fl.but q sm.but
   .rw[aa (by rw[h2];exact aq)] at Xl;have Xm:bn H (upd H' d (.dK X2)):=λc o h=>(by rw[ap (ca h nd0)];exact sm _ _ h);have YX:upd H' d (.dK X2) d=some (.dK X2):=bv;generalize upd H' d (.dK X2)=H1 at Xm YX;left;refine⟨Yc,st,rfl,ju a _ _ _ _ Xm Xf,?_⟩;cases e1:n8 st.2 with
    | some fa=>
     rw[e1] at Xl;rw[Xl] at q;exact Fl.but q Xm.but
    | none=>
     rw[e1] at Xl;dsimp only at Xl;intro H2 s2;have XB:=Xm.trans s2;have aae:=XB _ _ ho;left;refine⟨Yc,pw,dn,st,r.worker,kn,_,rfl,ju a _ _ _ _ XB Xf,dG a _ _ _ _ XB Yk.worker,XB _ _ Z9,XM,by have:=(hlen.2 st Y0).1;lia,λb hb=>by have:=(hlen.2 st Y0).2 b hb;lia,?_⟩;cases e2:eI (Vasesd.namedBranches r.worker.name (r.states.map λs=>s.1.name) [] (dI st.2)) with
     | some fa=>
      rw[e2] at Xl;rw[Xl] at q;exact Fl.but q XB.but
     | none=>
      rw[e2] at Xl;intro H3 s3;refine⟨XB.trans s3,X2,some (.ref Yc),rfl,s3 _ _ (s2 _ _ YX),?_,?_⟩
      .rw[eP hb,aD];exact X9
      .rw[eP hb,aD];exact Xl
  .rintro U H' ⟨sm,kvs,y,rfl,Zd,YM,Xl⟩;rw[af,hE.len,bg] at Xl;have:sp=none:=Xl;rw[this] at q;exact q H' sm
section
theorem OI:uP [] []:=⟨λ_=>rfl,λ_ i b h=>by simp at h,ah _⟩
theorem uP.put(h:uP kvs ns)(n:Bytes):uP (jS kvs (.inr (strOf n)) (.int (ns.length:Nat))) (ns++[n]):=by
 refine⟨λb=>?_,λZi i b hi=>?_,by have:=G3 (kvs:=kvs) (k:=.inr (strOf n)) (v:=.int (ns.length:Nat));rw[aC,bN];have:=h.2.2;lia⟩
 .rw[zR];by_cases e:b=n
  .subst e;simp
  .rw[aa (λz=>e (hG (Sum.inr.inj z))),h.1];simp[e]
 .obtain⟨n1,n2,n3⟩:=List.nodup_append.mp Zi;rw[zR];by_cases Xg:i<ns.length
  .rw[cK Xg] at hi;have:b≠n:=λe=>n3 b (aJ hi) n (by simp) e;rw[aa (λz=>this (hG (Sum.inr.inj z)))];exact h.2.1 n1 i b hi
  .rw[cj (by lia)] at hi;have aec:i-ns.length=0:=by
    have:=(ax.mp hi).1;simp at this
    lia
   rw[aec] at hi;simp at hi;subst hi;have:i=ns.length:=by lia
   rw[ae rfl,this]
def Vi(a:dj):Sp:=λvs H Q _=>∃p r,vs=[.ref p]/\nv a H p r/\r.states.length<=5000/\∀d H' kvs,H d=none->bn H H'->H' d=some (.dK kvs)->uP kvs (r.states.map λs=>s.1.name)->Q (.ref d) H'
theorem zY:fc P w base T.oO 1 (Vi a):=by
 specialize T.oO.fn.okN ["part","numbers","number","state"];obtain⟨p,r,rfl,⟨dx,pt,pw,Xi,Xk,fm,ho,Yk⟩,hlen,q⟩:=h;refine⟨_,(ad (dz 1 nd (uA)) (ad (fv PassesOwn.never rfl (J0 rfl T.zH (dq (da (pv 0)))) (wj rfl (jd (gh 2 nd) (jd (gh 3 nd) sY))) (am (JY hu (pv 1) (da (da (pv 3))) (pv 2) rfl))) (am (bi (pv 1))))),?_⟩;unfold pZ at ho;obtain⟨ps,Xe,hE⟩:=Yk.states;left;intro d hd;have Yb:bn H (upd H d (.dK [])):=bn.upd hd;have YF:=Yb _ _ ho;have YS:=Yb _ _ Xe;left;refine Si (xs:=ps.map V.ref) (λj U H'=>bn H H'/\∃kvs x y,U=[some (.ref p),some (.ref d),x,y]/\H' d=some (.dK kvs)/\uP kvs ((r.states.take j).map (·.1.name))) ⟨Yb,[],none,none,rfl,bv,OI⟩ (λi U H' _ h=>h.1 _ _ Xe) ?_ ?_
 .rintro j x tp U H' hx ⟨sm,kvs,y,z,rfl,Zd,XM⟩ Yw;obtain⟨Yc,hp,rfl⟩:=eY hx;obtain⟨st,hb,Xf⟩:=hE.get' hp;have hj:j<r.states.length:=(ax.mp hb).1;have s1:bn H (upd H' tp (.tup [.int (j:Nat),.ref Yc])):=sm.trans (bn.upd Yw);have YX:upd H' tp (.tup [.int (j:Nat),.ref Yc]) d=some (.dK kvs):=bn.upd Yw _ _ Zd;have Ys:upd H' tp (.tup [.int (j:Nat),.ref Yc]) tp=some (.tup [.int (j:Nat),.ref Yc]):=bv;generalize upd H' tp (.tup [.int (j:Nat),.ref Yc])=H1 at s1 YX Ys;obtain⟨Y1,pn,d0,f,g,pb,bl,aeb,Z8,hsn⟩:=ju a _ _ _ _ s1 Xf;unfold iB at aeb;obtain⟨aag,aah,abl⟩:=Z8.obj;left;refine' tF Ys ?_;refine J9 YX (aN (m:=5000) (by have:=XM.2.2;rw[af,aL] at this;lia) (by decide)) ?_;refine⟨λc o h=>by rw[ap (ca h hd)];exact s1 _ _ h,_,some (.int (j:Nat)),some (.ref Yc),rfl,bv,?_⟩;have hl:((r.states.take j).map (·.1.name)).length=j:=by rw[af,aL];lia
  have:=XM.put st.1.name;rw[hl] at this;rw[eP hb,aD];exact this
 .rintro U H' ⟨sm,kvs,y,z,rfl,Zd,XM⟩;left;rw[af,hE.len,aQ] at XM;exact q d H' kvs hd sm Zd XM
def uc(a:dj)(G:Hp)(p:cS)(k:Str):Prop:=∃dx pl ps ph pt n g nm,G p=some (.ins a.eM dx (i6 pl ps ph pt n g))/\dH a G pl nm/\k=strOf nm.name
def Vj(a:dj):Sp:=λvs H Q _=>∃p k,vs=[.ref p]/\uc a H p k/\Q (.str k) H
theorem IQ:fc P w base T.Ai 1 (Vj a):=by
 specialize T.Ai.fn.okN ["branch"];obtain⟨p,k,rfl,⟨dx,pl,ps,ph,pt,n,g,nm,ho,hn,rfl⟩,q⟩:=h;refine⟨_,(am (bi (da (da (pv 0))))),?_⟩;unfold i6 at ho;obtain⟨aag,aah,abl⟩:=hn.obj;left;exact q
def Bi(a:dj)(G:Hp)(pb bl:cS):Prop:=∃(ps:List cS)(kz:List Str)(zs:List (Str×cS)),G pb=some (.lst (ps.map V.ref))/\kz.length=ps.length/\(∀(i:Nat)(p:cS)(k:Str),ps[i]?=some p->kz[i]?=some k->uc a G p k)/\
 zs.Perm (kz.zip ps)/\zs.Pairwise (λp q=>decide (q.1.cps.toList<p.1.cps.toList)=false)/\G bl=some (.lst (zs.map λz=>V.ref z.2))
def fP(a:dj)(ns:List Bytes)(G G':Hp):Prop:=∀b o,G b=some o->G' b=some o∨
 (∃dx pl ps ph pt n g nm,∃i:Nat,o=.ins a.eM dx (i6 pl ps ph pt n g)/\dH a G' pt nm/\ns[i]?=some nm.name/\G' b=some (.ins a.eM dx (i6 pl ps ph pt n (i:Nat))))∨
 (∃dx pn d f s pb bl Ym,o=.ins a.ge dx (iB pn d f s pb bl)/\G' b=some (.ins a.ge dx (iB pn d f s pb Ym))/\Bi a G' pb Ym)
section
variable{ns:List Bytes}{G G' G2:Hp}
theorem fP.refl:fP a ns G G:=λb o h=>.inl h
theorem bn.lnk(h:bn G G'):fP a ns G G':=λb o e=>.inl (h b o e)
theorem fP.lst(h:fP a ns G G')(e:G b=some (.lst xs)):G' b=some (.lst xs):=by
 rcases h b _ e with z|⟨_,_,_,_,_,_,_,_,_,z,_⟩|⟨_,_,_,_,_,_,_,_,z,_⟩
 .exact z
 .cases z
 .cases z
theorem fP.tup(h:fP a ns G G')(e:G b=some (.tup xs)):G' b=some (.tup xs):=by
 rcases h b _ e with z|⟨_,_,_,_,_,_,_,_,_,z,_⟩|⟨_,_,_,_,_,_,_,_,z,_⟩
 .exact z
 .cases z
 .cases z
theorem fP.ins(h:fP a ns G G')(hl:fs.length≠6)(e:G b=some (.ins C dx fs)):G' b=some (.ins C dx fs):=by
 rcases h b _ e with z|⟨_,_,_,_,_,_,_,_,_,z,_⟩|⟨_,_,_,_,_,_,_,_,z,_⟩
 .exact z
 .injection z with _ _ z;exact absurd (by rw[z];rfl) hl
 .injection z with _ _ z;exact absurd (by rw[z];rfl) hl
theorem fP.tok(h:fP a ns G G')(x:gp a G p t):gp a G' p t:=by
 obtain⟨wf,dx,c,be,e,hc⟩:=x;refine⟨wf,dx,c,be,h.ins (by show 4≠6;decide) e,?_⟩;cases hk:t.tok with
 | text b=>rw[hk] at hc;obtain⟨q,e1,e2⟩:=hc;exact⟨q,e1,h.tup e2⟩
 | _=>rw[hk] at hc;exact hc
theorem fP.name(h:fP a ns G G')(x:dH a G p n):dH a G' p n:=h.tok x
theorem fP.span(h:fP a ns G G')(x:fE a G p r):fE a G' p r:=by
 obtain⟨wf,dx,e⟩:=x;refine⟨wf,dx,?_⟩;cases r<;>exact h.ins (by show 3≠6;decide) e
theorem dX.imp{α:Type}{P Q:Hp->cS->α->Prop}{ps:List cS}{xs:List α}(e:dX P G ps xs)(h:∀p x,P G p x->Q G' p x):dX Q G' ps xs:=by
 unfold dX at *
 induction e with
 | nil=>exact .nil
 | cons a _ ih=>exact .cons (h _ _ a) ih
theorem fP.list{α:Type}{P Q:Hp->cS->α->Prop}(h:fP a ns G G')(hp:∀p x,P G p x->Q G' p x){l:cS}{xs:List α}(x:IsList P G l xs):IsList Q G' l xs:=by
 obtain⟨ps,e,he⟩:=x;exact⟨ps,h.lst e,he.imp hp⟩
theorem fP.brR(h:fP a ns G G')(x:Ez a G pl ps ph pt n b):Ez a G' pl ps ph pt n b:=
 ⟨h.name x.label,h.list (λ_ _=>h.span) x.spans,h.list (λ_ _=>h.name) x.handed,h.name x.target,x.len,x.many⟩
theorem Ki(h:i6 pl ps ph pt n g=i6 aed ZO aee aef n' g'):pl=aed/\ps=ZO/\ph=aee/\pt=aef/\n=n'/\g=g':=by
 unfold i6 at h;simp at h;exact h
theorem G5:i6 pl ps ph pt n g≠iB pn d f s pb bl:=by
 unfold i6 iB;intro h;injection h with h _;injection h with h _;exact absurd h (by rfl')
theorem fP.br(h:fP a ns G G')(e:G p=some (.ins a.eM dx (i6 pl ps ph pt n g))):∃g',G' p=some (.ins a.eM dx (i6 pl ps ph pt n g'))/\(g'=g∨∃(nm:PName)(i:Nat),dH a G' pt nm/\ns[i]?=some nm.name/\g'=(i:Nat)):=by
 rcases h p _ e with z|⟨Yf,aed,ZO,aee,aef,n',g',nm,i,z,hn,hi,z2⟩|⟨_,_,_,_,_,_,_,_,z,_⟩
 .exact⟨g,z,.inl rfl⟩
 .injection z with _ e1 e2;obtain⟨rfl,rfl,rfl,rfl,rfl,rfl⟩:=Ki e2;subst e1;exact⟨_,z2,.inr ⟨nm,i,hn,hi,rfl⟩⟩
 .injection z with _ _ z;exact absurd z G5
theorem fP.isBrR(h:fP a ns G G')(x:jZ a G p b):jZ a G' p b:=by
 obtain⟨dx,pl,ps,ph,pt,n,g,e,hb⟩:=x;obtain⟨g',e',_⟩:=h.br e;exact⟨dx,pl,ps,ph,pt,n,g',e',h.brR hb⟩
def yn(a:dj)(ns:List Bytes)(G:Hp)(p:cS)(b:Vasesd.RawBranch):Prop:=∃dx pl ps ph pt n,∃i:Nat,G p=some (.ins a.eM dx (i6 pl ps ph pt n (i:Nat)))/\Ez a G pl ps ph pt n b/\ns[i]?=some b.to.name
theorem EC(x:dH a G p n)(y:dH a G p m):n.name=m.name:=by
 obtain⟨_,_,h1⟩:=x.obj;obtain⟨_,_,h2⟩:=y.obj;rw[h1] at h2;simp at h2;exact hG h2.2.1
theorem fP.isBrM(h:fP a ns G G')(x:yn a ns G p b):yn a ns G' p b:=by
 obtain⟨dx,pl,ps,ph,pt,n,i,e,hb,hi⟩:=x;obtain⟨g',e',hg⟩:=h.br e;rcases hg with rfl|⟨nm,j,hn,hj,rfl⟩
 .exact⟨dx,pl,ps,ph,pt,n,i,e',h.brR hb,hi⟩
 .exact⟨dx,pl,ps,ph,pt,n,j,e',h.brR hb,by rw[hj,EC hn (h.name hb.target)]⟩
theorem fP.labelOf(h:fP a ns G G')(x:uc a G p k):uc a G' p k:=by
 obtain⟨dx,pl,ps,ph,pt,n,g,nm,e,hn,rfl⟩:=x;obtain⟨g',e',_⟩:=h.br e;exact⟨dx,pl,ps,ph,pt,n,g',nm,e',h.name hn,rfl⟩
theorem fP.byL(h:fP a ns G G')(x:Bi a G pb bl):Bi a G' pb bl:=by
 obtain⟨ps,kz,zs,e1,e2,e3,e4,e5,e6⟩:=x;exact⟨ps,kz,zs,h.lst e1,e2,λi p k hp hk=>h.labelOf (e3 i p k hp hk),e4,e5,h.lst e6⟩
theorem fP.stN(h:fP a ns G G')(x:zo a G d f s pb n):zo a G' d f s pb n:=by
 have nm:∀{v:V} {y:PName},(∃p,v=.ref p/\dH a G p y)->∃p,v=.ref p/\dH a G' p y:=λ⟨p,e,z⟩=>⟨p,e,h.name z⟩;cases n with
 | halt_=>obtain⟨h1,h2,h3,h4⟩:=x;exact⟨h1,h2,h3,h.list (λ_ _=>h.isBrR) h4⟩
 | send y z bs=>obtain⟨h1,h2,h3,h4⟩:=x;exact⟨h1,nm h2,nm h3,h.list (λ_ _=>h.isBrR) h4⟩
 | recv y z bs=>obtain⟨h1,h2,h3,h4⟩:=x;exact⟨h1,nm h2,nm h3,h.list (λ_ _=>h.isBrR) h4⟩
theorem QI(h:iB pn d f s pb bl=iB afS d' f' s' afT Ym):pn=afS/\d=d'/\f=f'/\s=s'/\pb=afT/\bl=Ym:=by
 unfold iB at h;simp at h;exact h
theorem fP.st(h:fP a ns G G')(e:G p=some (.ins a.ge dx (iB pn d f s pb bl))):∃Ym,G' p=some (.ins a.ge dx (iB pn d f s pb Ym))/\(Ym=bl∨Bi a G' pb Ym):=by
 rcases h p _ e with z|⟨_,_,_,_,_,_,_,_,_,z,_⟩|⟨Yf,afS,d',f',s',afT,afU,Yn,z,z2,hb⟩
 .exact⟨bl,z,.inl rfl⟩
 .injection z with _ _ z;exact absurd z.symm G5
 .injection z with _ e1 e2;obtain⟨rfl,rfl,rfl,rfl,rfl,rfl⟩:=QI e2;subst e1;exact⟨Yn,z2,.inr hb⟩
theorem fP.isStR(h:fP a ns G G')(x:kq a G p s):kq a G' p s:=by
 obtain⟨dx,pn,d,f,g,pb,bl,e,hn,hs⟩:=x;obtain⟨Ym,e',_⟩:=h.st e;exact⟨dx,pn,d,f,g,pb,Ym,e',h.name hn,h.stN hs⟩
def Bj(a:dj)(ns:List Bytes)(G:Hp)(p:cS)(s:PName×Vasesd.RawNode):Prop:=∃dx pn d f g pb bl,G p=some (.ins a.ge dx (iB pn d f g pb bl))/\dH a G pn s.1/\zo a G d f g pb s.2/\IsList (yn a ns) G pb (dI s.2)/\Bi a G pb bl
theorem fP.isStM(h:fP a ns G G')(x:Bj a ns G p s):Bj a ns G' p s:=by
 obtain⟨dx,pn,d,f,g,pb,bl,e,hn,hs,hl,hb⟩:=x;obtain⟨Ym,e',Xp⟩:=h.st e;refine⟨dx,pn,d,f,g,pb,Ym,e',h.name hn,h.stN hs,h.list (λ_ _=>h.isBrM) hl,?_⟩;rcases Xp with rfl|Xp
 .exact h.byL hb
 .exact Xp
theorem fP.trans(h1:fP a ns G G')(h2:fP a ns G' G2):fP a ns G G2:=λb o e=>by
 rcases h1 b o e with z|⟨dx,pl,ps,ph,pt,n,g,nm,i,rfl,hn,hi,z⟩|⟨dx,pn,d,f,s,pb,bl,Ym,rfl,z,hb⟩
 .exact h2 b o z
 .obtain⟨g',e',hg⟩:=h2.br z;rcases hg with rfl|⟨nm',j,Zg,hj,rfl⟩
  .exact .inr (.inl ⟨dx,pl,ps,ph,pt,n,g,nm,i,rfl,h2.name hn,hi,e'⟩)
  .exact .inr (.inl ⟨dx,pl,ps,ph,pt,n,g,nm',j,rfl,Zg,hj,e'⟩)
 .obtain⟨Yn,e',Xp⟩:=h2.st z;rcases Xp with rfl|Xp
  .exact .inr (.inr ⟨dx,pn,d,f,s,pb,bl,_,rfl,e',h2.byL hb⟩)
  .exact .inr (.inr ⟨dx,pn,d,f,s,pb,bl,Yn,rfl,e',Xp⟩)
end
theorem yo{α:Type}{P:Hp->cS->α->Prop}{G:Hp}:∀{ps:List cS} {xs:List α},ps.length=xs.length->(∀(i:Nat)(p:cS)(x:α),ps[i]?=some p->xs[i]?=some x->P G p x)->dX P G ps xs
 | [],[],_,_=>.nil
 | p::ps,x::xs,hl,h=>.cons (h 0 p x rfl rfl) (yo (by simpa using hl) λi p x hp hx=>h (i+1) p x (by simpa using hp) (by simpa using hx))
theorem zu:∀{l:List β} {m:List β},l.Perm m->∀{xs:List α},m=xs.map f->∃ys:List α,l=ys.map f/\ys.Perm xs:=by
 intro l m h
 induction h with
 | nil=>intro xs e;cases xs with|nil=>exact⟨[],rfl,.nil⟩|cons a r=>cases e
 | cons x h ih=>
  intro xs e;cases xs with
  | nil=>cases e
  | cons a r=>
   injection e with e1 e2;obtain⟨ys,e3,p⟩:=ih e2;exact⟨a::ys,by rw[ay,e1,e3],p.cons a⟩
 | swap x y l=>
  intro xs e;cases xs with
  | nil=>cases e
  | cons a r=>
   cases r with
   | nil=>injection e with _ e;cases e
   | cons b r=>
    injection e with e1 e2;injection e2 with e2 e3;exact⟨b::a::r,by rw[ay,ay,e1,e2,e3],List.Perm.swap a b r⟩
 | trans h1 h2 adV adW=>
  intro xs e;obtain⟨ys,e1,p1⟩:=adW e;obtain⟨zs,e2,p2⟩:=adV e1;exact⟨zs,e2,p2.trans p1⟩
def Su(sp:Sp)(Q:VK)(vs:List V)(H1:Hp):Prop:=∃(a:cS)(xs:List V)(kz:List Str),vs=[.ref a]/\H1 a=some (.lst xs)/\kz.length=xs.length/\xs.length<=5000/\
 (∀(i:Nat)(v:V)(k:Str),xs[i]?=some v->kz[i]?=some k->sp [v] H1 (λy H'=>y=.str k/\H'=H1) E0)/\
 ∀(ps:List (Str×V))(p:cS),ps.Perm (kz.zip xs)->ps.Pairwise (λp q=>decide (q.1.cps.toList<p.1.cps.toList)=false)->H1 p=none->Q (.ref p) (upd H1 p (.lst (ps.map Prod.snd)))
theorem QJ(h:t U H (Su sp Q)):Na sp t U H Q:=h
def p8(W:cS->Prop)(H H':Hp):Prop:=∀b o,H b=some o->W b->H' b=some o
theorem p8.refl:p8 W H H:=λ_ _ h _=>h
theorem p8.trans(h:p8 W H H1)(h':p8 W H1 H2):p8 W H H2:=λb o e w=>h' b o (h b o e w) w
theorem p8.dom(h:p8 W H H')(D:fT W H):fT W H':=λb w e=>by
 cases q:H b with
 | none=>exact D b w q
 | some o=>rw[h b o q w] at e;cases e
theorem bn.wst(h:bn H H'):p8 W H H':=λb o e _=>h b o e
theorem Kj(nw:¬W p)(h:∀u,H p=some u->u=o∨(∃dx pl ps ph pt n g nm,∃i:Nat,u=.ins a.eM dx (i6 pl ps ph pt n g)/\dH a (dv W (upd H p o)) pt nm/\ns[i]?=some nm.name/\o=.ins a.eM dx (i6 pl ps ph pt n (i:Nat)))∨(∃dx pn d f s pb bl Ym,u=.ins a.ge dx (iB pn d f s pb bl)/\o=.ins a.ge dx (iB pn d f s pb Ym)/\Bi a (dv W (upd H p o)) pb Ym)):fP a ns (dv W H) (dv W (upd H p o))/\p8 W H (upd H p o):=by
 refine⟨λb u e=>?_,λb u e w=>?_⟩
 .obtain⟨e,n⟩:=dW e;by_cases hb:b=p
  .subst hb;have same:dv W (upd H b o) b=some o:=dQ bv n;rcases h u e with rfl|⟨dx,pl,ps,ph,pt,n',g,nm,i,z1,z2,z3,rfl⟩|⟨dx,pn,d,f,s,pb,bl,Ym,z1,rfl,z2⟩
   .exact .inl same
   .exact .inr (.inl ⟨dx,pl,ps,ph,pt,n',g,nm,i,z1,z2,z3,same⟩)
   .exact .inr (.inr ⟨dx,pn,d,f,s,pb,bl,Ym,z1,same,z2⟩)
  .exact .inl (dQ (by rw[ap hb];exact e) n)
 .have hb:b≠p:=λz=>nw (z▸w);rw[ap hb];exact e
def Vk(a:dj):Sp:=λvs H Q _=>∃W p d s kvs ns,vs=[.ref p,.ref d]/\fT W H/\kq a (dv W H) p s/\H d=some (.dK kvs)/\uP kvs ns/\ns.Nodup/\(∀b∈dI s.2,b.to.name∈ns)/\(dI s.2).length<=4097/\
 ∀H',p8 W H H'->fP a ns (dv W H) (dv W H')->H' d=some (.dK kvs)->Bj a ns (dv W H') p s->Q .non H'
theorem QK:fc P w base T.Pf 4 (Vk a):=by
 specialize T.Pf.fn.okN ["state","numbers","branch"];obtain⟨W,p,d,st,kvs,ns,rfl,D,⟨dx,pn,d0,f,g,pb,bl,ho,hn,Xf⟩,hd,XM,Zi,aeg,hlen,q⟩:=h;refine⟨_,(ad (fv PassesOwn.never rfl (eW (da (pv 0))) (gh 2 nd) (am (fR (pv 2) (Qs hu (pv 1) (da (da (pv 2))) (λ_ _=>rfl))))) (am (fR (pv 0) (La T.Ai (IQ T) hr T.Pb (dq (da (pv 0))))))),?_⟩;obtain⟨ps,Xe,hE⟩:=Xf.list;have X8:=(dW ho).1;have acD:=(dW Xe).1;unfold iB at X8;left;refine lE (xs:=ps.map V.ref) (λj U H'=>p8 W H H'/\fP a ns (dv W H) (dv W H')/\H' d=some (.dK kvs)/\(∃x,U=[some (.ref p),some (.ref d),x])/\∀(i:Nat)(p:cS)(b:Vasesd.RawBranch),i<j->ps[i]?=some p->(dI st.2)[i]?=some b->yn a ns (dv W H') p b)
  ⟨p8.refl,fP.refl,hd,⟨none,rfl⟩,λi _ _ h=>by lia⟩ (λi U H' _ h=>(dW (h.2.1.lst Xe)).1) ?_ ?_
 .rintro j x U H' hx ⟨ws,lk,XF,⟨y,rfl⟩,X1⟩;obtain⟨ZN,hp,rfl⟩:=eY hx;obtain⟨b,hb,Xs⟩:=hE.get' hp;obtain⟨Yj,pl,Xi,ph,pt,n,gg,Ya,ab9⟩:=lk.isBrR Xs;obtain⟨aaP,afW⟩:=dW Ya;have aaR:=aaP;unfold i6 at aaR;obtain⟨dxt,bet,hot⟩:=ab9.target.obj;have aeh:=(dW hot).1;obtain⟨i,hi⟩:=bw (aeg b (aJ hb));have hv:=XM.2.1 Zi i _ hi;left;refine' QC XF hv ?_;have npt:pt≠ZN:=λz=>by rw[z,aaR] at aeh;simp at aeh
  have ht9:dH a (dv W (upd H' ZN (.ins a.eM Yj (i6 pl Xi ph pt n (i:Nat))))) pt b.to:=by
   have k1:dv W (upd H' ZN (.ins a.eM Yj (i6 pl Xi ph pt n (i:Nat)))) pt=dv W H' pt:=by
    unfold dv;rw[ap npt]
   obtain⟨wf,Xw,c9,be9,e9,ZQ⟩:=ab9.target;exact⟨wf,Xw,c9,be9,by rw[k1];exact e9,ZQ⟩
  obtain⟨ZR,ws1⟩:=Kj (a:=a) (ns:=ns) (W:=W) (H:=H') (p:=ZN) (o:=.ins a.eM Yj (i6 pl Xi ph pt n (i:Nat))) afW λu e=>.inr (.inl ⟨Yj,pl,Xi,ph,pt,n,gg,b.to,i,by rw[aaP] at e;exact(aH e).symm,ht9,hi,rfl⟩);have ac1:=lk.trans ZR;refine⟨ws.trans ws1,ac1,?_,⟨some (.ref ZN),rfl⟩,λi' p' b' Xg abV Y9=>?_⟩
  .show upd H' ZN (.ins a.eM Yj (i6 pl Xi ph pt n (i:Nat))) d=_;rw[ap (λz=>by rw[z,aaP] at XF;cases XF)];exact XF
  .by_cases e:i'=j
   .subst e;rw[hp] at abV;rw[hb] at Y9;cases abV;cases Y9;refine⟨Yj,pl,Xi,ph,pt,n,i,dQ bv afW,ZR.brR ab9,hi⟩
   .exact ZR.isBrM (X1 i' p' b' (by lia) abV Y9)
 .rintro U H' ⟨ws,lk,XF,⟨y,rfl⟩,X1⟩;rw[af] at X1;obtain⟨afU,YF,_⟩:=lk.st ho;obtain⟨abD,ac2⟩:=dW YF;have aae:=abD;unfold iB at aae;have YS:=(dW (lk.lst Xe)).1;left;refine' QJ ?_;have abE:=hE.len;obtain⟨kz,afX,YQ⟩:∃kz:List Str,kz.length=ps.length/\∀(i:Nat)(p:cS)(k:Str),ps[i]?=some p->kz[i]?=some k->uc a (dv W H') p k:=by
   refine⟨(dI st.2).map λb=>strOf b.label.name,by rw[af,abE],λi p k hp hk=>?_⟩;obtain⟨b,hb,Xs⟩:=hE.get' hp;rw[ak,hb] at hk;cases hk;obtain⟨Yj,pl,Xi,ph,pt,n,gg,Ya,ab9⟩:=lk.isBrR Xs;exact⟨Yj,pl,Xi,ph,pt,n,gg,b.label,Ya,ab9.label,rfl⟩
  refine⟨pb,ps.map V.ref,kz,rfl,YS,by rw[af];exact afX,by rw[af,abE];lia,λi v k hv hk=>?_,λzs Yn aas aat acE=>?_⟩
  .obtain⟨p1,Xh,rfl⟩:=eY hv;obtain⟨Xw,ac3,aei,aej,aek,n9,g9,ael,e9,aem,rfl⟩:=YQ i p1 k Xh hk;exact⟨p1,_,rfl,⟨Xw,ac3,aei,aej,aek,n9,g9,ael,(dW e9).1,dG a _ _ _ _ jn aem,rfl⟩,rfl,rfl⟩
  .
   obtain⟨ys,acU,hyp⟩:∃ys:List (Str×cS),zs=ys.map (λy=>(y.1,V.ref y.2))/\ys.Perm (kz.zip ps):=by
    have e1:kz.zip (ps.map V.ref)=(kz.zip ps).map (λy=>(y.1,V.ref y.2)):=by
     rw[List.zip_map_right];rfl
    rw[e1] at aas;obtain⟨ys,e2,p2⟩:=zu aas rfl;exact⟨ys,e2,p2⟩
   have hbl0:H' Yn=none:=acE;have agN:¬W Yn:=(ws.dom D).no acE;have Xm:bn H' (upd H' Yn (.lst (zs.map Prod.snd))):=bn.upd acE;have aen:upd H' Yn (.lst (zs.map Prod.snd)) Yn=some (.lst (zs.map Prod.snd)):=bv;have ZR:fP a ns (dv W H') (dv W (upd H' Yn (.lst (zs.map Prod.snd)))):=bn.lnk (d4 Xm.but);have X4:=Xm _ _ abD;have aaS:=Xm _ _ aae;generalize hH1:upd H' Yn (.lst (zs.map Prod.snd))=H1 at Xm aen ZR X4 aaS;have agO:Bi a (dv W H1) pb Yn:=by
    refine⟨ps,kz,ys,ZR.lst (lk.lst Xe),afX,λi p k hp hk=>ZR.labelOf (YQ i p k hp hk),hyp,?_,dQ (by rw[aen,acU,aO];rfl) agN⟩;rw[acU,bY] at aat;exact aat
   left;have afY:∀{q:cS} {xs:List V},dv W H1 q=some (.lst xs)->q≠p:=λ{q xs} e z=>by rw[z] at e;rw[(dW e).1] at X4;cases X4
   have ac4:Bi a (dv W (upd H1 p (.ins a.ge dx (iB pn d0 f g pb Yn)))) pb Yn:=by
    obtain⟨ZO,kz',zs',e1,e2,e3,e4,e5,e6⟩:=agO;have keep:∀{q:cS} {o:HO},dv W H1 q=some o->q≠p->dv W (upd H1 p (.ins a.ge dx (iB pn d0 f g pb Yn))) q=some o:=λ{q o} e ne=>by
     obtain⟨e,n⟩:=dW e;exact dQ (by rw[ap ne];exact e) n
    refine⟨ZO,kz',zs',keep e1 (afY e1),e2,λi p' k hp hk=>?_,e4,e5,keep e6 (afY e6)⟩;obtain⟨Xw,ac3,aei,aej,aek,n9,g9,ael,e9,aem,rfl⟩:=e3 i p' k hp hk;have ne9:p'≠p:=λz=>by
     rw[z] at e9;rw[(dW e9).1] at X4;injection X4 with X4;injection X4 with _ _ X4;exact G5 X4
    obtain⟨wf,aag,cn,aah,en,hcn⟩:=aem;have nen:ac3≠p:=λz=>by
     rw[z] at en;rw[(dW en).1] at X4;injection X4 with X4;injection X4 with _ _ X4;exact absurd (au List.length X4) (by show ¬(4=6);decide)
    exact⟨Xw,ac3,aei,aej,aek,n9,g9,ael,keep e9 ne9,⟨wf,aag,cn,aah,keep en nen,hcn⟩,rfl⟩
   obtain⟨ac1,ws2⟩:=Kj (a:=a) (ns:=ns) (W:=W) (H:=H1) (p:=p) (o:=.ins a.ge dx (iB pn d0 f g pb Yn)) ac2 λu e=>.inr (.inr ⟨dx,pn,d0,f,g,pb,afU,Yn,by rw[X4] at e;exact(aH e).symm,rfl,ac4⟩);have ac5:=lk.trans (ZR.trans ac1);have nd:p≠d:=λz=>by rw[z,XF] at abD;cases abD
   refine q _ (ws.trans ((bn.wst Xm).trans ws2)) ac5 ?_ ⟨dx,pn,d0,f,g,pb,Yn,dQ bv ac2,ac5.name hn,ac5.stN Xf,?_,ac4⟩
   .rw[ap (Ne.symm nd)];exact Xm _ _ XF
   .refine⟨ps,ac5.lst Xe,?_⟩;have:=ZR.trans ac1;refine yo abE λi p' b hp hb=>this.isBrM (X1 i p' b (ax.mp hp).1 hp hb)
end
theorem G6(x y:Bytes):strOf x++strOf y=strOf (x++y):=by
 show(⟨_⟩:Str)=⟨_⟩
 congr 1
 simp[strOf]
theorem zZ(x:Bytes):TL.tl (strOf x)=x.map UInt8.toNat:=by
 show(strOf x).cps.toList=_;unfold strOf;simp
theorem Lu(sep:Bytes)(xs:List Bytes):Txt.join (strOf sep) (xs.map strOf)=strOf (VasesBase.joined sep xs):=by
 have e:∀xs:List Bytes,TL.uB (TL.tl (strOf sep)) ((xs.map strOf).map TL.tl)=(VasesBase.joined sep xs).map UInt8.toNat:=by
  intro xs
  induction xs with
  | nil=>rfl
  | cons x r ih=>
   cases r with
   | nil=>
    show TL.tl (strOf x)=x.map UInt8.toNat;exact zZ x
   | cons y r=>
    show TL.tl (strOf x)++(TL.tl (strOf sep)++TL.uB (TL.tl (strOf sep)) (((y::r).map strOf).map TL.tl))=(x++sep++VasesBase.joined sep (y::r)).map UInt8.toNat;rw[ih,zZ,zZ,aD,aD,List.append_assoc]
 refine(qT ?_).trans rfl;rw[TL.J1,TL.Cm];exact e xs
theorem yq(hK:X.K=K)(he:PE X e ta)(hb:attributeBase e f X.env (eval e X.env)=eval e X.env):PE X (.Attribute e f pos) (F5 K ta f):=by
 subst hK;exact My he hb
def FW:R2:=λx y H Q=>∃i j,x=.str i/\y=.str j/\i.length+j.length<=sizeLine/\Q (.str (i++j)) H
theorem im:ii X (binaryOp .Add) FW:=KK
theorem i8(hs:s=strOf x)(ht:t=strOf y)(hb:x.length+y.length<=16000000)(q:Q (.str (strOf (x++y))) H):FW (.str s) (.str t) H Q:=by
 subst hs ht;exact⟨_,_,rfl,rfl,by rw[rf,rf,sizeLine_eq];lia,by rw[G6];exact q⟩
def P2(K:cV):V->List V->Hp->VK->Prop:=λx xs H Q=>∃a p,∃ys:List Str,x=.str a/\xs=[.ref p]/\(dU K H p (ys.map V.str)∨jk K H p (ys.map V.str))/\(ys.map (·.length)).sum+ys.length*a.length<=16777216/\Q (.str (Txt.join a ys)) H
theorem jD(ho:PE X o to)(he:PE X e te)(hs:starEach [e] X.env=[(false,eval e X.env)]:=by rfl)(X0:attributeBase o "join" X.env (eval o X.env)=eval o X.env:=by rfl)(Yh:(apos.endLine==pos.line)=true:=by rfl):PE X (.Call (.Attribute o "join" apos) [e] [] pos) (PF (P2 X.K) to te):=J2 ho he hs X0 Yh
theorem QL(xs:List Bytes):((xs.map strOf).map (·.length)).sum=(xs.map List.length).sum:=by
 induction xs with
 | nil=>rfl
 | cons x r ih=>rw[ay,ay,ay,bF,bF,ih,rf]
theorem jQ(hs:s=strOf sep)(e:H p=some (.lst ((xs.map strOf).map V.str)))(hb:(xs.map List.length).sum+xs.length*sep.length<=16000000)(q:Q (.str (strOf (VasesBase.joined sep xs))) H):P2 K (.str s) [.ref p] H Q:=by
 subst hs;refine⟨_,p,xs.map strOf,rfl,rfl,.inl (dU.of e),?_,by rw[Lu];exact q⟩;rw[QL,af,rf]
 lia
theorem gc(sep:Bytes):∀xs:List Bytes,(VasesBase.joined sep xs).length<=(xs.map List.length).sum+xs.length*sep.length
 | []=>aI _
 | [x]=>by simp[VasesBase.joined]
 | x::y::r=>by
  have ih:=gc sep (y::r);show(x++sep++VasesBase.joined sep (y::r)).length<=_;rw[aC,aC,ay,bF,az,Nat.succ_mul]
  lia
theorem og:∀{xs:List α},(∀x∈xs,f x<=k)->(xs.map f).sum<=xs.length*k
 | [],_=>by simp
 | x::r,h=>by
  have ih:=og (xs:=r) λy hy=>h y (by simp[hy]);have:=h x (by simp);rw[ay,bF,az,Nat.succ_mul]
  lia
theorem oA(n:Nat):(VasesBase.showNat n).map UInt8.toNat=TL.jy n:=by
 unfold VasesBase.showNat TL.jy;rw[aO];refine cC λc hc=>?_;have h1:c.toNat∈TL.jy n:=aW.mpr ⟨c,hc,rfl⟩;have:=TL.IC n _ h1;show(UInt8.ofNat c.toNat).toNat=c.toNat;simp;have h2:c.toNat<=57:=this.2
 lia
theorem QM(n:Nat):(Str.ofString (toString ((n:Nat):Int)))=strOf (VasesBase.showNat n):=by
 refine(qT (TL.Gk n)).trans ?_;unfold strOf;rw[oA]
theorem QN(n:Nat):(Str.ofString (toString (Int.negSucc n)))=strOf (45::VasesBase.showNat (n+1)):=by
 have e:toString (Int.negSucc n)="-"++toString (((n+1:Nat)):Int):=rfl;have h2:TL.tl (Str.ofString (toString (((n+1:Nat)):Int)))=TL.jy (n+1):=TL.Gk (n+1);refine(qT (l:=45::TL.jy (n+1)) ?_).trans ?_
 .show (Str.ofString _).cps.toList=_;rw[Str.ofString_eq_toList,e];rw[show TL.tl _=(Str.ofString (toString (((n+1:Nat)):Int))).cps.toList from rfl,Str.ofString_eq_toList] at h2;simp at h2 ⊢;exact h2
 .unfold strOf;rw[ay,oA];rfl
theorem str_int(i:Int):(Str.ofString (toString i))=strOf (VasesBase.showInt i):=by
 unfold VasesBase.showInt;cases i with
 | ofNat n=>
  rw[aa (by simp)];exact QM n
 | negSucc n=>
  rw[ae (by exact Int.negSucc_lt_zero n)];exact QN n
theorem zw(hk:0<k)(h:n<10^k):(VasesBase.showNat n).length<=k:=by
 have e:(VasesBase.showNat n).length=(TL.jy n).length:=by rw[←oA,af]
 rw[e];exact TL.Oo hk h
theorem iL(h1:-1000000000<=i)(h2:i<=1000000000):(VasesBase.showInt i).length<=11:=by
 have h3:=zw (n:=i.natAbs) (k:=10) (by decide) (by have:i.natAbs<=1000000000:=(by lia);exact aN this (by decide));unfold VasesBase.showInt;split
 .rw[az];lia
 .lia
theorem Nt(h1:-1000000000<=i)(h2:i<=1000000000):i.natAbs.log2<1920:=by
 have h:i.natAbs<2^1920:=aN (m:=1000000000) (by lia) (by rfl');by_cases z:i.natAbs=0
 .rw[z];decide
 .exact(Nat.log2_lt z).mpr h
theorem Bk(h1:-1000000000<=i)(h2:i<=1000000000)(q:Q (.str (strOf (VasesBase.showInt i))) H):PX [.int i] H Q:=⟨i,rfl,Nt h1 h2,by rw[show((toString i:String):Str)=strOf (VasesBase.showInt i) from str_int i];exact q⟩
theorem lcS{H1:Hp}{D:cS}{Qd:Hp->Prop}{U:L2.St}{vs:List Nat}{g:TG}{te:TE}{x:Str}(ys:List V)(hy:ys.length=x.cps.size)(hD:H1 D=none)(hz:x.cps.size<=sizeLine)(hs:∀(i c:Nat)(y:V)(H':Hp)(R:VK),x.cps[i]?=some c->ys[i]?=some y->bn H1 H'->(∀H4,bn H' H4->R y H4)->g (.str ⟨#[c]⟩) (fq U vs) H' λU2 H2=>fq U2 vs=fq U vs/\te U2 H2 R)(mono:∀x U H' (R R':L2.St->Hp->Prop),(∀U2 H2,R U2 H2->R' U2 H2)->g x U H' R->g x U H' R')(hd:∀H',bn H1 H'->H' D=some (.lst ys)->Qd H'):∃W:Nat->Nat->Hp->Prop,(∃m,W 0 m (upd H1 D (.lst [])))/\∀i m H,W i m H->((JZ x).stop i H/\Qd H)∨((JZ x).go i H/\∃Nx:Hp->Prop,(∀H',Nx H'->∃m',m'<m/\W (i+1) m' H')/\∀v H',(JZ x).yld i H v H'->g v (fq U vs) H' λU2 H2=>fq U2 vs=fq U vs/\zP U2 H2 λb H3=>if b=true then te U2 H3 λy H4=>∃acc,H4 D=some (.lst acc)/\acc.length<sizeLine/\Nx (upd H4 D (.lst (acc++[y]))) else Nx H3):=by
 refine⟨λi m H'=>m=x.cps.size-i/\i<=x.cps.size/\bn H1 H'/\H' D=some (.lst (ys.take i)),⟨_,rfl,aI _,bn.upd hD,bv⟩,?_⟩;rintro i m H' ⟨rfl,hi,sm,XF⟩;by_cases Xg:i<x.cps.size
 .refine .inr ⟨Xg,λH'=>bn H1 H'/\H' D=some (.lst (ys.take (i+1))),λH' p=>⟨x.cps.size-(i+1),by lia,rfl,Xg,p.1,p.2⟩,λv H'' yl=>?_⟩;obtain⟨rfl,c,hc,rfl⟩:=yl;have abi:i<ys.length:=by lia
  have abY:ys[i]?=some ys[i]:=by simp[abi]
  have key:=hs i c ys[i] H'' (λy H4=>∃acc,H4 D=some (.lst acc)/\acc.length<sizeLine/\(bn H1 (upd H4 D (.lst (acc++[y])))/\upd H4 D (.lst (acc++[y])) D=some (.lst (ys.take (i+1))))) hc abY sm λH4 s4=>by
   refine⟨ys.take i,s4 _ _ XF,by rw[aL];lia,λb o e=>?_,?_⟩
   .rw[ap (ca e hD)];exact s4 _ _ (sm _ _ e)
   .rw[bv,bX,abY];rfl
  refine mono _ _ _ _ _ (λU2 H2 h=>⟨h.1,?_⟩) key;simp only[zP,if_true];exact h.2
 .have e:i=x.cps.size:=by lia
  subst e;refine .inl ⟨ah _,hd H' sm ?_⟩;rw[←hy,aQ] at XF;exact XF
def Sv:Sp:=λvs H Q _=>∃(s:Str)(b:Bytes),vs=[.str s]/\s=strOf b/\b.length<=16000000/\∀l H',H l=none->bn H H'->H' l=some (.lst (dc b))->Q (.ref l) H'
theorem iM:fc P w base T.jh 1 Sv:=by
 specialize T.jh.fn.okN ["text","character"];obtain⟨_,b,rfl,rfl,hl,q⟩:=h;refine'⟨_,(am (bi (wC [("character",1)] nd (RP (pv 0)) (λ_ _ _ _ _=>(gh 1 nd)) (λ_ _ _ _ _=>by exact(uu M6 (by rfl) T.Ub boot_ord (dq (pv 1))))))),?_⟩;refine⟨_,rfl,λD hD=>?_⟩;have hsz:(strOf b).cps.size=b.length:=by unfold strOf;simp
 refine' lcS (dc b) (by rw[dD,hsz]) hD (by rw[hsz,sizeLine_eq];lia) (λi c y H' R hc hy sm k=>?_) gK λH' sm h=>q D H' hD sm h;refine'⟨rfl,?_⟩;have e:y=.int (c:Nat):=by
  unfold dc at hy;rw[ak] at hy;have YE:(b.map UInt8.toNat)[i]?=some c:=by
   unfold strOf at hc;simpa using hc
  rw[ak] at YE;cases e:b[i]? with
  | none=>rw[e] at hy;cases hy
  | some d=>rw[e] at hy YE;cases hy;cases YE;rfl
 rw[←e];exact k _ (bn.refl _)
section
open VasesBase (joined showRange showInt showNat)
noncomputable def i9(hs:List Bytes):Bytes:=if hs=[] then [] else [91]++joined (word ", ") hs++[93]
theorem ED:(", ":Str)=strOf (word ", "):=by rfl'
theorem ke:(" ":Str)=strOf [32]:=by rfl'
theorem OJ:("(":Str)=strOf [40]:=by rfl'
theorem Nu:(")":Str)=strOf [41]:=by rfl'
theorem Sw:("[":Str)=strOf [91]:=by rfl'
theorem Sx:("]":Str)=strOf [93]:=by rfl'
theorem Nv:("":Str)=strOf []:=by rfl'
def Vl:Sp:=λvs H Q _=>∃l hs,vs=[.ref l]/\H l=some (.lst ((hs.map strOf).map V.str))/\(∀h∈hs,h.length<=16)/\hs.length<=1000/\Q (.str (strOf (i9 hs))) H
theorem ud:fc P w base T.nG 1 Vl:=by
 specialize T.nG.fn.okN ["seats"];obtain⟨l,hs,rfl,hl,h16,hlen,q⟩:=h;refine⟨_,(ad (de (fM (fS T.d5 (pv 0)) (cr)) (am (bi (dO))) cZ) (am (bi (dF im (dF im (dO) (jD (dO) (pv 0))) (dO))))),?_⟩;unfold i9 at q;left;rw[af,af];by_cases h0:hs=[]
 .subst h0;rw[ae rfl,←Nv] at q;refine' cX (λ_=>?_) (λz=>absurd (by simp) z);exact q
 .rw[aa h0] at q;refine cX (λz=>absurd (by simpa using z) h0) (λ_=>?_);have hb:(hs.map List.length).sum+hs.length*(word ", ").length<=20000:=by
   have:=og (f:=List.length) (k:=16) h16;have e:(word ", ").length=2:=rfl;rw[e]
   lia
  have hj:=gc (word ", ") hs;left;refine jQ ED hl (by lia) ?_;refine' i8 Sw rfl (by simp;lia) ?_;exact i8 rfl Sx (by simp;lia) q
def Vm(a:dj):Sp:=λvs H Q _=>∃p r,vs=[.ref p]/\fE a H p r/\∀H',bn H H'->Q (.str (strOf (showRange r))) H'
theorem OK:("flag":Str)=strOf (word "flag"):=by rfl'
theorem QO:("num":Str)=strOf (word "num"):=by rfl'
theorem OL:("text":Str)=strOf (word "text"):=by rfl'
theorem vT(h:fe r):(showRange r).length<=40:=by
 cases r with
 | flag=>decide
 | num lo hi=>
  obtain⟨h1,h2,h3⟩:=h;have a1:=iL (i:=lo) (by lia) (by lia);have a2:=iL (i:=hi) (by lia) (by lia);show(word "num "++showInt lo++[32]++showInt hi).length<=40;have e:(word "num ").length=4:=rfl;rw[aC,aC,aC,e,bN]
  lia
 | text k=>
  have hk:k<=255:=h;have a1:=zw (n:=k) (k:=3) (by decide) (by lia);show(word "text "++showNat k).length<=40;have e:(word "text ").length=5:=rfl;rw[aC,e]
  lia
theorem G7:fc P w base T.xR 1 (Vm a):=by
 specialize T.xR.fn.okN ["span"];obtain⟨p,r,rfl,⟨wf,dx,hp⟩,q⟩:=h;refine⟨_,(ad (de (fM (da (pv 0)) (iz T.DF)) (am (bi (da (pv 0)))) cZ) (ad (de (fM (da (pv 0)) (iz T.KA)) (am (bi (jD (dO) (dw (db (da (pv 0)) (dg (j8 qS (by rfl) T.FZ boot_str (dq (da (pv 0)))) (j8 qS (by rfl) T.FZ boot_str (dq (da (pv 0)))))))))) cZ) (am (bi (jD (dO) (dw (dg (da (pv 0)) (j8 qS (by rfl) T.FZ boot_str (dq (da (pv 0))))))))))),?_⟩;cases r with
 | flag=>
  unfold gP at hp;left;refine' cX (λ_=>?_) (λh1=>absurd (by rfl') h1);rw[OK];exact q _ (bn.refl _)
 | num lo hi=>
  obtain⟨h1,h2,h3⟩:=wf;unfold gP at hp;left;refine' cX (λh1=>absurd h1 (by rfl')) (λ_=>?_);refine' cX (λ_=>?_) (λh1=>absurd (by rfl') h1);refine' Bk (by lia) (by lia) ?_;refine' Bk (by lia) (by lia) ?_;refine⟨by(show 3<=sizeLine;decide),λl hl=>?_⟩;have a1:=iL (i:=lo) (by lia) (by lia);have a2:=iL (i:=hi) (by lia) (by lia);refine jQ (xs:=[word "num",showInt lo,showInt hi]) ke (by rw[bv,QO];rfl) ?_ ?_
  .show (word "num").length+((showInt lo).length+((showInt hi).length+0))+3*1<=_;have e:(word "num").length=3:=rfl;rw[e]
   lia
  .have e:joined [32] [word "num",showInt lo,showInt hi]=showRange (.num lo hi):=by
    show word "num"++[32]++(showInt lo++[32]++showInt hi)=word "num "++showInt lo++[32]++showInt hi;have:word "num "=word "num"++[32]:=(by decide);rw[this];simp
   rw[e];exact q _ (bn.upd hl)
 | text k=>
  have hk:k<=255:=wf;unfold gP at hp;left;refine' cX (λh1=>absurd h1 (by rfl')) (λ_=>?_);refine' cX (λh1=>absurd h1 (by rfl')) (λ_=>?_);refine' Bk (by lia) (by lia) ?_;refine⟨by(show 2<=sizeLine;decide),λl hl=>?_⟩;have a2:=iL (i:=(k:Int)) (by lia) (by lia);refine jQ (xs:=[word "text",showInt (k:Int)]) ke (by rw[bv,OL];rfl) ?_ ?_
  .show (word "text").length+((showInt (k:Int)).length+0)+2*1<=_;have e:(word "text").length=4:=rfl;rw[e]
   lia
  .have e:joined [32] [word "text",showInt (k:Int)]=showRange (.text k):=by
    show word "text"++[32]++showInt (k:Int)=word "text "++showNat k;have h1:word "text "=word "text"++[32]:=(by decide);have h2:showInt (k:Int)=showNat k:=(by unfold showInt;rw[aa (by lia)];rfl);rw[h1,h2]
   rw[e];exact q _ (bn.upd hl)
def eG(b:Vasesd.RawBranch):Bytes:=b.label.name++[40]++joined (word ", ") (b.ranges.map showRange)++[41]++i9 (b.hands.map (·.name))++[32]++b.to.name
theorem dH.len(h:dH a H p n):n.name.length<=16:=h.1.2.1
theorem lr(h16:∀h∈hs,h.length<=16)(hl:hs.length<=2):(i9 hs).length<=40:=by
 unfold i9;split
 .simp
 .have h1:=gc (word ", ") hs;have h2:=og (f:=List.length) (k:=16) h16;have e:(word ", ").length=2:=rfl;rw[e] at h1;rw[aC,aC,bN,bN]
  lia
def Vn(a:dj):Sp:=λvs H Q _=>∃p b,vs=[.ref p]/\jZ a H p b/\b.hands.length<=2/\∀H',bn H H'->(eG b).length<=300->Q (.str (strOf (eG b))) H'
theorem CF:fc P w base T.sD 2 (Vn a):=by
 specialize T.sD.fn.okN ["branch","spans","handed","span","seat"];obtain⟨p,b,rfl,⟨dx,pl,Xi,ph,pt,n,gg,ho,hb⟩,Yr,q⟩:=h;refine⟨_,(ad (dz 1 nd (jD (dO) (wC [("span",3)] nd (eW (da (pv 0))) (λ_ _ _ _ _=>(gh 3 nd)) (λ_ _ _ _ _=>by exact(df T.xR (G7 T) hr ci (dq (pv 3))))))) (ad (dz 2 nd (df T.nG (ud T) hr ci (dq (wC [("seat",4)] nd (eW (da (pv 0))) (λ_ _ _ _ _=>(gh 4 nd)) (λ_ _ _ _ _=>by exact(yq (K:=K) rfl (pv 4) rfl)))))) (am (bi (dF im (dF im (dF im (dF im (dF im (dF im (da (da (pv 0))) (dO)) (pv 1)) (dO)) (pv 2)) (dO)) (da (da (pv 0)))))))),?_⟩;unfold i6 at ho;obtain⟨ps,Xe,hE⟩:=hb.spans;obtain⟨hs,aca,Ze⟩:=hb.handed;have wf:∀r∈b.ranges,fe r:=hE.all λ_ _ z=>z.1;have h4:=hb.len;have h16:∀h∈b.hands.map (·.name),h.length<=16:=λh hm=>by
  obtain⟨nm,hn,rfl⟩:=aW.mp hm;exact Ze.all (R:=λnm=>nm.name.length<=16) (λ_ _ z=>dH.len z) nm hn
 have lL:=hb.label.len;have lT:=hb.target.len;have lR:((b.ranges.map showRange).map List.length).sum+(b.ranges.map showRange).length*(word ", ").length<=170:=by
  have:=og (f:=List.length) (k:=40) (xs:=b.ranges.map showRange) (λx hx=>by
   obtain⟨r,hr,rfl⟩:=aW.mp hx
   exact vT (wf r hr))
  have e:(word ", ").length=2:=rfl;rw[af] at *;rw[e]
  lia
 have jR:=gc (word ", ") (b.ranges.map showRange);have lH:=lr h16 (by rw[af];exact Yr);left;intro D hD;refine yO ((b.ranges.map λr=>V.str (strOf (showRange r)))) (by rw[af,af,hE.len]) Xe hD (by rw[af,hE.len,sizeLine_eq];lia) (λi x y H' R hx hy sm k=>?_) gK ?_
 .obtain⟨p1,Xh,rfl⟩:=eY hx;obtain⟨r,Yd,Xn⟩:=hE.get' Xh;rw[ak,Yd] at hy;cases hy;left;refine'⟨rfl,?_⟩;exact⟨p1,r,rfl,hJ a _ _ _ _ sm Xn,λH4 s4=>k H4 s4⟩
 .intro H1 s1 hD1;left;refine jQ (xs:=b.ranges.map showRange) ED (by rw[hD1,aO,aO];rfl) (by lia) ?_;have YF:=s1 _ _ ho;have acF:=s1 _ _ aca;left;intro D2 YZ;refine yO ((b.hands.map λh=>V.str (strOf h.name))) (by rw[af,af,Ze.len]) acF YZ (by rw[af,Ze.len,sizeLine_eq];lia) (λi x y H' R hx hy sm k=>?_) gK ?_
  .obtain⟨p1,Xh,rfl⟩:=eY hx;obtain⟨nm,Yd,aaT⟩:=Ze.get' Xh;rw[ak,Yd] at hy;cases hy;obtain⟨aag,aah,abl⟩:=(dG a _ _ _ _ (s1.trans sm) aaT).obj;left;refine'⟨rfl,?_⟩;exact k _ (bn.refl _)
  .intro H2 s2 Yx;have XB:=s1.trans s2;have aae:=XB _ _ ho;obtain⟨Xq,Zb,X4⟩:=(dG a _ _ _ _ XB hb.label).obj;obtain⟨XW,abk,aaS⟩:=(dG a _ _ _ _ XB hb.target).obj;left;refine'⟨D2,b.hands.map (·.name),rfl,by rw[Yx,aO,aO];rfl,h16,by rw[af];lia,?_⟩;refine' i8 rfl OJ (by simp;lia) ?_;refine' i8 rfl rfl (by simp;lia) ?_;refine' i8 rfl Nu (by simp;lia) ?_;refine' i8 rfl rfl (by simp;lia) ?_;refine' i8 rfl ke (by simp;lia) ?_;refine i8 rfl rfl (by simp;lia) ?_;refine q H2 XB ?_;unfold eG;simp
   lia
end
section
open VasesBase (joined showRange showInt showNat)
theorem Nw:("=":Str)=strOf [61]:=by rfl'
theorem OM:("stop":Str)=strOf (word "stop"):=by rfl'
theorem ON:("send":Str)=strOf (word "send"):=by rfl'
theorem OO:("recv":Str)=strOf (word "recv"):=by rfl'
theorem Sy:("->":Str)=strOf (word "->"):=by rfl'
theorem OP:("<-":Str)=strOf (word "<-"):=by rfl'
theorem Sz:("{":Str)=strOf [123]:=by rfl'
theorem SA:("}":Str)=strOf [125]:=by rfl'
theorem OQ:(" ; ":Str)=strOf (word " ; "):=by rfl'
def iu(s:PName×Vasesd.RawNode):List Bytes:=match s.2 with
 | .halt_=>[s.1.name,[61],word "stop"]
 | .send x y bs=>[s.1.name,[61],word "send",x.name,word "->",y.name,[123],joined (word " ; ") (bs.map eG),[125]]
 | .recv y x bs=>[s.1.name,[61],word "recv",y.name,word "<-",x.name,[123],joined (word " ; ") (bs.map eG),[125]]
def jg(s:PName×Vasesd.RawNode):Bytes:=joined [32] (iu s)
theorem ET(h:b.ranges.length<=4/\(∀r∈b.ranges,fe r)/\b.label.name.length<=16/\b.to.name.length<=16/\∀h∈b.hands.map (·.name),h.length<=16)(h2:b.hands.length<=2):(eG b).length<=300:=by
 obtain⟨h4,wf,lL,lT,h16⟩:=h;have lR:((b.ranges.map showRange).map List.length).sum+(b.ranges.map showRange).length*(word ", ").length<=170:=by
  have:=og (f:=List.length) (k:=40) (xs:=b.ranges.map showRange) (λx hx=>by
   obtain⟨r,hr,rfl⟩:=aW.mp hx
   exact vT (wf r hr))
  have e:(word ", ").length=2:=rfl;rw[af] at *;rw[e]
  lia
 have jR:=gc (word ", ") (b.ranges.map showRange);have lH:=lr h16 (by rw[af];exact h2);unfold eG;simp
 lia
def TU(a:dj):Sp:=λvs H Q _=>∃p s,vs=[.ref p]/\kq a H p s/\(dI s.2).length<=16/\(∀b∈dI s.2,b.hands.length<=2)/\∀H',bn H H'->(jg s).length<=10000->Q (.str (strOf (jg s))) H'
theorem EU:fc P w base T.va 3 (TU a):=by
 specialize T.va.fn.okN ["state","words","branches","branch"];obtain⟨p,st,rfl,⟨dx,pn,d0,f,g,pb,bl,ho,hn,Xf⟩,hlb,aeo,q⟩:=h;refine⟨_,(ad (dz 1 nd (dw (db (da (da (pv 0))) (dg (dO) (da (pv 0)))))) (ad (de (jw (da (pv 0)) (iz T.Ic)) (ad (dz 2 nd (jD (dO) (wC [("branch",3)] nd (eW (da (pv 0))) (λ_ _ _ _ _=>(gh 3 nd)) (λ_ _ _ _ _=>by exact(df T.sD (CF T) hr ci (dq (pv 3))))))) (am (dB (Gv (pv 1) (dw (db (da (da (pv 0))) (db (df T.u0 (zn T) hr ci (dq (da (pv 0)))) (db (da (da (pv 0))) (db (dO) (dg (pv 2) (dO))))))))))) cZ) (am (bi (jD (dO) (pv 1)))))),?_⟩;obtain⟨aag,aah,abl⟩:=hn.obj;have lN:=hn.len;have aep:=ho;unfold iB at ho;left;refine⟨by(show 3<=sizeLine;decide),λwl YB=>?_⟩;have Xm:bn H (upd H wl (.lst [.str (strOf st.1.name),.str "=",.str d0])):=bn.upd YB;have acb:upd H wl (.lst [.str (strOf st.1.name),.str "=",.str d0]) wl=some (.lst [.str (strOf st.1.name),.str "=",.str d0]):=bv;generalize upd H wl (.lst [.str (strOf st.1.name),.str "=",.str d0])=H1 at Xm acb;have YF:=Xm _ _ ho;by_cases hh:st.2=.halt_
 .have ew:iu st=[st.1.name,[61],word "stop"]:=by unfold iu;rw[hh]
  rw[hh] at Xf;obtain⟨rfl,rfl,rfl,_⟩:=Xf;left;refine' cX (λz=>absurd z (by rfl')) (λ_=>?_);have hb:((iu st).map List.length).sum+(iu st).length*([32]:Bytes).length<=100:=by
   rw[ew];show st.1.name.length+(1+((word "stop").length+0))+3*1<=100;have e:(word "stop").length=4:=rfl;rw[e]
   lia
  refine jQ (xs:=iu st) ke (by rw[acb,ew,Nw,OM];rfl) (by lia) ?_;refine q H1 Xm ?_;have:=gc [32] (iu st);unfold jg
  lia
 .obtain⟨x,y,dd,ar,bs,hd,XV,ad6,⟨p1,rfl,i1⟩,⟨p2,rfl,i2⟩,Xp,ebs,ew,ld,la⟩:∃(x y:PName)(dd ar:Bytes)(bs:List Vasesd.RawBranch),d0=strOf dd/\d0≠"stop"/\(if d0=("send":Str) then("->":Str) else "<-")=strOf ar/\(∃p,f=.ref p/\dH a H p x)/\(∃p,g=.ref p/\dH a H p y)/\IsList (jZ a) H pb bs/\dI st.2=bs/\iu st=[st.1.name,[61],dd,x.name,ar,y.name,[123],joined (word " ; ") (bs.map eG),[125]]/\dd.length<=4/\ar.length<=2:=by
   obtain⟨nm,node⟩:=st;cases node with
   | halt_=>exact absurd rfl hh
   | send x y bs=>obtain⟨h1,h2,h3,h4⟩:=Xf;exact⟨x,y,word "send",word "->",bs,by rw[h1,ON],by rw[h1];rfl',by rw[ae h1,Sy],h2,h3,h4,rfl,rfl,by decide,by decide⟩
   | recv x y bs=>obtain⟨h1,h2,h3,h4⟩:=Xf;exact⟨x,y,word "recv",word "<-",bs,by rw[h1,OO],by rw[h1];rfl',by rw[aa (by rw[h1];rfl'),OP],h2,h3,h4,rfl,rfl,by decide,by decide⟩
  skip
  rw[ebs] at hlb aeo;have lx:=i1.len;have ly:=i2.len;obtain⟨ps,Xe,hE⟩:=Xp;have YS:=Xm _ _ Xe;left;refine' cX (λ_=>?_) (λz=>absurd (by simpa using XV) z);intro D hD
  have lB:∀b∈bs,(eG b).length<=300:=λb hb=>ET (hE.all (R:=λb=>b.ranges.length<=4/\(∀r∈b.ranges,fe r)/\b.label.name.length<=16/\b.to.name.length<=16/\∀h∈b.hands.map (·.name),h.length<=16) (λ_ _ ⟨_,_,_,_,_,_,_,_,z⟩=>⟨z.len,(let ⟨_,_,e⟩:=z.spans;e.all λ_ _ q=>q.1),z.label.len,z.target.len,λh hm=>by
   obtain⟨nm,Zg,rfl⟩:=aW.mp hm;obtain⟨_,_,e⟩:=z.handed
   exact e.all (R:=λnm=>nm.name.length<=16) (λ_ _ z=>dH.len z) nm Zg⟩) b hb) (aeo b hb)
  refine yO (bs.map λb=>V.str (strOf (eG b))) (by rw[af,af,hE.len]) YS hD (by rw[af,hE.len,sizeLine_eq];lia) (λi x y H' R hx hy sm k=>?_) gK ?_
  .obtain⟨p1,Xh,rfl⟩:=eY hx;obtain⟨b,Zk,Xs⟩:=hE.get' Xh;rw[ak,Zk] at hy;cases hy;left;refine'⟨rfl,?_⟩;exact⟨p1,b,rfl,mR a _ _ _ _ (Xm.trans sm) Xs,aeo b (aJ Zk),λH4 s4 _=>k H4 s4⟩
  .intro H2 s2 YZ;have lJ:((bs.map eG).map List.length).sum+(bs.map eG).length*(word " ; ").length<=5000:=by
    have:=og (f:=List.length) (k:=300) (xs:=bs.map eG) (λx hx=>by
     obtain⟨b,hb,rfl⟩:=aW.mp hx
     exact lB b hb)
    have e:(word " ; ").length=3:=rfl;rw[af] at *;rw[e]
    lia
   have jJ:=gc (word " ; ") (bs.map eG);left;refine jQ (xs:=bs.map eG) OQ (by rw[YZ,aO,aO];rfl) (by lia) ?_;have XB:=Xm.trans s2;have acd:=s2 _ _ acb;have aae:=XB _ _ ho;obtain⟨Xq,Zb,X4⟩:=(dG a _ _ _ _ XB i1).obj;obtain⟨XW,abk,aaS⟩:=(dG a _ _ _ _ XB i2).obj;left;refine' ik acd ?_;refine⟨_,rfl,?_⟩;rw[ad6];left;refine⟨by(show 6<=sizeLine;decide),λel abQ=>?_⟩;have nel:wl≠el:=ca acd abQ;refine'⟨wl,el,_,_,rfl,rfl,by rw[ap nel];exact acd,bv,by(show 3+6<=sizeLine;decide),?_⟩;have hb:((iu st).map List.length).sum+(iu st).length*([32]:Bytes).length<=6000:=by
    rw[ew];show st.1.name.length+(1+(dd.length+(x.name.length+(ar.length+(y.name.length+(1+((joined (word " ; ") (bs.map eG)).length+(1+0))))))))+9*1<=6000
    lia
   refine jQ (xs:=iu st) ke (by rw[bv,ew,Nw,hd,Sz,SA];rfl) (by lia) ?_;refine q _ (λc o h=>?_) ?_
   .rw[ap (ca h YB),ap (ca (XB _ _ h) abQ)];exact XB _ _ h
   .have:=gc [32] (iu st);unfold jg
    lia
end
section
open VasesBase (joined showRange showInt showNat)
theorem Bl{α:Type}{sep most:Nat}{Xb:Toks->Bool}{one:Toks->Except Fault (α×Toks)}{R:α->Prop}(h1:∀l x l',one l=.ok (x,l')->R x):∀(n k:Nat)(l:Toks)(xs:List α)(l':Toks),Vasesd.parted sep most Xb one n k l=.ok (xs,l')->xs≠[]/\∀x∈xs,R x
 | 0,k,l,xs,l',h=>by cases h
 | n+1,k,l,xs,l',h=>by
  change (if Xb l=true/\most<=k then _ else _)=_ at h;split at h
  .cases h
  .change (one l >>= _)=_ at h;cases e1:one l with
   | error f=>rw[e1] at h;cases h
   | ok y=>
    obtain⟨x,l1⟩:=y;rw[e1] at h;change (if next (.sign sep) l1=true then _ else _)=_ at h;split at h
    .change (Vasesd.parted sep most Xb one n (k+1) (l1.drop 1) >>= _)=_ at h;cases e2:Vasesd.parted sep most Xb one n (k+1) (l1.drop 1) with
     | error f=>rw[e2] at h;cases h
     | ok z=>
      obtain⟨ys,l2⟩:=z;rw[e2] at h;cases h;refine⟨by simp,λy hy=>?_⟩;rcases aw.mp hy with rfl|hy
      .exact h1 _ _ _ e1
      .exact(Bl h1 n (k+1) _ _ _ e2).2 y hy
    .cases h;exact⟨by simp,λy hy=>by rw[bV.mp hy];exact h1 _ _ _ e1⟩
theorem EE(h:Vasesd.takeHands l=.ok (hs,l')):hs.length<=2:=by
 unfold Vasesd.takeHands at h;split at h
 .change (Vasesd.parted 44 2 nameNext takeName ((l.length)+1) 0 (l.drop 1) >>= _)=_ at h;cases e:Vasesd.parted 44 2 nameNext takeName (l.length+1) 0 (l.drop 1) with
  | error f=>rw[e] at h;cases h
  | ok z=>
   obtain⟨xs,l1⟩:=z;have:=o8 (λl hl=>⟨_,gH hl⟩) _ _ _ _ _ e;rw[e] at h;change (takeSign 93 l1 >>= _)=_ at h;cases e2:takeSign 93 l1 with
   | error f=>rw[e2] at h;cases h
   | ok l2=>rw[e2] at h;cases h;lia
 .cases h;simp
theorem G8(h:Vasesd.takeBranch l=.ok (b,l')):b.hands.length<=2:=by
 change (takeName l >>= _)=_ at h;cases e1:takeName l with
 | error f=>rw[e1] at h;cases h
 | ok x=>
  obtain⟨n,l1⟩:=x;rw[e1] at h;change (Vasesd.takeRanges l1 >>= _)=_ at h;cases e2:Vasesd.takeRanges l1 with
  | error f=>rw[e2] at h;cases h
  | ok x=>
   obtain⟨rs,l2⟩:=x;rw[e2] at h;change (Vasesd.takeHands l2 >>= _)=_ at h;cases e3:Vasesd.takeHands l2 with
   | error f=>rw[e3] at h;cases h
   | ok x=>
    obtain⟨hs,l3⟩:=x;rw[e3] at h;change (takeName l3 >>= _)=_ at h;cases e4:takeName l3 with
    | error f=>rw[e4] at h;cases h
    | ok x=>
     rw[e4] at h;cases h;exact EE e3
def yt(n:Vasesd.RawNode):Prop:=(dI n).length<=16/\(∀b∈dI n,b.hands.length<=2)/\(dI n=[]->n=.halt_)
theorem G9{c:Nat}{l l':Toks}{x y:PName}{bs:List Vasesd.RawBranch}(h:Vasesd.takeTalk c l=.ok ((x,y,bs),l')):bs.length<=16/\(∀b∈bs,b.hands.length<=2)/\bs≠[]:=by
 rw[r8] at h;unfold fH at h;split at h
 .cases h
 .split at h
  .cases h
  .split at h
   .cases h
   .split at h
    .cases h
    .rename_i bs' l4 e4;cases h;unfold iS at e4;split at e4
     .cases e4
     .rename_i l5 e5;split at e4
      .cases e4
      .rename_i zs l6 e6;split at e4
       .cases e4
       .cases e4;have h1:=o8 (λl hl=>⟨_,by show(takeName l >>= _)=_;rw[gH hl];rfl⟩) _ _ _ _ _ e6;have h2:=Bl (R:=λb:Vasesd.RawBranch=>b.hands.length<=2) (λl x l' h=>G8 h) _ _ _ _ _ e6;exact⟨by lia,h2.2,h2.1⟩
theorem OR(h:Vasesd.takeNode l=.ok (n,l')):yt n:=by
 unfold Vasesd.takeNode at h;split at h
 .cases h;exact⟨by simp[dI],by simp[dI],λ_=>rfl⟩
 .split at h
  .change (Vasesd.takeTalk 1 (l.drop 1) >>= _)=_ at h;cases e:Vasesd.takeTalk 1 (l.drop 1) with
   | error f=>rw[e] at h;cases h
   | ok z=>
    obtain⟨⟨x,y,bs⟩,l1⟩:=z;rw[e] at h;cases h;obtain⟨h1,h2,h3⟩:=G9 e;exact⟨h1,h2,λz=>absurd z h3⟩
  .split at h
   .change (Vasesd.takeTalk 2 (l.drop 1) >>= _)=_ at h;cases e:Vasesd.takeTalk 2 (l.drop 1) with
    | error f=>rw[e] at h;cases h
    | ok z=>
     obtain⟨⟨x,y,bs⟩,l1⟩:=z;rw[e] at h;cases h;obtain⟨h1,h2,h3⟩:=G9 e;exact⟨h1,h2,λz=>absurd z h3⟩
   .cases h
theorem Bm:∀(n k:Nat)(l:Toks)(ss:List (PName×Vasesd.RawNode)),Vasesd.takeStates n k l=.ok ss->(ss=[]∨k+ss.length<=64)/\∀s∈ss,yt s.2
 | 0,k,l,ss,h=>by cases h
 | n+1,k,l,ss,h=>by
  change (if next .halt_ l=true then _ else if nameNext l=true/\64<=k then _ else _)=_ at h;split at h
  .cases h;exact⟨.inl rfl,by simp⟩
  .split at h
   .cases h
   .rename_i hk;change (takeName l >>= _)=_ at h;cases e1:takeName l with
    | error f=>rw[e1] at h;cases h
    | ok x=>
     have hn:nameNext l=true:=by
      cases e:nameNext l with
      | true=>rfl
      | false=>rw[gH e] at e1;cases e1
     have X9:k<64:=by
      apply bI;exact λz=>hk ⟨hn,z⟩
     obtain⟨s,l1⟩:=x;rw[e1] at h;change (takeSign 61 l1 >>= _)=_ at h;cases e2:takeSign 61 l1 with
     | error f=>rw[e2] at h;cases h
     | ok l2=>
      rw[e2] at h;change (Vasesd.takeNode l2 >>= _)=_ at h;cases e3:Vasesd.takeNode l2 with
      | error f=>rw[e3] at h;cases h
      | ok x=>
       obtain⟨b,l3⟩:=x;rw[e3] at h;change (Vasesd.takeStates n (k+1) l3 >>= _)=_ at h;cases e4:Vasesd.takeStates n (k+1) l3 with
       | error f=>rw[e4] at h;cases h
       | ok rs=>
        rw[e4] at h;cases h;obtain⟨h1,h2⟩:=Bm n (k+1) l3 rs e4;refine⟨.inr ?_,λs' hs=>?_⟩
        .rcases h1 with rfl|h1
         .simp;lia
         .simp;lia
        .rcases aw.mp hs with rfl|hs
         .exact OR e3
         .exact h2 s' hs
theorem QP(h:lV b=.ok r):G4 r/\∀s∈r.states,yt s.2:=by
 unfold lV at h
 repeat (split at h<;>first|(cases h;done)|skip)
 rename_i ss e;cases h;unfold ro at e;split at e
 .cases e
 .obtain⟨h1,h2⟩:=Bm _ _ _ _ e;refine⟨⟨?_,λs hs=>⟨(h2 s hs).1,(h2 s hs).2.1⟩⟩,h2⟩;rcases h1 with z|z
  .show ss.length<=64;rw[z];simp
  .show ss.length<=64
   lia
def uQ(ns:List Bytes)(b:Vasesd.RawBranch)(c:Vasesd.Branch):Prop:=c.label=b.label.name/\c.ranges=b.ranges/\c.hands=b.hands.map (·.name)/\ns[c.to]?=some b.to.name
def CG(ns:List Bytes):Vasesd.RawNode->Vasesd.Node->Prop
 | .halt_,.halt_=>True
 | .send x y bs,.send x' y' cs=>x'=x.name/\y'=y.name/\Paired (uQ ns) bs cs/\(cs.map (·.label)).Nodup
 | .recv x y bs,.recv x' y' cs=>x'=x.name/\y'=y.name/\Paired (uQ ns) bs cs/\(cs.map (·.label)).Nodup
 | _,_=>False
def Bn(ns:List Bytes)(s:PName×Vasesd.RawNode)(x:Bytes×Vasesd.Node):Prop:=x.1=s.1.name/\CG ns s.2 x.2
theorem Ha{w:Bytes}:∀{bf:List Bytes} {hs:List PName} {xs:List Bytes},Vasesd.namedHands w bf hs=.ok xs->xs=hs.map (·.name)
 | _,[],xs,h=>by cases h;rfl
 | bf,p::r,xs,h=>by
  change (if p.name=w then _ else if bf.contains p.name=true then _ else _)=_ at h;split at h
  .cases h
  .split at h
   .cases h
   .change (Vasesd.namedHands w (bf++[p.name]) r >>= _)=_ at h;cases e:Vasesd.namedHands w (bf++[p.name]) r with
    | error f=>rw[e] at h;cases h
    | ok ys=>rw[e] at h;cases h;rw[Ha e];rfl
theorem Hb(h:Vasesd.known ns p=.ok i):ns[i]?=some p.name:=by
 unfold Vasesd.known Vasesd.place at h;split at h
 .rename_i j e;cases h;obtain⟨h1,h2,_⟩:=List.findIdx?_eq_some_iff_getElem.mp e;rw[aR h1];exact au some (by simpa using h2)
 .cases h
theorem kU{w:Bytes}{ns:List Bytes}:∀{bf:List Bytes} {bs:List Vasesd.RawBranch} {cs:List Vasesd.Branch},Vasesd.namedBranches w ns bf bs=.ok cs->Paired (uQ ns) bs cs/\(cs.map (·.label)).Nodup/\∀x∈bf,∀c∈cs,c.label≠x
 | _,[],cs,h=>by cases h;exact⟨.nil,by simp,by simp⟩
 | bf,b::r,cs,h=>by
  change (if bf.contains b.label.name=true then _ else _)=_ at h;split at h
  .cases h
  .rename_i hc;change (Vasesd.namedHands w [] b.hands >>= _)=_ at h;cases e1:Vasesd.namedHands w [] b.hands with
   | error f=>rw[e1] at h;cases h
   | ok hs=>
    rw[e1] at h;change (Vasesd.known ns b.to >>= _)=_ at h;cases e2:Vasesd.known ns b.to with
    | error f=>rw[e2] at h;cases h
    | ok i=>
     rw[e2] at h;change (Vasesd.namedBranches w ns (bf++[b.label.name]) r >>= _)=_ at h;cases e3:Vasesd.namedBranches w ns (bf++[b.label.name]) r with
     | error f=>rw[e3] at h;cases h
     | ok ds=>
      rw[e3] at h;cases h;obtain⟨h1,h2,h3⟩:=kU e3;refine⟨.cons ⟨rfl,rfl,Ha e1,Hb e2⟩ h1,?_,λx hx c Za=>?_⟩
      .rw[ay,bL];refine⟨λhm=>?_,h2⟩;obtain⟨c,Zf,YE⟩:=aW.mp hm;exact h3 b.label.name (by simp) c Zf YE
      .rcases aw.mp Za with rfl|Za
       .intro z;apply hc;rw[List.contains_iff_mem];rw[←z] at hx;exact hx
       .exact h3 x (by simp[hx]) c Za
theorem QQ{w:Bytes}{ns:List Bytes}{n:Vasesd.RawNode}{m:Vasesd.Node}(h:Vasesd.namedNode w ns n=.ok m):CG ns n m:=by
 cases n with
 | halt_=>cases h;trivial
 | send x y bs=>
  change (if x.name=y.name then _ else Except.map _ (Vasesd.namedBranches w ns [] bs))=_ at h;split at h
  .cases h
  .cases e:Vasesd.namedBranches w ns [] bs with
   | error f=>rw[e] at h;cases h
   | ok cs=>rw[e] at h;cases h;exact⟨rfl,rfl,(kU e).1,(kU e).2.1⟩
 | recv x y bs=>
  change (if x.name=y.name then _ else Except.map _ (Vasesd.namedBranches w ns [] bs))=_ at h;split at h
  .cases h
  .cases e:Vasesd.namedBranches w ns [] bs with
   | error f=>rw[e] at h;cases h
   | ok cs=>rw[e] at h;cases h;exact⟨rfl,rfl,(kU e).1,(kU e).2.1⟩
theorem w6{w:Bytes}{ns:List Bytes}:∀{bf:List Bytes} {ss:List (PName×Vasesd.RawNode)} {xs:List (Bytes×Vasesd.Node)},Vasesd.namedStates w ns bf ss=.ok xs->Paired (Bn ns) ss xs/\(ss.map (·.1.name)).Nodup/\∀x∈bf,∀s∈ss,s.1.name≠x
 | _,[],xs,h=>by cases h;exact⟨.nil,by simp,by simp⟩
 | bf,(s,b)::r,xs,h=>by
  change (if bf.contains s.name=true then _ else _)=_ at h;split at h
  .cases h
  .rename_i hc;change (Vasesd.namedNode w ns b >>= _)=_ at h;cases e1:Vasesd.namedNode w ns b with
   | error f=>rw[e1] at h;cases h
   | ok m=>
    rw[e1] at h;change (Vasesd.namedStates w ns (bf++[s.name]) r >>= _)=_ at h;cases e3:Vasesd.namedStates w ns (bf++[s.name]) r with
    | error f=>rw[e3] at h;cases h
    | ok ds=>
     rw[e3] at h;cases h;obtain⟨h1,h2,h3⟩:=w6 e3;refine⟨.cons ⟨rfl,QQ e1⟩ h1,?_,λx hx c Za=>?_⟩
     .rw[ay,bL];refine⟨λhm=>?_,h2⟩;obtain⟨c,Zf,YE⟩:=aW.mp hm;exact h3 s.name (by simp) c Zf YE
     .rcases aw.mp Za with rfl|Za
      .intro z;apply hc;rw[List.contains_iff_mem];rw[←z] at hx;exact hx
      .exact h3 x (by simp[hx]) c Za
structure w8(r:Vasesd.Raw)(t:cW):Prop where
 title:t.title=r.title.name
 worker:t.worker=r.worker.name
 start:(r.states.map λs=>s.1.name)[t.start]?=some r.start.name
 nd:(r.states.map λs=>s.1.name).Nodup
 states:Paired (Bn (r.states.map λs=>s.1.name)) r.states t.states
theorem OS(h:Vasesd.named r=.ok t):w8 r t:=by
 change (Vasesd.known (r.states.map λs=>s.1.name) r.start >>= _)=_ at h;cases e1:Vasesd.known (r.states.map λs=>s.1.name) r.start with
 | error f=>rw[e1] at h;cases h
 | ok i=>
  rw[e1] at h;change (Vasesd.namedStates r.worker.name (r.states.map λs=>s.1.name) [] r.states >>= _)=_ at h;cases e2:Vasesd.namedStates r.worker.name (r.states.map λs=>s.1.name) [] r.states with
  | error f=>rw[e2] at h;cases h
  | ok xs=>
   rw[e2] at h;cases h;exact⟨rfl,rfl,Hb e1,(w6 e2).2.1,(w6 e2).1⟩
def eV(r:Vasesd.Raw):List Bytes:=[joined [32] [word "part",r.title.name,word "of",r.worker.name],joined [32] [word "start",r.start.name]]++r.states.map jg
def mT(r:Vasesd.Raw):Bytes:=(eV r).flatMap (·++[10])
theorem Paired.map_eq{α β γ:Type}{R:α->β->Prop}{f:α->γ}{g:β->γ}(h:∀a b,R a b->f a=g b):∀{xs:List α} {ys:List β},Paired R xs ys->xs.map f=ys.map g:=by
 intro xs ys p
 induction p with
 | nil=>rfl
 | cons a _ ih=>rw[ay,ay,h _ _ a,ih]
theorem Kk{r:Vasesd.Raw}{t:cW}(h:w8 r t){i:Nat}{n:Bytes}(e:(r.states.map λs=>s.1.name)[i]?=some n):t.stateName i=n:=by
 have e2:(r.states.map λs=>s.1.name)=t.states.map (·.1):=Paired.map_eq (λa b z=>z.1.symm) h.states;rw[e2,ak] at e;unfold Vasesd.Part.stateName;cases q:t.states[i]? with
 | none=>rw[q] at e;cases e
 | some x=>rw[q] at e;cases e;rfl
theorem w9(h:w8 r t)(e:uQ (r.states.map λs=>s.1.name) b c):eG b=Vasesd.showBranch t c:=by
 obtain⟨e1,e2,e3,e4⟩:=e;unfold eG Vasesd.showBranch i9;rw[Kk h e4,e1,e2,e3]
theorem Lv{r:Vasesd.Raw}{t:cW}(h:w8 r t){s:PName×Vasesd.RawNode}{x:Bytes×Vasesd.Node}(e:Bn (r.states.map λs=>s.1.name) s x):jg s=x.1++word " = "++Vasesd.showNode t x.2:=by
 obtain⟨e1,e2⟩:=e;obtain⟨nm,n⟩:=s;obtain⟨y,m⟩:=x;dsimp only at e1 e2;subst e1;have k1:word " = "=[32,61,32]:=by decide
 have k2:word " { "=[32,123,32]:=by decide
 have k3:word " }"=[32,125]:=by decide
 have k4:word "send "=word "send"++[32]:=by decide
 have k5:word "recv "=word "recv"++[32]:=by decide
 have k6:word " -> "=[32]++word "->"++[32]:=by decide
 have k7:word " <- "=[32]++word "<-"++[32]:=by decide
 cases n with
 | halt_=>cases m with
  | halt_=>
   show nm.name++[32]++([61]++[32]++word "stop")=nm.name++word " = "++word "stop";rw[k1];simp
  | send _ _ _=>exact e2.elim
  | recv _ _ _=>exact e2.elim
 | send x y bs=>cases m with
  | halt_=>exact e2.elim
  | recv _ _ _=>exact e2.elim
  | send x' y' cs=>
   obtain⟨rfl,rfl,hp,_⟩:=e2;have eb:bs.map eG=cs.map (Vasesd.showBranch t):=Paired.map_eq (λa b z=>w9 h z) hp;show nm.name++[32]++([61]++[32]++(word "send"++[32]++(x.name++[32]++(word "->"++[32]++(y.name++[32]++([123]++[32]++(joined (word " ; ") (bs.map eG)++[32]++[125])))))))=nm.name++word " = "++(word "send "++x.name++word " -> "++y.name++word " { "++joined (word " ; ") (cs.map (Vasesd.showBranch t))++word " }");rw[eb,k1,k2,k3,k4,k6];simp
 | recv x y bs=>cases m with
  | halt_=>exact e2.elim
  | send _ _ _=>exact e2.elim
  | recv x' y' cs=>
   obtain⟨rfl,rfl,hp,_⟩:=e2;have eb:bs.map eG=cs.map (Vasesd.showBranch t):=Paired.map_eq (λa b z=>w9 h z) hp;show nm.name++[32]++([61]++[32]++(word "recv"++[32]++(x.name++[32]++(word "<-"++[32]++(y.name++[32]++([123]++[32]++(joined (word " ; ") (bs.map eG)++[32]++[125])))))))=nm.name++word " = "++(word "recv "++x.name++word " <- "++y.name++word " { "++joined (word " ; ") (cs.map (Vasesd.showBranch t))++word " }");rw[eb,k1,k2,k3,k5,k7];simp
theorem Ny(h:w8 r t):mT r=t.shown:=by
 have e:(r.states.map jg).flatMap (·++[10])=t.states.flatMap λs=>s.1++word " = "++Vasesd.showNode t s.2++[10]:=by
  have hp:=h.states;generalize ac6:r.states=ss at hp;have:∀{ss:List (PName×Vasesd.RawNode)} {xs:List (Bytes×Vasesd.Node)},Paired (Bn (r.states.map λs=>s.1.name)) ss xs->(ss.map jg).flatMap (·++[10])=xs.flatMap λs=>s.1++word " = "++Vasesd.showNode t s.2++[10]:=by
   intro ss xs p
   induction p with
   | nil=>rfl
   | cons a _ ih=>rw[ay,bP,bP,ih,Lv h a]
  rw[←ac6];exact this h.states
 unfold mT eV Vasesd.Part.shown;rw[cJ,e,Kk h h.start,h.title,h.worker];have k1:word "part "=word "part"++[32]:=by decide
 have k2:word " of "=[32]++word "of"++[32]:=by decide
 have k3:word "start "=word "start"++[32]:=by decide
 show((word "part"++[32]++(r.title.name++[32]++(word "of"++[32]++r.worker.name)))++[10]++((word "start"++[32]++r.start.name)++[10]++[]))++_=_;rw[k1,k2,k3];simp
end
structure jE(G G':Hp):Prop where
 ins:∀b C dx fs,G b=some (.ins C dx fs)->(fs.length≠5/\2<=fs.length)->G' b=some (.ins C dx fs)
 tup:∀b xs,G b=some (.tup xs)->G' b=some (.tup xs)
 lstI:∀b (ps:List cS),G b=some (.lst (ps.map V.ref))->(∀p∈ps,∃C dx fs,G p=some (.ins C dx fs))->G' b=some (.lst (ps.map V.ref))
 lstV:∀b x xs,G b=some (.lst (x::xs))->(∀r,x≠.ref r)->G' b=some (.lst (x::xs))
theorem pd(h:bn G G'):jE G G':=⟨λb C dx fs e _=>h _ _ e,λb xs e=>h _ _ e,λb ps e _=>h _ _ e,λb x xs e _=>h _ _ e⟩
theorem Lw(e:G p=some (.ins C dx fs))(h5:fs.length=5):jE G (upd G p o):=by
 have ne:∀{b:cS} {u:HO},G b=some u->(∀C dx fs,u=.ins C dx fs->fs.length≠5)->upd G p o b=some u:=λ{b u} eb hu=>by
  rw[ap (λz=>?_)]
  .exact eb
  .rw[z,e] at eb;cases eb;exact hu _ _ _ rfl h5
 exact⟨λb C dx fs eb h=>ne eb (λC' Yf YI z=>by cases z;exact h.1),λb xs eb=>ne eb (λ_ _ _ z=>by cases z),λb ps eb _=>ne eb (λ_ _ _ z=>by cases z),λb x xs eb _=>ne eb (λ_ _ _ z=>by cases z)⟩
def pf{α:Type}(P:Hp->cS->α->Prop):Prop:=∀G G' p x,jE G G'->P G p x->P G' p x
def oh{α:Type}(P:Hp->cS->α->Prop):Prop:=∀G p x,P G p x->∃C dx fs,G p=some (.ins C dx fs)
theorem pf.mono{α:Type}{P:Hp->cS->α->Prop}(m:pf P):pV P:=λG G' p x h=>m G G' p x (pd h)
theorem dX.ins{α:Type}{P:Hp->cS->α->Prop}(hi:oh P){G:Hp}{ps:List cS}{xs:List α}(e:dX P G ps xs):∀p∈ps,∃C dx fs,G p=some (.ins C dx fs):=by
 unfold dX at e
 induction e with
 | nil=>intro p hp;cases hp
 | cons a _ ih=>
  intro p hp;rcases aw.mp hp with rfl|hp
  .exact hi _ _ _ a
  .exact ih p hp
theorem IsList.keep{α:Type}{P:Hp->cS->α->Prop}(m:pf P)(hi:oh P){G G':Hp}(h:jE G G'){l:cS}{xs:List α}:IsList P G l xs->IsList P G' l xs:=λ⟨ps,e,z⟩=>⟨ps,h.lstI l ps e (z.ins hi),z.imp λp x q=>m _ _ _ _ h q⟩
theorem gp.keep(h:jE G G'):gp a G p t->gp a G' p t:=λ⟨wf,dx,c,be,e,x⟩=>⟨wf,dx,c,be,h.ins _ _ _ _ e (by show 4≠5/\2<=4;decide),by
 cases hk:t.tok with
 | text b=>rw[hk] at x;obtain⟨q,e1,e2⟩:=x;exact⟨q,e1,h.tup _ _ e2⟩
 | _=>rw[hk] at x;exact x⟩
def uR(a:dj)(G:Hp)(p:cS)(b:Bytes):Prop:=∃pl,dH a G p ⟨pl,b⟩
theorem p9:pf (uR a):=λG G' p x h ⟨pl,e⟩=>⟨pl,gp.keep h e⟩
theorem SB:oh (uR a):=λG p x ⟨pl,e⟩=>let ⟨dx,be,o⟩:=e.obj;⟨_,_,_,o⟩
theorem uR.obj(h:uR a G p b):∃dx pl be,G p=some (.ins a.iO dx [("kind",.int 1),("content",.str (strOf b)),("place",.int pl),("behind",be)]):=
 let ⟨pl,e⟩:=h;let ⟨dx,be,o⟩:=e.obj;⟨dx,_,be,o⟩
theorem Lx:pf (fE a):=λG G' p x h ⟨wf,dx,e⟩=>⟨wf,dx,by cases x<;>exact h.ins _ _ _ _ e (by show 3≠5/\2<=3;decide)⟩
theorem OT:oh (fE a):=λG p x ⟨wf,dx,e⟩=>by cases x<;>exact⟨_,_,_,e⟩
structure xa(N:Nat)(b:Vasesd.Branch):Prop where
 len:b.ranges.length<=4
 wf:∀r∈b.ranges,fe r
 lab:b.label.length<=16
 hl:b.hands.length<=2
 h16:∀h∈b.hands,h.length<=16
 to_:b.to<N
structure P3(a:dj)(G:Hp)(pl ps ph:cS)(n g:Int)(b:Vasesd.Branch):Prop where
 label:uR a G pl b.label
 spans:IsList (fE a) G ps b.ranges
 handed:IsList (uR a) G ph b.hands
 many:n=(Vasesq.rangesSize b.ranges:Nat)
 goal:g=(b.to:Nat)
def iW(a:dj)(G:Hp)(p:cS)(b:Vasesd.Branch):Prop:=∃dx pl ps ph pt n g,G p=some (.ins a.eM dx (i6 pl ps ph pt n g))/\P3 a G pl ps ph n g b
theorem P3.keep{G G':Hp}(h:jE G G'){pl ps ph:cS}{n g:Int}{b:Vasesd.Branch}(x:P3 a G pl ps ph n g b):P3 a G' pl ps ph n g b:=
 ⟨p9 _ _ _ _ h x.label,x.spans.keep Lx OT h,x.handed.keep p9 SB h,x.many,x.goal⟩
theorem fJ:pf (iW a):=λG G' p x h ⟨dx,pl,ps,ph,pt,n,g,e,z⟩=>⟨dx,pl,ps,ph,pt,n,g,h.ins _ _ _ _ e (by show 6≠5/\2<=6;decide),z.keep h⟩
theorem ue:oh (iW a):=λG p x ⟨dx,pl,ps,ph,pt,n,g,e,z⟩=>⟨_,_,_,e⟩
def si(a:dj)(G:Hp)(p:cS)(s:Bytes×Vasesd.Node):Prop:=∃dx pn d f g pb bl,G p=some (.ins a.ge dx (iB pn d f g pb bl))/\(d=("stop":Str)↔s.2.branches=[])/\IsList (iW a) G pb s.2.branches/\IsList (iW a) G bl (Vasesd.sorted s.2.branches)
theorem mU:pf (si a):=λG G' p x h ⟨dx,pn,d,f,g,pb,bl,e,i,z1,z2⟩=>⟨dx,pn,d,f,g,pb,bl,h.ins _ _ _ _ e (by show 6≠5/\2<=6;decide),i,z1.keep fJ ue h,z2.keep fJ ue h⟩
theorem SC:oh (si a):=λG p x ⟨dx,pn,d,f,g,pb,bl,e,_,_,_⟩=>⟨_,_,_,e⟩
structure qa(t:cW):Prop where
 n:t.states.length<=64
 lab:FU t
 br:∀s,∀b∈t.branches s,xa t.states.length b
 bl:∀s,(t.branches s).length<=16
 shown:t.shown.length<=4096
def IsPart(a:dj)(G:Hp)(p:cS)(t:cW):Prop:=qa t/\∃dx pt pw Xi Xk fm,G p=some (.ins a.ic dx (pZ pt pw Xi Xk (.ref fm)))/\IsList (si a) G Xk t.states/\G fm=some (.lst (dc t.shown))
theorem Ly(h:jE G G')(e:G l=some (.lst (dc b))):G' l=some (.lst (dc b)):=by
 cases b with
 | nil=>exact h.lstI l [] e (by simp)
 | cons x r=>exact h.lstV l _ _ e (by intro r z;cases z)
theorem IsPart.keep{G G':Hp}(h:jE G G'){p:cS}{t:cW}(hp:∀o,G p=some o->G' p=some o):IsPart a G p t->IsPart a G' p t:=λ⟨wf,dx,pt,pw,Xi,Xk,fm,e1,e2,e3⟩=>
 ⟨wf,dx,pt,pw,Xi,Xk,fm,hp _ e1,e2.keep mU SC h,Ly h e3⟩
def Lz:Vasesb.Val->Prop
 | .flag _=>True
 | .num n=>-1000000000<=n/\n<=1000000000
 | .text b=>b.length<=255
noncomputable def mV:Vasesb.Val->Str
 | .flag _=>"flag"
 | .num _=>"num"
 | .text _=>"text"
def Vo(G:Hp):Vasesb.Val->V->Prop
 | .flag b,c=>c=.int (if b=true then 1 else 0)
 | .num n,c=>c=.int n
 | .text b,c=>∃q,c=.ref q/\G q=some (.tup (dc b))
def ja(a:dj)(G:Hp)(p:cS)(v:Vasesb.Val):Prop:=Lz v/\∃dx c,G p=some (.ins a.yz dx [("kind",.str (mV v)),("content",c)])/\Vo G v c
theorem iN:pf (ja a):=λG G' p x h ⟨wf,dx,c,e,z⟩=>⟨wf,dx,c,h.ins _ _ _ _ e (by show 2≠5/\2<=2;decide),by
 cases x with
 | text b=>obtain⟨q,e1,e2⟩:=z;exact⟨q,e1,h.tup _ _ e2⟩
 | flag b=>exact z
 | num n=>exact z⟩
theorem Kl:oh (ja a):=λG p x ⟨wf,dx,c,e,z⟩=>⟨_,_,_,e⟩
def z0(l:Bytes)(g h:cS):List (Str×V):=[("label",.str (strOf l)),("given",.ref g),("handed",.ref h)]
def ku(hs:List Bytes):List V:=(hs.map strOf).map V.str
def iH(a:dj)(G:Hp)(p:cS)(m:Vasesq.Msg):Prop:=∃dx g h,G p=some (.ins a.lZ dx (z0 m.label g h))/\IsList (ja a) G g m.vals/\G h=some (.lst (ku m.hands))/\m.vals.length<=4/\m.hands.length<=2
theorem Bo(h:jE G G')(e:G l=some (.lst (ku hs))):G' l=some (.lst (ku hs)):=by
 cases hs with
 | nil=>exact h.lstI l [] e (by simp)
 | cons x r=>exact h.lstV l _ _ e (by intro r z;cases z)
theorem hX:pf (iH a):=λG G' p x h ⟨dx,g,hh,e,z1,z2,z3,z4⟩=>⟨dx,g,hh,h.ins _ _ _ _ e (by show 3≠5/\2<=3;decide),z1.keep iN Kl h,Bo h z2,z3,z4⟩
theorem Km:oh (iH a):=λG p x ⟨dx,g,hh,e,_,_,_,_⟩=>⟨_,_,_,e⟩
section
open VasesBase (joined showRange showInt showNat)
theorem OU:("part":Str)=strOf (word "part"):=by rfl'
theorem SD:("of":Str)=strOf (word "of"):=by rfl'
theorem Nz:("start":Str)=strOf (word "start"):=by rfl'
theorem SE:("\n":Str)=strOf [10]:=by rfl'
theorem Kn:∀xs:List Bytes,joined [] xs=xs.flatten
 | []=>rfl
 | [x]=>by simp[joined]
 | x::y::r=>by
  show x++[]++joined [] (y::r)=_;rw[Kn (y::r)];simp
def Vp(a:dj):Sp:=λvs H Q _=>∃p r,vs=[.ref p]/\nv a H p r/\G4 r/\∀l H',H l=none->bn H H'->H' l=some (.lst (dc (mT r)))->Q (.ref l) H'
theorem Hc:fc P w base T.xP 4 (Vp a):=by
 specialize T.xP.fn.okN ["part","lines","state","line"];obtain⟨p,r,rfl,⟨dx,pt,pw,Xi,Xk,fm,ho,Yk⟩,hlen,q⟩:=h;refine⟨_,(ad (dz 1 nd (dw (dg (jD (dO) (dw (db (dO) (db (da (da (pv 0))) (dg (dO) (da (da (pv 0)))))))) (jD (dO) (dw (dg (dO) (da (da (pv 0))))))))) (ad (fv PassesOwn.never rfl (eW (da (pv 0))) (gh 2 nd) (am (dB (ve (pv 1) (df T.va (EU T) hr ci (dq (pv 2))))))) (am (bi (df T.jh (iM T) hr ci (dq (jD (dO) (wC [("line",3)] nd (eW (pv 1)) (λ_ _ _ _ _=>(gh 3 nd)) (λ_ _ _ _ _=>by exact(dF im (pv 3) (dO))))))))))),?_⟩;unfold pZ at ho;obtain⟨ps,Xe,hE⟩:=Yk.states;obtain⟨Xq,Zb,o1⟩:=Yk.title.obj;obtain⟨XW,abk,o2⟩:=Yk.worker.obj;obtain⟨aeq,afP,o3⟩:=Yk.start.obj;have l1:=Yk.title.len;have l2:=Yk.worker.len;have l3:=Yk.start.len;left;refine⟨by(show 4<=sizeLine;decide),λw1 acb=>?_⟩;have k1:((([word "part",r.title.name,word "of",r.worker.name]:List Bytes).map List.length).sum)+4*1<=100:=by
  show(word "part").length+(r.title.name.length+((word "of").length+(r.worker.name.length+0)))+4<=100;have e1:(word "part").length=4:=rfl;have e2:(word "of").length=2:=rfl;rw[e1,e2]
  lia
 refine jQ (xs:=[word "part",r.title.name,word "of",r.worker.name]) ke (by rw[bv,OU,SD];rfl) (aA k1 (by decide)) ?_;have s1:bn H (upd H w1 (.lst [.str "part",.str (strOf r.title.name),.str "of",.str (strOf r.worker.name)])):=bn.upd acb;generalize upd H w1 (.lst [.str "part",.str (strOf r.title.name),.str "of",.str (strOf r.worker.name)])=H1 at s1;have YF:=s1 _ _ ho;have o31:=s1 _ _ o3;left;refine⟨by(show 2<=sizeLine;decide),λw2 acd=>?_⟩;have k2:((([word "start",r.start.name]:List Bytes).map List.length).sum)+2*1<=100:=by
  show(word "start").length+(r.start.name.length+0)+2<=100;have e1:(word "start").length=5:=rfl;rw[e1]
  lia
 refine jQ (xs:=[word "start",r.start.name]) ke (by rw[bv,Nz];rfl) (aA k2 (by decide)) ?_;have s2:bn H (upd H1 w2 (.lst [.str "start",.str (strOf r.start.name)])):=s1.trans (bn.upd acd);generalize upd H1 w2 (.lst [.str "start",.str (strOf r.start.name)])=H2 at s2;left;refine⟨by(show 2<=sizeLine;decide),λll afZ=>?_⟩;have nll:H ll=none:=s2.free afZ;have s3:bn H (upd H2 ll (.lst [.str (strOf (joined [32] [word "part",r.title.name,word "of",r.worker.name])),.str (strOf (joined [32] [word "start",r.start.name]))])):=s2.trans (bn.upd afZ);have Y2:upd H2 ll (.lst [.str (strOf (joined [32] [word "part",r.title.name,word "of",r.worker.name])),.str (strOf (joined [32] [word "start",r.start.name]))]) ll=some (.lst (((eV r).take 2).map λl=>V.str (strOf l))):=bv;generalize upd H2 ll (.lst [.str (strOf (joined [32] [word "part",r.title.name,word "of",r.worker.name])),.str (strOf (joined [32] [word "start",r.start.name]))])=H3 at s3 Y2;have X4:=s3 _ _ ho;have agP:=s3 _ _ Xe;have agQ:(eV r).length<=66:=by
  unfold eV;have:=hlen.1;simp
  lia
 left;refine lE (xs:=ps.map V.ref) (λj U H'=>bn H H'/\(∃x y,U=[some (.ref p),some (.ref ll),x,y])/\H' ll=some (.lst (((eV r).take (2+j)).map λl=>V.str (strOf l)))/\∀i s,i<j->r.states[i]?=some s->(jg s).length<=10000) ⟨s3,⟨none,none,rfl⟩,Y2,λi s h=>by lia⟩ (λi U H' _ h=>h.1 _ _ Xe) ?_ ?_
 .rintro j x U H' hx ⟨sm,⟨y,z,rfl⟩,XY,abn⟩;obtain⟨Yc,hp,rfl⟩:=eY hx;obtain⟨st,hb,Xf⟩:=hE.get' hp;have hm:=aJ hb;left;refine' ik XY ?_;refine⟨Yc,st,rfl,ju a _ _ _ _ sm Xf,(hlen.2 st hm).1,(hlen.2 st hm).2,λH4 s4 Xg=>?_⟩;refine⟨ll,_,_,rfl,rfl,s4 _ _ XY,?_,?_⟩
  .rw[af,aL,sizeLine_eq]
   lia
  .refine⟨λc o h=>by rw[ap (ca h nll)];exact s4 _ _ (sm _ _ h),⟨some (.ref Yc),z,rfl⟩,?_,λi s hi hs=>?_⟩
   .rw[bv];have e:(eV r)[2+j]?=some (jg st):=by
     unfold eV;rw[cj (by simp)];simp[hb]
    rw[show 2+(j+1)=(2+j)+1 by lia,eP e,aD];rfl
   .by_cases e:i=j
    .subst e;rw[hb] at hs;cases hs;exact Xg
    .exact abn i s (by lia) hs
 .rintro U H' ⟨sm,⟨y,z,rfl⟩,XY,abn⟩;have e1:(ps.map V.ref).length=r.states.length:=by rw[af,hE.len]
  rw[e1] at XY abn;have e2:(eV r).take (2+r.states.length)=eV r:=by
   apply cD;unfold eV;simp
   lia
  rw[e2] at XY;have abo:∀l∈eV r,l.length<=10000:=by
   intro l hl;unfold eV at hl;rcases bq.mp hl with hl|hl
   .have j1:=gc [32] [word "part",r.title.name,word "of",r.worker.name];have j2:=gc [32] [word "start",r.start.name];simp at hl;rcases hl with rfl|rfl
    .exact aA j1 (aA k1 (by decide))
    .exact aA j2 (aA k2 (by decide))
   .obtain⟨s,hs,rfl⟩:=aW.mp hl;obtain⟨i,hi⟩:=bw hs;exact abn i s (ax.mp hi).1 hi
  have hsum:((eV r).map λl=>l.length+1).sum<=66*10001:=by
   have:=og (f:=λl:Bytes=>l.length+1) (k:=10001) (xs:=eV r) (λl hl=>by have:=abo l hl;lia);exact aA this (Nat.mul_le_mul_right _ agQ)
  left;intro D hD;refine yO ((eV r).map λl=>V.str (strOf (l++[10]))) (by rw[af,af]) XY hD (by rw[af,sizeLine_eq];lia) (λi x y H4 R hx hy af0 k=>?_) gK ?_
  .rw[ak] at hx hy;cases e:(eV r)[i]? with
   | none=>rw[e] at hx;cases hx
   | some l=>
    rw[e] at hx hy;cases hx;cases hy;have:=abo l (aJ e);left;refine'⟨rfl,?_⟩;refine i8 rfl SE (by simp;lia) ?_;exact k _ (bn.refl _)
  .intro H4 s4 aai;have e3:((eV r).map λl=>l++[10]).map List.length=(eV r).map λl=>l.length+1:=by
    rw[aO];apply cC;intro l _;simp
   left;refine jQ (sep:=[]) (xs:=(eV r).map λl=>l++[10]) Nv (by rw[aai,aO,aO];rfl) (by rw[e3];simp;lia) ?_;have e4:joined [] ((eV r).map λl=>l++[10])=mT r:=by
    rw[Kn];rfl
   rw[e4];have aer:(mT r).length<=16000000:=by
    have:=gc [] ((eV r).map λl=>l++[10]);rw[e4,e3] at this;simp at this
    lia
   left;refine⟨_,mT r,rfl,rfl,aer,λl H5 aaU s5 h5=>?_⟩;have aes:=sm.trans (s4.trans s5);exact q l H5 (sm.trans s4 |>.free aaU) aes h5
end
section
open VasesBase (joined showRange showInt showNat)
theorem Paired.at:∀{xs:List α} {ys:List β},Paired R xs ys->∀{i:Nat} {x:α},xs[i]?=some x->∃y,ys[i]?=some y/\R x y:=by
 intro xs ys p
 induction p with
 | nil=>intro i x h;simp at h
 | cons a _ ih=>
  intro i x h;cases i with
  | zero=>simp at h;subst h;exact⟨_,rfl,a⟩
  | succ i=>simp at h ⊢;exact ih h
theorem Paired.at':∀{xs:List α} {ys:List β},Paired R xs ys->∀{i:Nat} {y:β},ys[i]?=some y->∃x,xs[i]?=some x/\R x y:=by
 intro xs ys p
 induction p with
 | nil=>intro i x h;simp at h
 | cons a _ ih=>
  intro i x h;cases i with
  | zero=>simp at h;subst h;exact⟨_,rfl,a⟩
  | succ i=>simp at h ⊢;exact ih h
theorem Paired.length_eq:∀{xs:List α} {ys:List β},Paired R xs ys->xs.length=ys.length:=by
 intro xs ys p
 induction p with
 | nil=>rfl
 | cons a _ ih=>simp[ih]
theorem CH(a:dj):pV (nv a):=λ_ _ _ _ h ⟨dx,t,w,s,st,fm,e,z⟩=>⟨dx,t,w,s,st,fm,h _ _ e,⟨dG a _ _ _ _ h z.title,dG a _ _ _ _ h z.worker,dG a _ _ _ _ h z.start,z.states.same (ju a) h⟩⟩
theorem P4(h:dH a H p n):uR a H p n.name:=⟨n.place,h⟩
theorem TV(Zi:ns.Nodup)(x:yn a ns G p b)(r:uQ ns b c):iW a G p c:=by
 obtain⟨dx,pl,ps,ph,pt,n,i,e,hb,hi⟩:=x;obtain⟨r1,r2,r3,r4⟩:=r;refine⟨dx,pl,ps,ph,pt,n,i,e,⟨by rw[r1];exact P4 hb.label,by rw[r2];exact hb.spans,?_,by rw[hb.many,r2],?_⟩⟩
 .obtain⟨hs,e1,e2⟩:=hb.handed;refine⟨hs,e1,?_⟩;rw[r3];unfold dX at *;clear hb e e1 r3;generalize b.hands=hl at e2
  induction e2 with
  | nil=>exact .nil
  | cons q _ ih=>exact .cons (P4 q) ih
 .have:i=c.to:=Tr Zi hi r4;rw[this]
theorem QR(x:yn a ns G p b)(r:uQ ns b c)(h2:b.hands.length<=2):xa ns.length c:=by
 obtain⟨dx,pl,ps,ph,pt,n,i,e,hb,hi⟩:=x;obtain⟨r1,r2,r3,r4⟩:=r;obtain⟨ss,_,es⟩:=hb.spans;obtain⟨hs,_,eh⟩:=hb.handed;refine⟨by rw[r2];exact hb.len,by rw[r2];exact es.all λ_ _ z=>z.1,by rw[r1];exact hb.label.len,by rw[r3,af];exact h2,?_,(ax.mp r4).1⟩;rw[r3];intro h hm;obtain⟨nm,hn,rfl⟩:=aW.mp hm;exact eh.all (R:=λnm=>nm.name.length<=16) (λ_ _ z=>dH.len z) nm hn
theorem qc(h:CG ns n m):Paired (uQ ns) (dI n) m.branches/\(m.branches.map (·.label)).Nodup:=by
 cases n<;>cases m<;>first|exact h.elim|exact⟨.nil,by simp[Vasesd.Node.branches]⟩|exact⟨h.2.2.1,h.2.2.2⟩
theorem Hd{α:Type}{P:Hp->cS->α->Prop}{G:Hp}:∀{l:List (cS×α)},(∀y∈l,P G y.1 y.2)->dX P G (l.map Prod.fst) (l.map Prod.snd)
 | [],_=>.nil
 | y::r,h=>.cons (h y (by simp)) (Hd λz hz=>h z (by simp[hz]))
theorem OV{α:Type}{P:Hp->cS->α->Prop}{G:Hp}{ps:List cS}{xs:List α}(e:dX P G ps xs):∀y∈ps.zip xs,P G y.1 y.2:=by
 unfold dX at e
 induction e with
 | nil=>intro y hy;cases hy
 | cons a _ ih=>
  intro y hy;rcases aw.mp hy with rfl|hy
  .exact a
  .exact ih y hy
theorem He:decide ((strOf x).cps.toList<(strOf y).cps.toList)=Vasesd.before x y:=by
 rw[Ek];unfold strOf;simp
theorem SG{G:Hp}{pb bl:cS}{cs:List Vasesd.Branch}(h:Bi a G pb bl)(hl:IsList (iW a) G pb cs)(hn:(cs.map (·.label)).Nodup):IsList (iW a) G bl (Vasesd.sorted cs):=by
 obtain⟨ps,kz,zs,e1,e2,e3,e4,e5,e6⟩:=h;obtain⟨ZO,q1,q2⟩:=hl;have:ZO=ps:=by
  rw[e1] at q1;simp at q1;exact((List.map_inj_right (λx y z=>by cases z;rfl)).mp q1).symm
 subst this;have hlen:=q2.len;have ek:kz=cs.map λc=>strOf c.label:=by
  apply List.ext_getElem?;intro i;rw[ak];cases ep:ZO[i]? with
  | none=>
   have h1:=List.getElem?_eq_none_iff.mp ep;rw[cq (by lia),cq (by lia)];rfl
  | some p=>
   have h1:=(ax.mp ep).1;obtain⟨c,hc,Xs⟩:=q2.get' ep;have hk:kz[i]?=some kz[i]:=by simp
   obtain⟨dx,pl,ps,ph,pt,n,g,nm,o1,o2,o3⟩:=e3 i p _ ep hk;obtain⟨Yf,aed,ac7,aee,aef,n',g',o4,o5⟩:=Xs;rw[o1] at o4;injection o4 with o4;injection o4 with _ _ o4;obtain⟨rfl,_,_,_,_,_⟩:=Ki o4;rw[hk,hc,o3];obtain⟨abp,o6⟩:=o5.label;exact au some (au strOf (EC o2 o6))
 subst ek
 obtain⟨ys,e7,e8⟩:=zu (f:=λy:cS×Vasesd.Branch=>(strOf y.2.label,y.1)) e4 (xs:=ZO.zip cs) (by
  clear e4 e3 e1 q2 e6 hn e2;generalize ZO=qs at hlen
  induction qs generalizing cs with
  | nil=>cases cs<;>simp
  | cons p r ih=>cases cs with
   | nil=>simp at hlen
   | cons c s=>simp[ih (cs:=s) (by simpa using hlen)])
 have aaK:∀y∈ys,iW a G y.1 y.2:=λy hy=>OV q2 y (e8.mem_iff.mp hy);have aas:(ys.map Prod.snd).Perm cs:=by
  have:=e8.map Prod.snd;rw[List.map_snd_zip (by lia)] at this;exact this
 have aat:(ys.map Prod.snd).Pairwise Le:=by
  rw[e7,bY] at e5;rw[bY];refine e5.imp λ{x y} z=>?_;have:=z;rw[He] at this;exact this
 refine⟨ys.map Prod.fst,?_,?_⟩
 .rw[e6,e7,aO,aO];rfl
 .rw[←IE hn aas aat];exact Hd aaK
theorem TW(Zi:ns.Nodup)(h:Bj a ns G p s)(r:Bn ns s x)(hl:yt s.2):si a G p x/\(∀b∈x.2.branches,xa ns.length b)/\x.2.branches.length<=16/\(x.2.branches.map (·.label)).Nodup:=by
 obtain⟨dx,pn,d,f,g,pb,bl,e,hn,Xf,⟨ps,e1,e2⟩,hb⟩:=h;obtain⟨r1,r2⟩:=r;obtain⟨hp,YQ⟩:=qc r2;have hlen:=Paired.length_eq hp;have hE:dX (iW a) G ps x.2.branches:=by
  refine yo (by rw[e2.len,hlen]) λi q c hq hc=>?_;obtain⟨b,Zk,Yu⟩:=e2.get' hq;obtain⟨c',Zf,YE⟩:=Paired.at hp Zk;rw[hc] at Zf;cases Zf;exact TV Zi Yu YE
 refine⟨⟨dx,pn,d,f,g,pb,bl,e,?_,⟨ps,e1,hE⟩,SG hb ⟨ps,e1,hE⟩ YQ⟩,λc hc=>?_,by rw[←hlen];exact hl.1,YQ⟩
 .obtain⟨nm,n⟩:=s;obtain⟨y,m⟩:=x;dsimp only at r2 Xf hl hp hlen;constructor
  .intro hd;cases n with
   | halt_=>cases m with
    | halt_=>rfl
    | send _ _ _=>exact r2.elim
    | recv _ _ _=>exact r2.elim
   | send _ _ _=>exact absurd (Xf.1.symm.trans hd) (by rfl')
   | recv _ _ _=>exact absurd (Xf.1.symm.trans hd) (by rfl')
  .intro hz;have:dI n=[]:=by
    apply List.eq_nil_of_length_eq_zero;rw[hlen];show m.branches.length=0;rw[show m.branches=[] from hz];rfl
   have:=hl.2.2 this;subst this;exact Xf.1
 .obtain⟨i,hi⟩:=bw hc;obtain⟨b,Zk,Yu⟩:=Paired.at' hp hi;obtain⟨q,aet,hq2⟩:=e2.get Zk;exact QR hq2 Yu (hl.2.1 b (aJ Zk))
def SH(a:dj):Sp:=λvs H Q E=>∃tx b,vs=[.ref tx]/\H tx=some (.lst (dc b))/\match Vasesd.read b with
 | .ok t=>∀p H',bn H H'->IsPart a H' p t->Q (.ref p) H'
 | .error f=>Fl a (λ_=>False) H E f
theorem QS:Vasesd.read b=match lV b with
  | .error f=>.error f
  | .ok r=>match Vasesd.named r with
   | .error f=>.error f
   | .ok t=>if 4096<t.shown.length then .error ⟨10,0⟩ else .ok t:=by
 rw[←Lr];unfold Vasesd.read;dsimp only[bind,Except.bind];cases VasesBase.tokens b with
 | error f=>rfl
 | ok l=>
  dsimp only;cases Vasesd.takePart l with
  | error f=>rfl
  | ok r=>
   dsimp only;cases Vasesd.named r with
   | error f=>rfl
   | ok t=>
    dsimp only;by_cases h:4096<t.shown.length
    .rw[ae h,ae (show VasesBase.TEXT<t.shown.length from h)]
    .rw[aa h,aa (show ¬VasesBase.TEXT<t.shown.length from h)]
theorem LA(h:eI x=none):∃y,x=.ok y:=by
 cases x with
 | ok y=>exact⟨y,rfl⟩
 | error f=>cases h
theorem LB(h:eI x=some f):x=.error f:=by
 cases x with
 | ok y=>cases h
 | error g=>cases h;rfl
theorem LC:ir P w base a.du T.DO 14 (SH a):=by
 refine T.DO.fn.okX ["text","part","numbers","state"] λW8 A outer s H vs Q E hr h nd hu W9 th=>?_;intro X;obtain⟨tx,b,rfl,ht,q⟩:=h;refine⟨_,(ad (dz 1 nd (df T.xK (G1 T) hr (th.passes rfl) (dq (pv 0)))) (ad (dz 2 nd (df T.oO (zY T) hr ci (dq (pv 1)))) (ad (dB (df T.sV (CD T) hr (th.passes rfl) (dg (pv 1) (pv 2)))) (ad (fv PassesOwn.leaving rfl (eW (da (pv 1))) (gh 3 nd) (am (dB (df T.Pf (QK T) hr ci (dg (pv 3) (pv 2)))))) (ad (fR (pv 1) (df T.xP (Hc T) hr ci (dq (pv 1)))) (ad (de (wB (fS T.d5 (da (pv 1))) (dA T.qw)) (am (gw T.dL (eE T) T.gy (hr.mono (by decide)) rfl T.fL th rfl (dg (dA T.Fz) (cr)))) cZ) (am (bi (pv 1))))))))),?_⟩;rw[QS] at q;left;have D:fT (λc=>H c≠none) H:=λc h=>h;refine⟨λc=>H c≠none,tx,b,rfl,ht,D,?_⟩;cases er:lV b with
 | error f=>rw[er] at q;exact q
 | ok r=>
  rw[er] at q;dsimp only at q;intro p H1 s1 af1;have aeu:nv a H1 p r:=CH a _ _ _ _ jn af1;obtain⟨hlen,afn⟩:=QP er;left;refine'⟨p,r,rfl,aeu,by have:=hlen.1;lia,λd H2 kvs afQ s2 hd XM=>?_⟩;refine⟨p,d,r,kvs,rfl,CH a _ _ _ _ s2 aeu,hd,XM,hlen,?_⟩;cases en:eI (Vasesd.named r) with
  | some f=>
   rw[LB en] at q;exact Fl.but q (s1.trans s2).but
  | none=>
   obtain⟨t,et⟩:=LA en;rw[et] at q;dsimp only at q;have ZS:=OS et;intro H3 s3;have YY:=s1.trans (s2.trans s3);have acQ:=s3 _ _ hd;have Yi:nv a (dv (λc=>H c≠none) H3) p r:=CH a _ _ _ _ (d4 ((s2.trans s3)).but) af1;have D3:fT (λc=>H c≠none) H3:=λc h e=>h (YY.free e);obtain⟨dx,pt,pw,Xi,Xk,fm,ho,Yk⟩:=Yi;obtain⟨ps,Xe,hE⟩:=Yk.states;have X4:=(dW ho).1;have agP:=(dW Xe).1;unfold pZ at X4;have aeg:∀s∈r.states,∀c∈dI s.2,c.to.name∈r.states.map λs=>s.1.name:=by
    intro s hs c hc;obtain⟨i,hi⟩:=bw hs;obtain⟨x,hx,hr⟩:=Paired.at ZS.states hi;obtain⟨j,hj⟩:=bw hc;obtain⟨c',_,XZ⟩:=Paired.at (qc hr.2).1 hj;exact aJ XZ.2.2.2
   left;refine lE (xs:=ps.map V.ref) (λj U H'=>p8 (λc=>H c≠none) H3 H'/\fP a (r.states.map λs=>s.1.name) (dv (λc=>H c≠none) H3) (dv (λc=>H c≠none) H')/\H' d=some (.dK kvs)/\(∃x,U=[some (.ref tx),some (.ref p),some (.ref d),x])/\∀(i:Nat)(q:cS)(s:PName×Vasesd.RawNode),i<j->ps[i]?=some q->r.states[i]?=some s->Bj a (r.states.map λs=>s.1.name) (dv (λc=>H c≠none) H') q s)
    ⟨p8.refl,fP.refl,acQ,⟨none,rfl⟩,λi _ _ h=>by lia⟩ (λi U H' _ h=>(dW (h.2.1.lst Xe)).1) ?_ ?_
   .rintro j x U H' hx ⟨ws,lk,XF,⟨y,rfl⟩,X1⟩;obtain⟨Yc,hp,rfl⟩:=eY hx;obtain⟨st,hb,Xf⟩:=hE.get' hp;have hm:=aJ hb;left;refine⟨λc=>H c≠none,Yc,d,st,kvs,_,rfl,ws.dom D3,lk.isStR Xf,XF,XM,ZS.nd,aeg st hm,by have:=(hlen.2 st hm).1;lia,λH4 ws4 af2 hd4 agR=>?_⟩;refine⟨ws.trans ws4,lk.trans af2,hd4,⟨some (.ref Yc),rfl⟩,λi q' s hi hq hs=>?_⟩;by_cases e:i=j
    .subst e;rw[hp] at hq;rw[hb] at hs;cases hq;cases hs;exact agR
    .exact af2.isStM (X1 i q' s (by lia) hq hs)
   .rintro U H' ⟨ws,lk,XF,⟨y,rfl⟩,X1⟩;rw[af] at X1;have af0:bn H H':=λc o e=>ws c o (YY c o e) (by show H c≠none;rw[e];exact Option.some_ne_none _);have agS:dv (λc=>H c≠none) H' p=some (.ins a.ic dx (pZ pt pw Xi Xk fm)):=lk.ins (by show 5≠6;decide) ho;obtain⟨aaS,ac2⟩:=dW agS;have agT:nv a H' p r:=⟨dx,pt,pw,Xi,Xk,fm,aaS,⟨dG a _ _ _ _ jn (lk.name Yk.title),dG a _ _ _ _ jn (lk.name Yk.worker),dG a _ _ _ _ jn (lk.name Yk.start),IsList.same (ju a) jn (lk.list (λ_ _=>lk.isStR) Yk.states)⟩⟩;left;refine⟨p,r,rfl,agT,hlen,λl H5 af3 s5 aaU=>?_⟩;have aes:=af0.trans s5;have af4:=s5 _ _ aaS;unfold pZ at af4;left;rw[Ny ZS] at aaU;have nlp:l≠p:=λz=>(by rw[z,aaS] at af3;cases af3);have aev:upd H5 p (.ins a.ic dx [("title",.ref pt),("worker",.ref pw),("start",.ref Xi),("states",.ref Xk),("form",.ref l)]) l=some (.lst (dc t.shown)):=(by rw[ap nlp];exact aaU);have af5:upd H5 p (.ins a.ic dx [("title",.ref pt),("worker",.ref pw),("start",.ref Xi),("states",.ref Xk),("form",.ref l)]) p=some (.ins a.ic dx [("title",.ref pt),("worker",.ref pw),("start",.ref Xi),("states",.ref Xk),("form",.ref l)]):=bv;have aew:jE H5 (upd H5 p (.ins a.ic dx [("title",.ref pt),("worker",.ref pw),("start",.ref Xi),("states",.ref Xk),("form",.ref l)])):=Lw af4 rfl;have aex:bn H (upd H5 p (.ins a.ic dx [("title",.ref pt),("worker",.ref pw),("start",.ref Xi),("states",.ref Xk),("form",.ref l)])):=λc o e=>by
     have ne:c≠p:=λz=>ac2 (by show H p≠none;rw[←z,e];exact Option.some_ne_none _);rw[ap ne];exact aes _ _ e
    refine Tx (H:=upd H5 p (.ins a.ic dx [("title",.ref pt),("worker",.ref pw),("start",.ref Xi),("states",.ref Xk),("form",.ref l)])) aev ?_;generalize upd H5 p (.ins a.ic dx [("title",.ref pt),("worker",.ref pw),("start",.ref Xi),("states",.ref Xk),("form",.ref l)])=H6 at aev af5 aew aex;left;rw[dD];have ac6:∀(i:Nat)(q:cS)(x:Bytes×Vasesd.Node),ps[i]?=some q->t.states[i]?=some x->si a H6 q x/\(∀b∈x.2.branches,xa (r.states.map λs=>s.1.name).length b)/\x.2.branches.length<=16/\(x.2.branches.map (·.label)).Nodup:=by
     intro i q x hq hx;obtain⟨s,hs,hr⟩:=Paired.at' ZS.states hx;have h1:=X1 i q s (ax.mp hq).1 hq hs;obtain⟨z1,z2,z3,z4⟩:=TW ZS.nd h1 hr (afn s (aJ hs));exact⟨mU _ _ _ _ aew (mU.mono _ _ _ _ (jn.trans s5) z1),z2,z3,z4⟩
    have abo:ps.length=t.states.length:=(by rw[hE.len,Paired.length_eq ZS.states]);have aer:(r.states.map λs=>s.1.name).length=t.states.length:=(by rw[af,Paired.length_eq ZS.states]);have XD:∀i,(∀b∈t.branches i,xa t.states.length b)/\(t.branches i).length<=16/\((t.branches i).map (·.label)).Nodup:=by
     intro i;unfold Vasesd.Part.branches Vasesd.Part.node;cases ei:t.states[i]? with
     | none=>exact⟨by simp[Vasesd.Node.branches],by simp[Vasesd.Node.branches],by simp[Vasesd.Node.branches]⟩
     | some x=>
      have hi:i<ps.length:=(by rw[abo];exact(ax.mp ei).1);obtain⟨_,z2,z3,z4⟩:=ac6 i ps[i] x (by simp[hi]) ei;rw[aer] at z2;exact⟨z2,z3,z4⟩
    by_cases aey:4096<t.shown.length
    .rw[ae aey] at q;refine' cX (λ_=>?_) (λz=>absurd (by simp;lia) z);exact fU (Fl.but q aex.but) rfl rfl
    .rw[aa aey] at q;refine' cX (λz=>absurd z (by simp;lia)) (λ_=>?_);refine q p H6 aex ⟨⟨by rw[←Paired.length_eq ZS.states];exact hlen.1,λi=>(XD i).2.2,λi=>(XD i).1,λi=>(XD i).2.1,by lia⟩,dx,pt,pw,Xi,Xk,l,af5,⟨ps,?_,?_⟩,aev⟩
     .refine aew.lstI _ _ (s5 _ _ (dW (lk.lst Xe)).1) λq' YV=>?_;obtain⟨i,hi⟩:=bw YV;have abh:i<t.states.length:=(by rw[←abo];exact(ax.mp hi).1);obtain⟨s,hs⟩:∃s,r.states[i]?=some s:=⟨r.states[i]'(by rw[Paired.length_eq ZS.states];exact abh),by simp⟩;obtain⟨Xw,pn9,d9,f9,g9,pb9,bl9,e9,_⟩:=X1 i q' s (ax.mp hi).1 hi hs;exact⟨_,_,_,s5 _ _ (dW e9).1⟩
     .exact yo abo λi q' x hq hx=>(ac6 i q' x hq hx).1
end
section
open Vasesq (textsBelow rangeSize rangesSize valRank valsRank valAt valsAt numberBytes bytesNumber textLength MOST)
theorem qd(h:0<=i):∃n:Nat,i=(n:Int):=⟨i.toNat,by lia⟩
theorem xb(h:k<=1000):(256:Nat)^k<2^90000:=by
 rw[show(256:Nat)=2^8 from rfl,←Nat.pow_mul];exact a5 (by decide) (by lia)
theorem Ko:MOST<256^420:=by rfl'
def Vq:Sp:=λvs H Q _=>∃n:Nat,vs=[.int (n:Nat)]/\n<MOST/\Q (.int (Vasesq.widthOf 420 0 n:Nat)) H
theorem sk:fc P w base T.qp 1 Vq:=by
 specialize T.qp.fn.okN ["total","width","rows"];obtain⟨n,rfl,hn,q⟩:=h;refine'⟨_,(ad (dz 1 nd (cr)) (ad (dz 2 nd (cr)) (ad (gI PassesOwn.never (jW (pv 2) (pv 0)) (ad (mf 2 nd (cr) uE) (am (mf 1 nd (cr) ij)))) (am (bi (pv 1)))))),?_⟩;refine iQ (λm U H'=>H'=H/\∃k:Nat,m=420-k/\k<=420/\U=[some (.int (n:Nat)),some (.int (k:Nat)),some (.int ((256^k:Nat)))]/\∀j,j<k->256^j<n) (λU H'=>H'=H/\∃k:Nat,k<=420/\U=[some (.int (n:Nat)),some (.int (k:Nat)),some (.int ((256^k:Nat)))]/\n<=256^k/\∀j,j<k->256^j<n) 420 ⟨rfl,0,rfl,by lia,rfl,λj h=>by lia⟩ ?_ ?_
 .rintro U H' ⟨rfl,k,hk,rfl,h1,h2⟩;left;rw[AZ h1 h2 420 0 (by lia) (by lia)] at q;exact q
 .rintro hp m U H' ⟨rfl,k,rfl,hk,rfl,hj⟩;left;refine cX (λXg=>?_) (λZu=>?_)
  .have Xg:256^k<n:=aY.mp (ai Xg);have X9:k<420:=by
    apply bI;intro z;have:256^420<=256^k:=bh (by decide) z;have:=Ko
    lia
   refine'⟨_,λ_ _ z=>z,?_⟩;refine' kO ⟨fz rfl (xb (by lia)),fz (n:=256) rfl (jf (by decide))⟩ ?_;refine⟨420-(k+1),by lia,rfl,k+1,rfl,X9,by rw[bp];rfl,λj h=>?_⟩;by_cases e:j=k
   .rw[e];exact Xg
   .exact hj j (by lia)
  .have Zu:n<=256^k:=Nat.le_of_not_lt λz=>Zu (ao (aY.mpr z));exact hp _ _ ⟨rfl,k,hk,rfl,Zu,hj⟩
theorem iT(x y:Bytes):dc (x++y)=dc x++dc y:=by simp[dc]
theorem OW:((UInt8.ofNat (n%256)).toNat:Int)=(n:Int)%256:=by
 have:(UInt8.ofNat (n%256)).toNat=n%256:=by simp
 rw[this]
 lia
def Vr:Sp:=λvs H Q _=>∃n w:Nat,vs=[.int (n:Nat),.int (w:Nat)]/\w<=1000/\∀l H',H l=none->bn H H'->H' l=some (.lst (dc (numberBytes w n)))->Q (.ref l) H'
theorem qe:fc P w base T.lC 1 Vr:=by
 specialize T.lC.fn.okN ["number","width","backwards"];obtain⟨n,wd,rfl,hw,q⟩:=h;refine'⟨_,(ad (dz 2 nd (dw eA)) (ad (gI PassesOwn.never (jW (fS T.d5 (pv 2)) (pv 1)) (ad (dB (ve (pv 2) (dF AB (pv 0) (cr)))) (am (dz 0 nd (dF uF (pv 0) (cr)))))) (am (bi (AV rfl rfl rfl T.NZ T.u4 (pv 2)))))),?_⟩;refine'⟨by(show 0<=sizeLine;decide),λbl Xp=>?_⟩;refine iQ (λm U H'=>bn H H'/\∃(k:Nat)(bs:Bytes),m=wd-k/\k<=wd/\bs.length=k/\H' bl=some (.lst (dc bs))/\U=[some (.int (n / 256^k:Nat)),some (.int (wd:Nat)),some (.ref bl)]/\numberBytes wd n=numberBytes (wd-k) (n / 256^k)++bs.reverse)
  (λU H'=>bn H H'/\∃(x:V)(bs:Bytes),H' bl=some (.lst (dc bs))/\U=[some x,some (.int (wd:Nat)),some (.ref bl)]/\numberBytes wd n=bs.reverse) wd ⟨bn.upd Xp,0,[],rfl,aI _,rfl,bv,by rw[Nat.pow_zero,Nat.div_one];rfl,by rw[Nat.pow_zero,Nat.div_one];simp⟩ ?_ ?_
 .rintro U H' ⟨sm,x,bs,hb,rfl,e⟩;left;intro l hl;refine q l _ (sm.free hl) (sm.trans (bn.upd hl)) ?_;rw[bv,e];unfold dc;rw[List.map_reverse]
 .rintro hp m U H' ⟨sm,k,bs,rfl,hk,hlen,hb,rfl,e⟩;left;rw[dD,hlen];refine cX (λXg=>?_) (λZu=>?_)
  .have Xg:k<wd:=by simpa using Xg
   refine'⟨_,λ_ _ z=>z,?_⟩;refine' ik hb ?_;refine' kO (by decide) ?_;refine yh hb (by rw[dD,hlen,sizeLine_eq];lia) ?_;have Xm:bn H (upd H' bl (.lst (dc bs++[.int ((n / 256^k:Nat)%256)]))):=λc o h=>by rw[ap (ca h Xp)];exact sm _ _ h
   have Zk:upd H' bl (.lst (dc bs++[.int ((n / 256^k:Nat)%256)])) bl=some (.lst (dc bs++[.int ((n / 256^k:Nat)%256)])):=bv;left;refine' kO ⟨by decide,aE (m:=2^9) (by decide) (bh (by decide) (by decide))⟩ ?_;refine⟨wd-(k+1),by lia,Xm,k+1,bs++[UInt8.ofNat (n / 256^k%256)],rfl,Xg,by simp[hlen],?_,?_,?_⟩
   .rw[Zk,iT];show _=some (HO.lst (dc bs++[V.int _]));rw[OW]
   .have e1:((n / 256^k:Nat):Int) / 256=((n / 256^(k+1):Nat):Int):=by
     rw[bp,←Nat.div_div_eq_div_mul]
     lia
    rw[←e1];rfl
   .rw[e,show wd-k=(wd-(k+1))+1 by lia];show numberBytes (wd-(k+1)) (n / 256^k / 256)++[UInt8.ofNat (n / 256^k%256)]++bs.reverse=_;rw[Nat.div_div_eq_div_mul,←bp,List.reverse_append];simp
  .have Zu:wd<=k:=by simpa using Zu
   have:wd-k=0:=by lia
   rw[this] at e;exact hp _ _ ⟨sm,_,bs,hb,rfl,by rw[e];rfl⟩
theorem xc(h:b.length<=9000):bytesNumber b<2^90000:=by
 have h1:=tJ b;refine aE h1 ?_;rw[show(256:Nat)=2^8 from rfl,←Nat.pow_mul];exact bh (by decide) (by lia)
theorem z5{b:Bytes}{i:Nat}{x:V}(h:(dc b)[i]?=some x):∃c,b[i]?=some c/\x=.int (c.toNat:Nat):=by
 unfold dc at h;rw[ak] at h;cases e:b[i]? with
 | none=>rw[e] at h;cases h
 | some c=>rw[e] at h;cases h;exact⟨c,rfl,rfl⟩
def SI(tup:Bool):Sp:=λvs H Q _=>∃p b,vs=[.ref p]/\H p=some (if tup=true then .tup (dc b) else .lst (dc b))/\b.length<=9000/\Q (.int (bytesNumber b:Nat)) H
theorem xf:fc P w base T.ip 1 (SI false):=by
 specialize T.ip.fn.okN ["packed","number","byte"];obtain⟨p,b,rfl,hp,hb,q⟩:=h;rw[aa aq] at hp;refine'⟨_,(ad (dz 1 nd (cr)) (ad (fv PassesOwn.never rfl (eW (pv 0)) (gh 2 nd) (am (dz 1 nd (dF fw (dF kh (pv 1) (cr)) (pv 2))))) (am (bi (pv 1))))),?_⟩;refine lE (xs:=dc b) (λj U H'=>H'=H/\∃x,U=[some (.ref p),some (.int (bytesNumber (b.take j):Nat)),x]) ⟨rfl,none,rfl⟩ (λi U H' _ h=>by rw[h.1];exact hp) ?_ ?_
 .rintro j x U H' hx ⟨rfl,y,rfl⟩;obtain⟨c,hc,rfl⟩:=z5 hx;left;refine' kO ⟨fz rfl (xc (by rw[aL];lia)),fz (n:=256) rfl (jf (by decide))⟩ ?_;refine⟨rfl,some (.int (c.toNat:Nat)),?_⟩;rw[eP hc,lG];have e:((256*bytesNumber (b.take j)+c.toNat:Nat):Int)=(bytesNumber (b.take j):Nat)*256+(c.toNat:Nat):=by lia
  rw[e];rfl
 .rintro U H' ⟨rfl,y,rfl⟩;left;rw[dD,aQ];exact q
theorem vZ:fc P w base T.ip 1 (SI true):=by
 specialize T.ip.fn.okN ["packed","number","byte"];obtain⟨p,b,rfl,hp,hb,q⟩:=h;rw[ae rfl] at hp;refine'⟨_,(ad (dz 1 nd (cr)) (ad (fv PassesOwn.never rfl (Ms (pv 0)) (gh 2 nd) (am (dz 1 nd (dF fw (dF kh (pv 1) (cr)) (pv 2))))) (am (bi (pv 1))))),?_⟩;refine Sg (xs:=dc b) (λj U H'=>H'=H/\∃x,U=[some (.ref p),some (.int (bytesNumber (b.take j):Nat)),x]) ⟨rfl,none,rfl⟩ (λi U H' _ h=>by rw[h.1];exact hp) ?_ ?_
 .rintro j x U H' hx ⟨rfl,y,rfl⟩;obtain⟨c,hc,rfl⟩:=z5 hx;left;refine' kO ⟨fz rfl (xc (by rw[aL];lia)),fz (n:=256) rfl (jf (by decide))⟩ ?_;refine⟨rfl,some (.int (c.toNat:Nat)),?_⟩;rw[eP hc,lG];have e:((256*bytesNumber (b.take j)+c.toNat:Nat):Int)=(bytesNumber (b.take j):Nat)*256+(c.toNat:Nat):=by lia
  rw[e];rfl
 .rintro U H' ⟨rfl,y,rfl⟩;left;rw[dD,aQ];exact q
def Vs:Sp:=λvs H Q _=>∃p b,vs=[.ref p]/\H p=some (.tup (dc b))/\b.length<=255/\Q (.int (textsBelow b.length+bytesNumber b:Nat)) H
theorem EV:fc P w base T.uY 2 Vs:=by
 specialize T.uY.fn.okN ["content"];obtain⟨p,b,rfl,hp,hb,q⟩:=h;refine'⟨_,(am (bi (dF fw (df T.pB (vP T) hr ci (dq (dF i0 (fS T.d5 (pv 0)) (cr)))) (df T.ip (vZ T) hr ci (dq (pv 0)))))),?_⟩;rw[dD];refine⟨_,rfl,⟨by lia,by lia⟩,?_⟩;have e:(((b.length:Int)-1+1).toNat)=b.length:=by lia
 dsimp only;rw[e];left;refine'⟨p,b,rfl,by rw[ae rfl];exact hp,by lia,?_⟩;exact q
def Vt(a:dj):Sp:=λvs H Q _=>∃p v r x,vs=[.ref p,.ref v]/\fE a H p r/\ja a H v x/\Vasesb.fits x r=true/\Q (.int (valRank x r:Nat)) H
theorem CI:fc P w base T.sK 3 (Vt a):=by
 specialize T.sK.fn.okN ["span","value"];obtain⟨p,v,r,x,rfl,⟨wf,dx,hp⟩,⟨af6,XW,c,hv,hc⟩,hf,q⟩:=h;refine⟨_,(ad (de (fM (da (pv 0)) (iz T.sO)) (am (bi (df T.uY (EV T) hr ci (dq (da (pv 1)))))) cZ) (am (bi (dF i0 (da (pv 1)) (da (pv 0)))))),?_⟩;cases r with
 | flag=>cases x with
  | flag b=>
   unfold gP at hp;left;refine' cX (λh1=>absurd h1 (by rfl')) (λ_=>?_);obtain rfl:=hc;left;cases b<;>exact q
  | num n=>cases hf
  | text b=>cases hf
 | num lo hi=>cases x with
  | flag b=>cases hf
  | num n=>
   have:=ai hf;unfold gP at hp;left;refine' cX (λh1=>absurd h1 (by rfl')) (λ_=>?_);obtain rfl:=hc;left;have e:((valRank (.num n) (.num lo hi):Nat):Int)=n-lo:=by
    show(((n-lo).toNat:Nat):Int)=_
    lia
   rw[e] at q;exact q
  | text b=>cases hf
 | text k=>cases x with
  | flag b=>cases hf
  | num n=>cases hf
  | text b=>
   unfold gP at hp;obtain⟨qq,rfl,ht⟩:=hc;left;refine' cX (λ_=>?_) (λh1=>absurd (by rfl') h1);exact⟨qq,b,rfl,ht,af6,q⟩
def Vu(a:dj):Sp:=λvs H Q _=>∃p v r x,vs=[.ref p,.ref v]/\fE a H p r/\ja a H v x/\Q (.bl (Vasesb.fits x r)) H
theorem QT:fc P w base T.jv 1 (Vu a):=by
 specialize T.jv.fn.okN ["span","value"];obtain⟨p,v,r,x,rfl,⟨wf,dx,hp⟩,⟨af6,XW,c,hv,hc⟩,q⟩:=h;refine⟨_,(ad (de (jw (da (pv 0)) (da (pv 1))) (am (bi (xX))) cZ) (ad (de (fM (da (pv 0)) (iz T.sO)) (am (bi (iY jV (fS T.d5 (da (pv 1))) (da (pv 0)) (gJ _)))) cZ) (am (bi (pI jV jV (da (pv 0)) (da (pv 1)) (da (pv 0))))))),?_⟩;cases r with
 | flag=>cases x with
  | flag b=>
   obtain rfl:=hc;unfold gP at hp;dsimp only[mV] at hv;left;refine' cX (λh1=>absurd h1 (by rfl')) (λ_=>?_);refine' cX (λh1=>absurd h1 (by rfl')) (λ_=>?_);refine cX (λ_=>?_) (λh1=>absurd (by cases b<;>decide) h1);left;cases b<;>exact q
  | num n=>
   unfold gP at hp;dsimp only[mV] at hv;left;refine' cX (λ_=>?_) (λh1=>absurd (by rfl') h1);exact q
  | text b=>
   unfold gP at hp;dsimp only[mV] at hv;left;refine' cX (λ_=>?_) (λh1=>absurd (by rfl') h1);exact q
 | num lo hi=>cases x with
  | flag b=>
   unfold gP at hp;dsimp only[mV] at hv;left;refine' cX (λ_=>?_) (λh1=>absurd (by rfl') h1);exact q
  | num n=>
   obtain rfl:=hc;unfold gP at hp;dsimp only[mV] at hv;left;refine' cX (λh1=>absurd h1 (by rfl')) (λ_=>?_);refine' cX (λh1=>absurd h1 (by rfl')) (λ_=>?_);have e:Vasesb.fits (.num n) (.num lo hi)=decide (lo<=n/\n<=hi):=rfl;rw[e] at q;refine cX (λh1=>?_) (λh1=>?_)
   .have h1:=ai h1;left;rw[show decide (lo<=n/\n<=hi)=decide (n<=hi) from by simp[h1]] at q;exact q
   .have h1:¬lo<=n:=λz=>h1 (ao z);rw[show decide (lo<=n/\n<=hi)=false from by simp[h1]] at q;exact q
  | text b=>
   unfold gP at hp;dsimp only[mV] at hv;left;refine' cX (λ_=>?_) (λh1=>absurd (by rfl') h1);exact q
 | text k=>cases x with
  | flag b=>
   unfold gP at hp;dsimp only[mV] at hv;left;refine' cX (λ_=>?_) (λh1=>absurd (by rfl') h1);exact q
  | num n=>
   unfold gP at hp;dsimp only[mV] at hv;left;refine' cX (λ_=>?_) (λh1=>absurd (by rfl') h1);exact q
  | text b=>
   obtain⟨qq,rfl,ht⟩:=hc;unfold gP at hp;dsimp only[mV] at hv;left;refine' cX (λh1=>absurd h1 (by rfl')) (λ_=>?_);refine' cX (λ_=>?_) (λh1=>absurd (by rfl') h1);rw[dD];have e:Vasesb.fits (.text b) (.text k)=decide ((b.length:Int)<=(k:Int)):=by
    show decide (b.length<=k)=_;simp
   rw[e] at q;exact q
end
section
open VasesBase (joined showRange showInt showNat)
open Vasesb (showVal showText showByte hexDigit)
theorem OX:("true":Str)=strOf (word "true"):=by rfl'
theorem NA:("false":Str)=strOf (word "false"):=by rfl'
theorem SJ:("\\n":Str)=strOf [92,110]:=by rfl'
theorem SK:("\\x":Str)=strOf [92,120]:=by rfl'
theorem QU:(" ;\n":Str)=strOf [32,59,10]:=by rfl'
theorem NB:∀n:Nat,n<16->(("0123456789abcdef":Str).cps.toList)[n]?=some (hexDigit n).toNat:=by rfl'
theorem Kq:("0123456789abcdef":Str).length<=sizeLine:=by rfl'
theorem xg(b:UInt8):(showByte b).length<=4:=by
 unfold showByte;split
 .simp
 .split
  .simp
  .split<;>simp
def TX:Sp:=λvs H Q _=>∃c:UInt8,vs=[.int (c.toNat:Nat)]/\∀l H',H l=none->bn H H'->H' l=some (.lst (dc (showByte c)))->Q (.ref l) H'
theorem LD(hn:n<256):(c==UInt8.ofNat n)=decide (c.toNat=n):=by
 by_cases h:c.toNat=n
 .have:c=UInt8.ofNat n:=by
   apply UInt8.toNat_inj.mp;rw[h];simp
   lia
  simp[this]
  lia
 .have:c≠UInt8.ofNat n:=λz=>h (by rw[z];simp;lia);simp[h,this]
theorem eq_int{c:UInt8}{n:Nat}:decide (V.int (c.toNat:Nat)=V.int (n:Nat))=decide (c.toNat=n):=by
 by_cases h:c.toNat=n
 .simp[h]
 .have:¬V.int (c.toNat:Nat)=V.int (n:Nat):=λz=>h (by injection z with z;lia);simp[h,this]
theorem v0:fc P w base T.lK 2 TX:=by
 specialize T.lK.fn.okN ["byte"];obtain⟨c,rfl,q⟩:=h;refine⟨_,(ad (de (PW.pt (lc (fM (pv 0) (dA T.yy)) (jM (fM (pv 0) (dA T.on))))) (am (bi (dw (dg (dA T.on) (pv 0))))) cZ) (ad (de (fM (pv 0) (dA T.rK)) (am (bi (df T.jh (iM T) hr ci (dq (dO))))) cZ) (ad (de (PW.pt (lc (jW (pv 0) (cr)) (jM (wB (pv 0) (cr))))) (am (bi (df T.jh (iM T) hr ci (dq (dF im (dF im (dO) (qO wt (iz T.BY) (dF uF (pv 0) (cr)) (λ_ _=>rfl))) (qO wt (iz T.BY) (dF AB (pv 0) (cr)) (λ_ _=>rfl))))))) cZ) (am (bi (dw (dq (pv 0)))))))),?_⟩;have hc:=c.toNat_lt;unfold showByte at q;rw[show(c==34)=decide (c.toNat=34) from LD (n:=34) (by decide),show(c==92)=decide (c.toNat=92) from LD (n:=92) (by decide),show(c==10)=decide (c.toNat=10) from LD (n:=10) (by decide)] at q;left;rw[show decide (V.int (c.toNat:Nat)=V.int 34)=decide (c.toNat=34) from eq_int (n:=34)];have two:∀{Q':VK},(∀l H',H l=none->bn H H'->H' l=some (.lst (dc [92,c]))->Q' (.ref l) H')->([V.int 92,V.int (c.toNat:Nat)].length<=sizeLine/\∀p,H p=none->Q' (.ref p) (upd H p (.lst [V.int 92,V.int (c.toNat:Nat)]))):=λ{Q'} k=>⟨by(show 2<=sizeLine;decide),λp hp=>k p _ hp (bn.upd hp) bv⟩;by_cases h1:c.toNat=34
 .rw[h1] at q;refine cX (λ_=>?_) (λz=>absurd (ao h1) z);refine' eU ?_;exact two q
 .refine' cX (λz=>absurd (ai z) h1) (λ_=>?_);rw[show decide (V.int (c.toNat:Nat)=V.int 92)=decide (c.toNat=92) from eq_int (n:=92)];by_cases h2:c.toNat=92
  .rw[h2] at q;refine' cX (λ_=>?_) (λz=>absurd (ao h2) z);exact two q
  .rw[aa (by simp[h1,h2])] at q;refine' cX (λz=>absurd (ai z) h2) (λ_=>?_);rw[show decide (V.int (c.toNat:Nat)=V.int 10)=decide (c.toNat=10) from eq_int (n:=10)];by_cases h3:c.toNat=10
   .rw[ae (by simp[h3])] at q;refine' cX (λ_=>?_) (λz=>absurd (ao h3) z);exact⟨_,[92,110],rfl,SJ,by decide,q⟩
   .rw[aa (by simp[h3])] at q;refine cX (λz=>absurd (ai z) h3) (λ_=>?_);have big:(¬(32<=c.toNat/\c.toNat<=126))->∀{Q':VK},(∀l H',H l=none->bn H H'->H' l=some (.lst (dc [92,120,hexDigit (c.toNat / 16),hexDigit (c.toNat%16)]))->Q' (.ref l) H')->
      ma Sv [] E0 (fF (kM FW (kM FW (tC (V.str "\\x")) (kM KN (tC (.str "0123456789abcdef")) (kM (rI PM λi j=>.int (i / j)) (gD 0) (tC (.int 16))))) (kM KN (tC (.str "0123456789abcdef")) (kM (rI (λ_ j=>0<j) λi j=>.int (i%j)) (gD 0) (tC (.int 16))))) gv) [some (.int (c.toNat:Nat))] H Q':=λ_ {Q'} k=>by
     left;refine kO ⟨by decide,aE (m:=2^9) (by decide) (bh (by decide) (by decide))⟩ ?_;refine AW (j:=c.toNat / 16) Kq (by lia) (NB _ (by lia)) ?_;refine' i8 (y:=[hexDigit (c.toNat / 16)]) SK rfl (by simp) ?_;refine kO (by decide) ?_;refine AW (j:=c.toNat%16) Kq (by lia) (NB _ (by lia)) ?_;refine' i8 (y:=[hexDigit (c.toNat%16)]) rfl rfl (by simp) ?_;exact⟨_,[92,120,hexDigit (c.toNat / 16),hexDigit (c.toNat%16)],rfl,rfl,by simp,k⟩
    left;by_cases h4:c.toNat<32
    .rw[aa (by simp;lia)] at q;refine cX (λ_=>?_) (λz=>absurd (ao (by lia)) z);refine eU ?_;exact big (by lia) q
    .refine' cX (λz=>absurd (ai z) (by lia)) (λ_=>?_);by_cases h5:126<c.toNat
     .rw[aa (by simp;lia)] at q;refine cX (λ_=>?_) (λz=>absurd (ao (by lia)) z);exact big (by lia) q
     .rw[ae (by simp;lia)] at q;refine' cX (λz=>absurd (ai z) (by lia)) (λ_=>?_);exact⟨by(show 1<=sizeLine;decide),λp hp=>q p _ hp (bn.upd hp) bv⟩
def Vv:Sp:=λvs H Q _=>∃p b,vs=[.ref p]/\H p=some (.tup (dc b))/\b.length<=255/\∀l H',H l=none->bn H H'->H' l=some (.lst (dc (showText b)))->Q (.ref l) H'
theorem qg:∀b:Bytes,(b.flatMap showByte).length<=4*b.length
 | []=>by simp
 | c::r=>by
  rw[bP,aC,az];have:=xg c;have:=qg r
  lia
theorem CJ:fc P w base T.sG 3 Vv:=by
 specialize T.sG.fn.okN ["content","told","byte"];obtain⟨p,b,rfl,hp,hb,q⟩:=h;refine'⟨_,(ad (dz 1 nd (dw (dq (dA T.yy)))) (ad (fv PassesOwn.never rfl (Ms (pv 0)) (gh 2 nd) (am (dB (Gv (pv 1) (df T.lK (v0 T) hr ci (dq (pv 2))))))) (ad (dB (ve (pv 1) (dA T.yy))) (am (bi (pv 1)))))),?_⟩;refine⟨by(show 1<=sizeLine;decide),λtl Xv=>?_⟩;have Xh:upd H tl (.lst [.int 34]) p=some (.tup (dc b)):=bn.upd Xv _ _ hp;left;refine Sg (xs:=dc b) (λj U H'=>bn H H'/\H' tl=some (.lst (dc (34::(b.take j).flatMap showByte)))/\∃x,U=[some (.ref p),some (.ref tl),x]) ⟨bn.upd Xv,bv,none,rfl⟩ (λi U H' _ h=>h.1 _ _ hp) ?_ ?_
 .rintro j x U H' hx ⟨sm,ht,y,rfl⟩;obtain⟨c,hc,rfl⟩:=z5 hx;left;refine' ik ht ?_;refine'⟨c,rfl,λl H2 hl s2 h2=>?_⟩;have l1:=qg (b.take j);have l2:=xg c;refine yi (s2 _ _ ht) h2 (by rw[dD,dD,az,sizeLine_eq];rw[aL] at l1;lia) ?_;refine⟨λc' o h=>by rw[ap (ca h Xv)];exact s2 _ _ (sm _ _ h),?_,some (.int (c.toNat:Nat)),rfl⟩;rw[bv,←iT,eP hc,cJ];simp
 .rintro U H' ⟨sm,ht,y,rfl⟩;rw[dD,aQ] at ht;left;refine' ik ht ?_;have l1:=qg b;refine' yh ht (by rw[dD,az,sizeLine_eq];lia) ?_;refine q tl _ Xv (λc' o h=>by rw[ap (ca h Xv)];exact sm _ _ h) ?_;rw[bv];show some (HO.lst (dc (34::b.flatMap showByte)++dc [34]))=_;rw[←iT];rfl
def SL(a:dj):Sp:=λvs H Q _=>∃p v,vs=[.ref p]/\ja a H p v/\∀l H',H l=none->bn H H'->H' l=some (.lst (dc (showVal v)))->Q (.ref l) H'
theorem EW:fc P w base T.vc 4 (SL a):=by
 specialize T.vc.fn.okN ["value"];obtain⟨p,v,rfl,⟨wf,dx,c,hp,hc⟩,q⟩:=h;refine⟨_,(ad (de (fM (da (pv 0)) (iz T.DF)) (am (bi (df T.jh (iM T) hr ci (dq (ut (fM (da (pv 0)) (cr)) (dO) (dO)))))) cZ) (ad (de (fM (da (pv 0)) (iz T.KA)) (am (bi (df T.jh (iM T) hr ci (dq (j8 qS (by rfl) T.FZ boot_str (dq (da (pv 0)))))))) cZ) (am (bi (df T.sG (CJ T) hr ci (dq (da (pv 0)))))))),?_⟩;cases v with
 | flag b=>
  obtain rfl:=hc;dsimp only[mV] at hp;left;refine' cX (λ_=>?_) (λh1=>absurd (by rfl') h1);cases b with
  | true=>
   refine' cX (λ_=>?_) (λh1=>absurd (by decide) h1);exact⟨_,word "true",rfl,OX,by decide,q⟩
  | false=>
   refine' cX (λh1=>absurd h1 (by decide)) (λ_=>?_);exact⟨_,word "false",rfl,NA,by decide,q⟩
 | num n=>
  obtain rfl:=hc;obtain⟨w1,w2⟩:=wf;dsimp only[mV] at hp;left;refine' cX (λh1=>absurd h1 (by rfl')) (λ_=>?_);refine' cX (λ_=>?_) (λh1=>absurd (by rfl') h1);refine' Bk w1 w2 ?_;have:=iL w1 w2;exact⟨_,showInt n,rfl,rfl,by lia,q⟩
 | text b=>
  obtain⟨qq,rfl,ht⟩:=hc;dsimp only[mV] at hp;left;refine' cX (λh1=>absurd h1 (by rfl')) (λ_=>?_);refine' cX (λh1=>absurd h1 (by rfl')) (λ_=>?_);exact⟨qq,b,rfl,ht,wf,q⟩
end
section
open VasesBase (joined showRange showInt showNat)
open Vasesb (showVal showText showByte hexDigit)
open Vasesq (Msg showMsg showCourse)
theorem SM:("(":Str)=strOf [40]:=by rfl'
theorem SN:(", ":Str)=strOf [44,32]:=by rfl'
theorem SO:(")":Str)=strOf [41]:=by rfl'
theorem zx(sep:Bytes):∀(xs:List Bytes)(x:Bytes),joined sep (xs++[x])=if xs=[] then x else joined sep xs++sep++x
 | [],x=>rfl
 | [y],x=>rfl
 | y::z::r,x=>by
  show y++sep++joined sep (z::r++[x])=_;rw[zx sep (z::r) x,aa (by simp),aa (by simp)];show _=(y++sep++joined sep (z::r))++sep++x;simp
theorem zy(h:Lz v):(showVal v).length<=1100:=by
 cases v with
 | flag b=>cases b<;>decide
 | num n=>have:=iL h.1 h.2;show(showInt n).length<=_;lia
 | text b=>
  have h:b.length<=255:=h;have:=qg b;show(34::(b.flatMap showByte++[34])).length<=_;simp;simp at this
  lia
noncomputable def lW(m:Msg):Bytes:=showMsg m++word " ;"++[10]
def Vw(a:dj):Sp:=λvs H Q _=>∃p m,vs=[.ref p]/\iH a H p m/\m.label.length<=16/\(∀h∈m.hands,h.length<=16)/\∀l H',H l=none->bn H H'->H' l=some (.lst (dc (lW m)))->Q (.ref l) H'
theorem Bp:fc P w base T.qm 5 (Vw a):=by
 specialize T.qm.fn.okN ["message","told","count","value"];obtain⟨p,m,rfl,⟨dx,gl,hl,ho,⟨ps,Xe,hE⟩,aaf,aez,Yr⟩,h16,aeA,q⟩:=h;refine⟨_,(ad (dz 1 nd (df T.jh (iM T) hr ci (dq (dF im (da (pv 0)) (dO))))) (ad (fv PassesOwn.never rfl (J0 rfl T.zH (dq (da (pv 0)))) (wj rfl (jd (gh 2 nd) (jd (gh 3 nd) sY))) (ad (de (wB (pv 2) (cr)) (am (dB (Gv (pv 1) (df T.jh (iM T) hr ci (dq (dO)))))) cZ) (am (dB (Gv (pv 1) (df T.vc (EW T) hr ci (dq (pv 3)))))))) (ad (dB (Gv (pv 1) (df T.jh (iM T) hr ci (dq (dF im (dF im (dO) (df T.nG (ud T) hr ci (dq (da (pv 0))))) (dO)))))) (am (bi (pv 1)))))),?_⟩;have aep:=ho;unfold z0 at ho;left;refine' i8 rfl SM (by simp;lia) ?_;refine⟨_,m.label++[40],rfl,rfl,by simp;lia,λtl H1 Xv s1 Ys=>?_⟩;have YF:=s1 _ _ ho;have YS:=s1 _ _ Xe;left;have af7:∀v∈m.vals,Lz v:=hE.all λ_ _ z=>z.1;have mX:∀j,(joined [44,32] ((m.vals.take j).map showVal)).length<=4500:=by
  intro j;have h1:=gc [44,32] ((m.vals.take j).map showVal)
  have h2:=og (f:=List.length) (k:=1100) (xs:=(m.vals.take j).map showVal) (λx hx=>by
   obtain⟨v,hv,rfl⟩:=aW.mp hx
   exact zy (af7 v (bZ hv)))
  rw[af,aL] at h1 h2;have e:([44,32]:Bytes).length=2:=rfl;rw[e] at h1
  lia
 refine Si (xs:=ps.map V.ref) (λj U H'=>bn H H'/\H' tl=some (.lst (dc (m.label++[40]++joined [44,32] ((m.vals.take j).map showVal))))/\∃x y,U=[some (.ref p),some (.ref tl),x,y]) ⟨s1,by rw[Ys];simp[joined],none,none,rfl⟩ (λi U H' _ h=>h.1 _ _ Xe) ?_ ?_
 .rintro j x tp U H' hx ⟨sm,ht,y,z,rfl⟩ Yw;obtain⟨pv,hp,rfl⟩:=eY hx;obtain⟨v,hv,Xx⟩:=hE.get' hp;have hj:j<m.vals.length:=(ax.mp hv).1;have s2:bn H (upd H' tp (.tup [.int (j:Nat),.ref pv])):=sm.trans (bn.upd Yw);have YK:upd H' tp (.tup [.int (j:Nat),.ref pv]) tl=some (.lst (dc (m.label++[40]++joined [44,32] ((m.vals.take j).map showVal)))):=bn.upd Yw _ _ ht;have aeB:upd H' tp (.tup [.int (j:Nat),.ref pv]) tp=some (.tup [.int (j:Nat),.ref pv]):=bv;generalize upd H' tp (.tup [.int (j:Nat),.ref pv])=H2 at s2 YK aeB;have lj:=mX j;have lv:=zy (af7 v (aJ hv));have el:(m.vals.take (j+1)).map showVal=(m.vals.take j).map showVal++[showVal v]:=by rw[eP hv,aD];rfl
  left;refine' tF aeB ?_;have last:∀{H3:Hp} {b:Bytes},bn H H3->H3 tl=some (.lst (dc b))->b.length<=6000->b++showVal v=m.label++[40]++joined [44,32] ((m.vals.take (j+1)).map showVal)->∀{Q':VK},(∀v H4,bn H H4->H4 tl=some (.lst (dc (m.label++[40]++joined [44,32] ((m.vals.take (j+1)).map showVal))))->Q' v H4)->
    MD K "list" yb (gD 1) (fF (ma (SL a) [] E0 (fF (gD 3) gv)) gv) [some (.ref p),some (.ref tl),some (.int (j:Nat)),some (.ref pv)] H3 Q':=λ{H3 b} s3 h3 hb e {Q'} k=>by
   left;refine' ik h3 ?_;refine'⟨pv,v,rfl,iN.mono _ _ _ _ s3 Xx,λl H4 Zl s4 h4=>?_⟩;refine yi (s4 _ _ h3) h4 (by rw[dD,dD,sizeLine_eq];lia) ?_;refine k _ _ (λc' o h=>by rw[ap (ca h Xv)];exact s4 _ _ (s3 _ _ h)) ?_;rw[bv,←iT,e]
  refine cX (λYp=>?_) (λhz=>?_)
  .have Yp:0<j:=aY.mp (ai Yp);left;refine' ik YK ?_;refine'⟨_,[44,32],rfl,SN,by decide,λl H3 Y2 s3 h3=>?_⟩;refine yi (s3 _ _ YK) h3 (by simp only[dD,sizeLine_eq,aC,az,bc];lia) ?_;refine M3 ?_;refine last (b:=m.label++[40]++joined [44,32] ((m.vals.take j).map showVal)++[44,32]) (λc' o h=>by rw[ap (ca h Xv)];exact s3 _ _ (s2 _ _ h)) (by rw[bv,←iT]) (by simp only[aC,az,bc];lia) ?_ (λ_ H4 s4 h4=>⟨s4,h4,_,_,rfl⟩)
   rw[el,zx,aa (by
    intro z;have:=au List.length z;rw[af,aL,bc] at this
    lia)]
   simp
  .have hz:j=0:=by
    apply Nat.eq_zero_of_not_pos;exact λz=>hz (ao (aY.mpr z))
   subst hz;refine M2 ?_;refine M3 ?_;refine last (b:=m.label++[40]++joined [44,32] ((m.vals.take 0).map showVal)) s2 YK (by simp[joined];lia) ?_ (λ_ H4 s4 h4=>⟨s4,h4,_,_,rfl⟩);rw[el];simp[joined]
 .rintro U H' ⟨sm,ht,y,z,rfl⟩;rw[af,hE.len,aQ] at ht;have l4:=mX m.vals.length;rw[aQ] at l4;have aae:=sm _ _ ho;have lh:=lr aeA Yr;left;refine' ik ht ?_;refine⟨hl,m.hands,rfl,sm _ _ aaf,aeA,by lia,?_⟩;refine' i8 SO rfl (by simp;lia) ?_;refine' i8 rfl QU (by simp;lia) ?_;refine'⟨_,[41]++i9 m.hands++[32,59,10],rfl,rfl,by simp;lia,λl H3 Y2 s3 h3=>?_⟩;refine' yi (s3 _ _ ht) h3 (by simp only[dD,sizeLine_eq,aC,az,bc];lia) ?_;refine q tl _ Xv (λc' o h=>by rw[ap (ca h Xv)];exact s3 _ _ (sm _ _ h)) ?_;rw[bv,←iT]
  congr 3
  unfold lW showMsg i9;rw[show word ", "=[44,32] from by decide,show word " ;"=[32,59] from by decide];simp
def Vx(a:dj):Sp:=λvs H Q _=>∃p ms,vs=[.ref p]/\IsList (iH a) H p ms/\(∀m∈ms,m.label.length<=16/\∀h∈m.hands,h.length<=16)/\(showCourse ms).length<=20000/\∀l H',H l=none->bn H H'->H' l=some (.lst (dc (showCourse ms)))->Q (.ref l) H'
theorem CK:fc P w base T.sH 6 (Vx a):=by
 specialize T.sH.fn.okN ["messages","told","message"];obtain⟨p,ms,rfl,⟨ps,Xe,hE⟩,aeC,hlen,q⟩:=h;refine'⟨_,(ad (dz 1 nd (dw eA)) (ad (fv PassesOwn.never rfl (eW (pv 0)) (gh 2 nd) (am (dB (Gv (pv 1) (df T.qm (Bp T) hr ci (dq (pv 2))))))) (am (bi (pv 1))))),?_⟩;refine⟨by(show 0<=sizeLine;decide),λtl Xv=>?_⟩;have YS:upd H tl (.lst []) p=some (.lst (ps.map V.ref)):=bn.upd Xv _ _ Xe;left;refine lE (xs:=ps.map V.ref) (λj U H'=>bn H H'/\H' tl=some (.lst (dc (showCourse (ms.take j))))/\∃x,U=[some (.ref p),some (.ref tl),x]) ⟨bn.upd Xv,bv,none,rfl⟩ (λi U H' _ h=>h.1 _ _ Xe) ?_ ?_
 .rintro j x U H' hx ⟨sm,ht,y,rfl⟩;obtain⟨pm,hp,rfl⟩:=eY hx;obtain⟨m,hm,Zm⟩:=hE.get' hp;obtain⟨w1,w2⟩:=aeC m (aJ hm);have e:showCourse (ms.take (j+1))=showCourse (ms.take j)++lW m:=by
   unfold showCourse;rw[eP hm,cJ];simp[lW]
  have Y8:(showCourse (ms.take (j+1))).length<=20000:=by
   have:showCourse ms=showCourse (ms.take (j+1))++showCourse (ms.drop (j+1)):=by
    unfold showCourse;rw[←cJ,List.take_append_drop]
   rw[this,aC] at hlen
   lia
  left;refine' ik ht ?_;refine'⟨pm,m,rfl,hX.mono _ _ _ _ sm Zm,w1,w2,λl H2 hl s2 h2=>?_⟩;refine yi (s2 _ _ ht) h2 (by rw[dD,dD,sizeLine_eq];rw[e,aC] at Y8;lia) ?_;refine⟨λc' o h=>by rw[ap (ca h Xv)];exact s2 _ _ (sm _ _ h),?_,some (.ref pm),rfl⟩;rw[bv,←iT,e]
 .rintro U H' ⟨sm,ht,y,rfl⟩;rw[af,hE.len,aQ] at ht;left;exact q tl H' Xv sm ht
end
section
open Vasesq (rangeSize rangesSize MOST nextRow)
def Vy:Sp:=λvs H Q _=>vs=[]/\Q (.int (MOST:Nat)) H
theorem uS(h:k<=1000):10^k<2^90000:=by
 have h1:10^k<=16^k:=Nat.pow_le_pow_left (by decide) k;have h2:(16:Nat)^k=2^(4*k):=by rw[show(16:Nat)=2^4 from rfl,←Nat.pow_mul]
 rw[h2] at h1;exact aN h1 (a5 (by decide) (by lia))
theorem xh:fc P w base T.mF 1 Vy:=by
 specialize T.mF.fn.okN ["limit","zero"];obtain⟨rfl,q⟩:=h;refine'⟨_,(ad (dz 0 nd (cr)) (ad (fv PassesOwn.never rfl (qK rfl T.uo (dq (dA T.Jc))) (gh 1 nd) (am (mf 0 nd (cr) uE))) (am (bi (pv 0))))),?_⟩;refine Sh (lo:=0) (n:=1000) (λj U H'=>H'=H/\∃x,U=[some (.int (10^j:Nat)),x]) ⟨rfl,none,by rfl⟩ ?_ ?_
 .rintro j U H' hj ⟨rfl,x,rfl⟩;left;refine' kO ⟨fz rfl (uS (by lia)),fz (n:=10) rfl (jf (by decide))⟩ ?_;exact⟨rfl,some (.int (0+(j:Nat))),by rw[bp];rfl⟩
 .rintro U H' ⟨rfl,x,rfl⟩;left;exact q
noncomputable def kC(l:List Nat):List V:=l.map λn=>V.int (n:Nat)
structure xi(H:Hp)(rl:cS)(t:cW)(rs:List cS):Prop where
 lst:H rl=some (.lst (rs.map V.ref))
 ne:rs≠[]
 len:rs.length<=65
 row:∀(i:Nat)(r:cS),rs[i]?=some r->H r=some (.lst (kC (iV t i)))
noncomputable def kW(p rl:cS):List (Str×V):=[("part",.ref p),("limit",.int (MOST:Nat)),("rows",.ref rl)]
def gN(a:dj)(rl:cS)(H:Hp)(c:cS)(t:cW):Prop:=∃dx pp rs,H c=some (.ins a.fi dx (kW pp rl))/\IsPart a H pp t/\xi H rl t rs
structure Kp(rl:cS)(H H':Hp):Prop where
 rows:∃r rest ys,H rl=some (.lst (.ref r::rest))/\H r=some (.lst ys)
 but:∀b o,H b=some o->b≠rl->H' b=some o
theorem Kp.keeps(k:Kp rl H H'):jE H H':=by
 obtain⟨r,rest,ys,e1,e2⟩:=k.rows;refine⟨λb C dx fs e _=>k.but _ _ e λz=>?_,λb xs e=>k.but _ _ e λz=>?_,λb ps e hi=>k.but _ _ e λz=>?_,λb x xs e hx=>k.but _ _ e λz=>?_⟩
 .rw[z,e1] at e;cases e
 .rw[z,e1] at e;cases e
 .rw[z,e1] at e;cases ps with
  | nil=>cases e
  | cons p r'=>
   injection e with e;injection e with e;rw[ay] at e;injection e with e3 e4;injection e3 with e3;obtain⟨C,dx,fs,e5⟩:=hi p (by simp);rw[←e3,e2] at e5;cases e5
 .rw[z,e1] at e;injection e with e;injection e with e;injection e with e3 e4;exact hx r e3.symm
theorem xi.has(h:xi H rl t rs):∃r rest ys,H rl=some (.lst (.ref r::rest))/\H r=some (.lst ys):=by
 cases rs with
 | nil=>exact absurd rfl h.ne
 | cons r rest=>exact⟨r,rest.map V.ref,_,h.lst,h.row 0 r rfl⟩
theorem gN.has(h:gN a rl H c t):∃r rest ys,H rl=some (.lst (.ref r::rest))/\H r=some (.lst ys):=let ⟨_,_,_,_,_,z⟩:=h;z.has
theorem pE(h:gN a rl H c t)(s:bn H H'):Kp rl H H':=⟨h.has,λb o e _=>s _ _ e⟩
theorem Kp.trans(h:Kp rl H H1)(k:Kp rl H1 H2):Kp rl H H2:=⟨h.rows,λb o e n=>k.but _ _ (h.but _ _ e n) n⟩
theorem Kp.thenS(h:Kp rl H H1)(k:bn H1 H2):Kp rl H H2:=⟨h.rows,λb o e n=>k _ _ (h.but _ _ e n)⟩
theorem IsPart.kp(k:Kp rl H H')(h:IsPart a H p t):IsPart a H' p t:=by
 obtain⟨r,rest,ys,q1,q2⟩:=k.rows;obtain⟨dx,pt,pw,Xi,Xk,fm,e1,_⟩:=h.2;exact h.keep k.keeps λo e=>k.but _ _ e λz=>by rw[z,q1] at e1;cases e1
theorem zz(k:bn H H')(h:IsPart a H p t):IsPart a H' p t:=h.keep (pd k) λo e=>k _ _ e
theorem lX(h:gN a rl H c t)(k:bn H H'):gN a rl H' c t:=by
 obtain⟨dx,pp,rs,e1,e2,e3⟩:=h;exact⟨dx,pp,rs,k _ _ e1,zz k e2,⟨k _ _ e3.lst,e3.ne,e3.len,λi r hr=>k _ _ (e3.row i r hr)⟩⟩
theorem EF:(kC l).length=l.length:=by simp[kC]
theorem Hf{l:List Nat}{i:Nat}{n:Nat}(h:l[i]?=some n):(kC l)[i]?=some (.int (n:Nat)):=by simp[kC,h]
theorem QV(h:s<t.states.length):(iV t n)[s]?=some (eD t n s):=by
 unfold eD;rw[aR (by rw[pP];exact h)];rfl
theorem Kr:eD t n s<2^90000:=aN (GA t n s) (uS (k:=1000) (by decide))
def Vz(a:dj):Sp:=λvs H Q _=>∃x dx pp t,vs=[.ref x,.ref pp]/\H x=some (.ins a.fi dx [])/\IsPart a H pp t/\∀rl H',(∀b o,H b=some o->b≠x->H' b=some o)->gN a rl H' x t->Q .non H'
theorem CL:wD P w base T.sB mg 2 (Vz a):=by
 specialize T.sB.fn.okN ["self","part","state"];obtain⟨x,dx,pp,t,rfl,hx,Xr,q⟩:=h;refine⟨_,(ad (fR (pv 0) (pv 1)) (ad (fR (pv 0) (RX T.mF (xh T) hr ci)) (am (fR (pv 0) (dw (dq (wC [("state",2)] nd (eW (da (pv 1))) (λ_ _ _ _ _=>(gh 2 nd)) (λ_ _ _ _ _=>by exact(cr))))))))),?_⟩;obtain⟨wf,XG,pt,pw,Xi,Xk,fm,e1,⟨ps,e2,hE⟩,e3⟩:=id Xr;have k1:∀{o:HO},∀b u,H b=some u->b≠x->upd H x o b=some u:=λb u e n=>by rw[ap n];exact e
 unfold pZ at e1;left;refine'⟨rfl,?_⟩;have ac8:pp≠x:=λz=>by rw[z,hx] at e1;injection e1 with e1;injection e1 with _ _ e1;cases e1
 have nsx:Xk≠x:=λz=>by rw[z,hx] at e2;cases e2
 generalize af8:upd (upd H x (.ins a.fi dx (gZ "part" (.ref pp) []))) x (.ins a.fi dx (gZ "limit" (.int (MOST:Nat)) (gZ "part" (.ref pp) [])))=H2;have kx:∀b u,H b=some u->b≠x->H2 b=some u:=λb u e n=>by rw[←af8,ap n,ap n];exact e
 have aaa:H2 x=some (.ins a.fi dx [("part",.ref pp),("limit",.int (MOST:Nat))]):=by rw[←af8,bv];rfl
 have af9:=kx _ _ e1 ac8;have ace:=kx _ _ e2 nsx;left;intro D hD;refine yO (kC (iV t 0)) (by rw[EF,pP,af,hE.len]) ace hD (by rw[af,hE.len,sizeLine_eq];have:=wf.n;lia) (λi z y H' R hz hy sm k=>?_) gK ?_
 .left;refine'⟨rfl,?_⟩;have:y=.int 1:=by
   unfold kC iV at hy;rw[ak,ak] at hy;cases e:t.states[i]? with
   | none=>rw[e] at hy;cases hy
   | some s=>rw[e] at hy;cases hy;rfl
  rw[this] at k;exact k _ (bn.refl _)
 .intro H3 s3 Yx;left;refine⟨by(show 1<=sizeLine;decide),λrl aeD=>?_⟩;have aeE:upd H3 rl (.lst [.ref D]) x=some (.ins a.fi dx [("part",.ref pp),("limit",.int (MOST:Nat))]):=bn.upd aeD _ _ (s3 _ _ aaa);have ZM:upd H3 rl (.lst [.ref D]) rl=some (.lst [.ref D]):=bv;have aai:upd H3 rl (.lst [.ref D]) D=some (.lst (kC (iV t 0))):=bn.upd aeD _ _ Yx;have s4:bn H2 (upd H3 rl (.lst [.ref D])):=s3.trans (bn.upd aeD);generalize upd H3 rl (.lst [.ref D])=H4 at aeE ZM aai s4;left;have nrx:rl≠x:=λz=>by rw[z,aeE] at ZM;cases ZM
  have nDx:D≠x:=λz=>by rw[z,aeE] at aai;cases aai
  refine q rl _ (λb o e n=>by rw[ap n];exact s4 _ _ (kx _ _ e n)) ⟨dx,pp,[D],by rw[bv];rfl,?_,⟨by rw[ap nrx];exact ZM,by simp,by simp,λi r hr=>?_⟩⟩
  .
   have ne:∀{b:cS} {u:HO},H b=some u->(∀C dx,u≠.ins C dx [])->upd H4 x (.ins a.fi dx (gZ "rows" (.ref rl) [("part",.ref pp),("limit",.int (MOST:Nat))])) b=some u:=λ{b u} eb hu=>by
    have n:b≠x:=λz=>(by rw[z,hx] at eb;cases eb;exact hu _ _ rfl);rw[ap n];exact s4 _ _ (kx _ _ eb n)
   refine Xr.keep ⟨λb C dx fs e h=>ne e ?_,λb xs e=>ne e ?_,λb ps e _=>ne e ?_,λb x xs e _=>ne e ?_⟩ λo e=>by rw[ap ac8];exact s4 _ _ (kx _ _ e ac8)
   .intro C dx z;cases z;exact absurd h.2 (by simp)
   .intro C dx z;cases z
   .intro C dx z;cases z
   .intro C dx z;cases z
  .cases i with
   | zero=>cases hr;rw[ap nDx];exact aai
   | succ i=>simp at hr
end
section
open Vasesq (rangeSize rangesSize MOST nextRow)
noncomputable def uT(row:List Nat)(b:Vasesd.Branch):Nat:=rangesSize b.ranges*row[b.to]?.getD 0
def Bq(row:List Nat)(x:Bytes×Vasesd.Node):Nat:=min MOST ((x.2.branches.map (uT row)).sum)
def VA(a:dj):Sp:=λvs H Q _=>∃c st last dx pp rl x row,vs=[.ref c,.ref st,.ref last]/\H c=some (.ins a.fi dx (kW pp rl))/\si a H st x/\(∀b∈x.2.branches,xa row.length b)/\H last=some (.lst (kC row))/\(∀n∈row,n<=MOST)/\Q (.int (Bq row x:Nat)) H
theorem su:iA P w base T.jT mg 1 (VA a):=by
 specialize T.jT.fn.okN ["self","state","last","total","branch"];obtain⟨c,st,last,dx,pp,rl,x,row,rfl,hc,⟨Y1,pn,d,f,g,pb,bl,hs,_,⟨ps,Xe,hE⟩,_⟩,aeC,aau,hm,q⟩:=h;refine⟨_,(ad (dz 3 nd (cr)) (ad (fv PassesOwn.never rfl (eW (da (pv 1))) (gh 4 nd) (am (mf 3 nd (dF kh (da (pv 4)) (eF (pv 2) (da (pv 4)))) ij))) (am (bi (uu (M7 rfl) (by rfl) T.Uc boot_min (dg (pv 3) (da (pv 0)))))))),?_⟩;unfold kW at hc;unfold iB at hs;left;refine lE (xs:=ps.map V.ref) (λj U H'=>H'=H/\∃y,U=[some (.ref c),some (.ref st),some (.ref last),some (.int (((x.2.branches.take j).map (uT row)).sum:Nat)),y]) ⟨rfl,none,rfl⟩ (λi U H' _ h=>by rw[h.1];exact Xe) ?_ ?_
 .rintro j v U H' hv ⟨rfl,y,rfl⟩;obtain⟨p,hp,rfl⟩:=eY hv;obtain⟨b,hb,Yj,pl,Xi,ph,pt,n,gg,ho,Xs⟩:=hE.get' hp;have w:=aeC b (aJ hb);unfold i6 at ho;obtain rfl:=Xs.many;obtain rfl:=Xs.goal;obtain⟨kk,hi⟩:∃kk,row[b.to]?=some kk:=⟨_,aR w.to_⟩;left;refine eg aau rfl (Hf hi) ?_;have hle:=hm kk (aJ hi);refine' kO ⟨fz rfl (aX (ln w.wf w.len) (a5 (by decide) (by decide))),fz rfl (aN hle (uS (k:=1000) (by decide)))⟩ ?_;refine⟨rfl,some (.ref p),?_⟩;have e:((x.2.branches.take (j+1)).map (uT row)).sum=((x.2.branches.take j).map (uT row)).sum+rangesSize b.ranges*kk:=by
   rw[eP hb,aD,List.sum_append];show _+(uT row b+0)=_;unfold uT;rw[hi];rfl
  rw[e];simp
 .rintro U H' ⟨rfl,y,rfl⟩;rw[af,hE.len,aQ];left;have e:(if((MOST:Nat):Int)<(((x.2.branches.map (uT row)).sum:Nat):Int) then((MOST:Nat):Int) else(((x.2.branches.map (uT row)).sum:Nat):Int))=((Bq row x:Nat):Int):=by
   unfold Bq;generalize MOST=M;generalize (x.2.branches.map (uT row)).sum=S;split<;>lia
  rw[e];exact q
theorem LE{t:cW}{row:List Nat}{i:Nat}{x:Bytes×Vasesd.Node}(h:t.states[i]?=some x):(kC (nextRow t row))[i]?=some (.int (Bq row x:Nat)):=by
 unfold kC nextRow;rw[ak,ak,h];rfl
theorem OY:∀k∈iV t n,k<=MOST:=by
 intro k hk;obtain⟨i,hi⟩:=bw hk;have:eD t n i=k:=by unfold eD;rw[hi];rfl
 rw[←this];exact GA t n i
def VB(a:dj):Sp:=λvs H Q _=>∃rl c t,∃s n:Nat,vs=[.ref c,.int (s:Nat),.int (n:Nat)]/\gN a rl H c t/\s<t.states.length/\n<=64/\∀H',Kp rl H H'->gN a rl H' c t->Q (.int (eD t n s:Nat)) H'
theorem fO:iA P w base T.fY mg 2 (VB a):=by
 specialize T.fY.fn.okN ["self","number","length","last","state"];obtain⟨rl,c,t,sN,n,rfl,Xy,hs,hn,q⟩:=h;refine'⟨_,(ad (gI PassesOwn.never (jl jV (fS T.d5 (da (pv 0))) (pv 2) (gJ _)) (ad (dz 3 nd (eF (da (pv 0)) (dF i0 (fS T.d5 (da (pv 0))) (cr)))) (am (dB (ve (da (pv 0)) (wC [("state",4)] nd (eW (da (da (pv 0)))) (λ_ _ _ _ _=>(gh 4 nd)) (λ_ _ _ _ _=>by exact(dh (pv 0) T.iU T.jT (su T) hr ci (dg (pv 4) (pv 3)))))))))) (am (bi (eF (eF (da (pv 0)) (pv 2)) (pv 1))))),?_⟩;obtain⟨dx,pp,abq,aaj,ac9,Zc⟩:=id Xy;refine iQ (λm U H'=>Kp rl H H'/\∃rs x,m=66-rs.length/\U=[some (.ref c),some (.int (sN:Nat)),some (.int (n:Nat)),x,none]/\H' c=some (.ins a.fi dx (kW pp rl))/\IsPart a H' pp t/\xi H' rl t rs)
  (λU H'=>Kp rl H H'/\∃rs x,n<rs.length/\U=[some (.ref c),some (.int (sN:Nat)),some (.int (n:Nat)),x,none]/\H' c=some (.ins a.fi dx (kW pp rl))/\IsPart a H' pp t/\xi H' rl t rs) (66-abq.length)
  ⟨pE Xy (bn.refl _),abq,none,rfl,rfl,aaj,ac9,Zc⟩ ?_ ?_
 .rintro U H' ⟨kp,rs,x,Xg,rfl,hc,hp,XJ⟩;have Zf:=hc;unfold kW at Zf;have h1:rs[n]?=some rs[n]:=by simp[Xg]
  have h2:=XJ.row n _ h1;have h3:=XJ.lst;left;refine' eg h3 rfl (by rw[ak,h1];rfl) ?_;refine eg h2 rfl (Hf (QV hs)) ?_;exact q H' kp ⟨dx,pp,rs,hc,hp,XJ⟩
 .rintro abF m U H' ⟨kp,rs,x,rfl,rfl,hc,hp,XJ⟩;have Zf:=hc;unfold kW at Zf;have h3:=XJ.lst;left;rw[af];refine cX (λhle=>?_) (λaeF=>?_)
  .have hle:rs.length<=n:=bx.mp (ai hle);have Yp:0<rs.length:=List.length_pos_iff.mpr XJ.ne;refine⟨_,λ_ _ z=>z,?_⟩;have h1:rs[rs.length-1]?=some rs[rs.length-1]:=by simp[Yp]
   have aau:=XJ.row _ _ h1;generalize hl:rs[rs.length-1]=last at h1 aau;left;rw[af];refine' eg (j:=rs.length-1) h3 (by lia) (by rw[ak,h1];rfl) ?_;refine ik h3 ?_;obtain⟨wf,XG,pt,pw,Xi,Xk,fm,e1,⟨ps,e2,hE⟩,e3⟩:=id hp;unfold pZ at e1;left;intro D hD;refine yO (kC (iV t rs.length)) (by rw[EF,pP,af,hE.len]) e2 hD (by rw[af,hE.len,sizeLine_eq];have:=wf.n;lia) (λi z y H4 R hz hy sm k=>?_) gK ?_
   .obtain⟨p1,Xh,rfl⟩:=eY hz;obtain⟨xs,aaG,Xf⟩:=hE.get' Xh;have hc4:=sm _ _ Zf;left;refine'⟨rfl,?_⟩;refine⟨c,p1,last,dx,pp,rl,xs,iV t (rs.length-1),rfl,sm _ _ hc,mU.mono _ _ _ _ sm Xf,?_,sm _ _ aau,OY,?_⟩
    .intro b hb;have:=wf.br i b (by unfold Vasesd.Part.branches Vasesd.Part.node;rw[aaG];exact hb);rw[pP];exact this
    .have e:iV t rs.length=nextRow t (iV t (rs.length-1)):=by
      conv=>lhs;rw[show rs.length=(rs.length-1)+1 by lia]
      rfl
     rw[e,LE aaG] at hy;cases hy;exact k _ (bn.refl _)
   .intro H4 s4 aai;left;refine yh (s4 _ _ h3) (by rw[af,sizeLine_eq];lia) ?_;have abr:Kp rl H' (upd H4 rl (.lst (rs.map V.ref++[.ref D]))):=⟨XJ.has,λb o e ne=>by rw[ap ne];exact s4 _ _ e⟩;have nc:c≠rl:=λz=>(by rw[z,h3] at hc;cases hc);have nD:D≠rl:=λz=>(by rw[z,h3] at hD;cases hD);refine⟨66-(rs++[D]).length,by simp;lia,kp.trans abr,rs++[D],some (.ref last),rfl,rfl,by rw[ap nc];exact s4 _ _ hc,hp.kp abr,⟨by rw[bv,aD];rfl,by simp,by simp;lia,λi r Xd=>?_⟩⟩;by_cases hi:i<rs.length
    .rw[cK hi] at Xd;have:=XJ.row i r Xd;have nr:r≠rl:=λz=>by
      rw[z,h3] at this;cases rs with
      | nil=>exact XJ.ne rfl
      | cons r0 rest=>
       injection this with this;injection this with this;unfold kC at this;cases hh:iV t i with
       | nil=>rw[hh] at this;cases this
       | cons y ys=>rw[hh] at this;injection this with this;cases this
     rw[ap nr];exact s4 _ _ this
    .rw[cj (by lia)] at Xd;have aec:i=rs.length:=by
      have:=(ax.mp Xd).1;simp at this
      lia
     subst aec;simp at Xd;subst Xd;rw[ap nD];exact aai
  .have aeF:n<rs.length:=bI λz=>aeF (ao (bx.mpr z));exact abF _ _ ⟨kp,rs,x,aeF,rfl,hc,hp,XJ⟩
def TY(a:dj):Sp:=λvs H Q _=>∃rl c t p b,∃n:Nat,vs=[.ref c,.ref p,.int (n:Nat)]/\gN a rl H c t/\iW a H p b/\xa t.states.length b/\n<=64/\∀H',Kp rl H H'->gN a rl H' c t->Q (.int (gG t n b:Nat)) H'
theorem jF:iA P w base T.iC mg 3 (TY a):=by
 specialize T.iC.fn.okN ["self","branch","left"];obtain⟨rl,c,t,p,b,n,rfl,Xy,⟨Yj,pl,Xi,ph,pt,nn,gg,ho,Xs⟩,w,hn,q⟩:=h;refine⟨_,(am (bi (dF kh (da (pv 1)) (dh (pv 0) T.iU T.fY (fO T) hr ci (dg (da (pv 1)) (pv 2)))))),?_⟩;obtain⟨dx,pp,abq,aaj,ac9,Zc⟩:=id Xy;obtain rfl:=Xs.many;obtain rfl:=Xs.goal;unfold i6 at ho;unfold kW at aaj;left;refine⟨rl,c,t,b.to,n,rfl,Xy,w.to_,hn,λH' kp XN=>?_⟩;refine kO ⟨fz rfl (aX (ln w.wf w.len) (a5 (by decide) (by decide))),fz rfl Kr⟩ ?_;have:=q H' kp XN;unfold gG at this;rw[Int.natCast_mul] at this;exact this
end
section
open Vasesb (Val)
open Vasesq (Msg wrongAt target firstWrong allFit)
theorem gT(h:iW a H p b):∃dx pl ps ph pt,H p=some (.ins a.eM dx [("label",.ref pl),("spans",.ref ps),("handed",.ref ph),("target",.ref pt),("many",.int (Vasesq.rangesSize b.ranges:Nat)),("goal",.int (b.to:Nat))])/\uR a H pl b.label/\IsList (fE a) H ps b.ranges/\IsList (uR a) H ph b.hands:=by
 obtain⟨dx,pl,ps,ph,pt,n,g,e,z⟩:=h;obtain rfl:=z.many;obtain rfl:=z.goal;exact⟨dx,pl,ps,ph,pt,e,z.label,z.spans,z.handed⟩
def VC(a:dj):Sp:=λvs H Q _=>∃p lab Y1 pn d f g lb bl ps bs,vs=[.ref p,.str (strOf lab)]/\H p=some (.ins a.ge Y1 (iB pn d f g lb bl))/\H lb=some (.lst (ps.map V.ref))/\dX (iW a) H ps bs/\match bs.find? λb=>b.label==lab with
 | some b=>∀(i:Nat)(pb:cS),ps[i]?=some pb->bs[i]?=some b->Q (.ref pb) H
 | none=>Q .non H
theorem xk:∀{l:List α} {j:Nat},(∀i x,i<j->l[i]?=some x->f x=false)->l.find? f=(l.drop j).find? f
 | l,0,_=>by simp
 | [],j+1,_=>by simp
 | x::l,j+1,h=>by
  rw[List.find?_cons_of_neg (by rw[h 0 x (by lia) rfl];exact aq),List.drop_succ_cons];exact xk λi y hi hy=>h (i+1) y (by lia) (by simpa using hy)
theorem xl:fc P w base T.rB 1 (VC a):=by
 specialize T.rB.fn.okN ["state","label","branch"];obtain⟨p,lab,Y1,pn,d,f,g,pb,bl,ps,bs,rfl,hs,Xe,hE,q⟩:=h;refine⟨_,(ad (fv PassesOwn.never rfl (eW (da (pv 0))) (gh 2 nd) (am (de (fM (da (da (pv 2))) (pv 1)) (am (bi (pv 2))) cZ))) (am (bi (wc)))),?_⟩;unfold iB at hs;left;refine lE (xs:=ps.map V.ref) (λj U H'=>H'=H/\(∃y,U=[some (.ref p),some (.str (strOf lab)),y])/\∀i b,i<j->bs[i]?=some b->(b.label==lab)=false) ⟨rfl,⟨none,rfl⟩,λi b h=>by lia⟩ (λi U H' _ h=>by rw[h.1];exact Xe) ?_ ?_
 .rintro j v U H' hv ⟨rfl,⟨y,rfl⟩,aaE⟩;obtain⟨p1,hp,rfl⟩:=eY hv;obtain⟨b,hb,Xs⟩:=hE.get' hp;obtain⟨Yj,pl,Xi,ph,pt,ho,hl,_,_⟩:=gT Xs;obtain⟨dxl,pll,bel,hol⟩:=hl.obj;left;by_cases e:b.label=lab
  .refine' cX (λ_=>?_) (λz=>absurd (by rw[e];exact ao rfl) z);rw[xk aaE,i7 hb,List.find?_cons_of_pos (by simp[e])] at q;exact q j p1 hp hb
  .refine' cX (λz=>absurd (hG (V.str.inj (ai z))) e) (λ_=>?_);refine⟨rfl,⟨some (.ref p1),rfl⟩,λi c hi hc=>?_⟩;by_cases e2:i=j
   .subst e2;rw[hb] at hc;cases hc;simp[e]
   .exact aaE i c (by lia) hc
 .rintro U H' ⟨rfl,⟨y,rfl⟩,aaE⟩;rw[af,hE.len] at aaE;have:bs.find? (λb=>b.label==lab)=none:=by
   rw[xk aaE,bg];rfl
  rw[this] at q;left;exact q
def VD(a:dj):Sp:=λvs H Q _=>∃ps gl rs xs,vs=[.ref ps,.ref gl]/\IsList (fE a) H ps rs/\IsList (ja a) H gl xs/\∀H',bn H H'->Q (.bl (allFit xs rs)) H'
theorem uU:∀{xs:List Val} {rs:List VasesBase.Range},xs.length≠rs.length->allFit xs rs=false
 | [],[],h=>absurd rfl h
 | [],_::_,_=>rfl
 | _::_,[],_=>rfl
 | x::xs,r::rs,h=>by
  show(Vasesb.fits x r&&allFit xs rs)=false;rw[uU (by simpa using h),Bool.and_false]
theorem sv:∀{j:Nat} {xs:List Val} {rs:List VasesBase.Range},(∀i x r,i<j->xs[i]?=some x->rs[i]?=some r->Vasesb.fits x r=true)->xs.length=rs.length->allFit xs rs=allFit (xs.drop j) (rs.drop j)
 | 0,_,_,_,_=>by simp
 | j+1,[],[],_,_=>by simp
 | j+1,[],_::_,_,h=>by simp at h
 | j+1,_::_,[],_,h=>by simp at h
 | j+1,x::xs,r::rs,h,hl=>by
  show(Vasesb.fits x r&&allFit xs rs)=allFit (xs.drop j) (rs.drop j);rw[h 0 x r (by lia) rfl rfl,Bool.true_and];exact sv (λi y s hi hy hs=>h (i+1) y s (by lia) (by simpa using hy) (by simpa using hs)) (by simpa using hl)
theorem LF:fc P w base T.Dh 2 (VD a):=by
 specialize T.Dh.fn.okN ["spans","given","span","value"];obtain⟨pp,gl,rs,xs,rfl,⟨ps,Xe,hE⟩,⟨vs,aeG,hV⟩,q⟩:=h;refine'⟨_,(ad (de (jw (fS T.d5 (pv 0)) (fS T.d5 (pv 1))) (am (bi (xX))) cZ) (ad (fv PassesOwn.never rfl (Gj rfl T.Mh (dg (pv 0) (pv 1))) (wj rfl (jd (gh 2 nd) (jd (gh 3 nd) sY))) (am (de (j6 (gm (df T.jv (QT T) hr ci (dg (pv 2) (pv 3))))) (am (bi (xX))) cZ))) (am (bi (xX))))),?_⟩;rw[af,af,hE.len,hV.len];by_cases hl:xs.length=rs.length
 .refine' cX (λz=>absurd z (by simp[hl])) (λ_=>?_);refine Ot (xs:=ps.map V.ref) (ys:=vs.map V.ref) (λj U H'=>bn H H'/\(∃y z,U=[some (.ref pp),some (.ref gl),y,z])/\∀i x r,i<j->xs[i]?=some x->rs[i]?=some r->Vasesb.fits x r=true) ⟨bn.refl _,⟨none,none,rfl⟩,λi x r h=>by lia⟩ (by rw[af,af,hE.len,hV.len];lia) (λi U H' _ h=>⟨h.1 _ _ Xe,h.1 _ _ aeG⟩) ?_ ?_
  .rintro j v1 v2 tp U H' acf aaV ⟨sm,⟨y,z,rfl⟩,hok⟩ Yw;obtain⟨p1,Xh,rfl⟩:=eY acf;obtain⟨p2,XQ,rfl⟩:=eY aaV;obtain⟨r,Yd,Xn⟩:=hE.get' Xh;obtain⟨x,XR,aeH⟩:=hV.get' XQ;have s1:bn H (upd H' tp (.tup [.ref p1,.ref p2])):=sm.trans (bn.upd Yw);have Ys:upd H' tp (.tup [.ref p1,.ref p2]) tp=some (.tup [.ref p1,.ref p2]):=bv;generalize upd H' tp (.tup [.ref p1,.ref p2])=H1 at s1 Ys;left;refine' tF Ys ?_;refine'⟨p1,p2,r,x,rfl,hJ a _ _ _ _ s1 Xn,iN.mono _ _ _ _ s1 aeH,?_⟩;cases hf:Vasesb.fits x r with
   | true=>
    refine' eQ ?_;refine⟨s1,⟨some (.ref p1),some (.ref p2),rfl⟩,λi x' r' hi acg Xd=>?_⟩;by_cases e:i=j
    .subst e;rw[XR] at acg;rw[Yd] at Xd;cases acg;cases Xd;exact hf
    .exact hok i x' r' (by lia) acg Xd
   | false=>
    refine' eU ?_;have:allFit xs rs=false:=by
     rw[sv hok hl,i7 XR,i7 Yd];show(Vasesb.fits x r&&_)=false;rw[hf];rfl
    rw[this] at q;exact q _ s1
  .rintro U H' ⟨sm,⟨y,z,rfl⟩,hok⟩;rw[af,hE.len] at hok;left;have:allFit xs rs=true:=by
    rw[sv hok hl,bg,←hl,bg];rfl
   rw[this] at q;exact q _ sm
 .refine' cX (λ_=>?_) (λz=>absurd (by simp;lia) z);rw[uU hl] at q;exact q _ (bn.refl _)
noncomputable def Br(bs:List Vasesd.Branch)(m:Msg):Nat:=
 if bs=[] then 1
 else match bs.find? λb=>b.label==m.label with
  | none=>3
  | some b=>if allFit m.vals b.ranges=false then 5 else if b.hands≠m.hands then 6 else 0
def oB(hs:List Bytes):List PyData:=hs.map λh=>PyData.str (strOf h)
theorem CM:∀(hs:List Bytes),uw K H (ku hs) (oB hs)
 | []=>.nil
 | h::r=>.cons (.str _) (CM r)
theorem OZ:∀(xs ys:List Bytes),PyData.eqv (.list (oB xs)) (.list (oB ys))=decide (xs=ys):=by
 have key:∀(xs ys:List Bytes),PyData.eqvAll (oB xs) (oB ys)=decide (xs=ys):=by
  intro xs
  induction xs with
  | nil=>intro ys;cases ys<;>rfl
  | cons x r ih=>
   intro ys;cases ys with
   | nil=>rfl
   | cons y s=>
    show(PyData.eqv (.str (strOf x)) (.str (strOf y))&&PyData.eqvAll (oB r) (oB s))=_;rw[ih s];have:PyData.eqv (.str (strOf x)) (.str (strOf y))=decide (x=y):=by
     show(strOf x==strOf y)=decide (x=y);by_cases e:x=y
     .subst e;simp
     .have:strOf x≠strOf y:=λz=>e (hG z);simp[e,this]
    rw[this];by_cases e:x=y<;>by_cases e2:r=s<;>simp[e,e2]
 exact key
theorem Hg(x:Bytes):PyData.strOk (strOf x)=true:=by
 unfold PyData.strOk strOf;simp;intro c _;have:=c.toNat_lt
 lia
theorem zA(xs:List Bytes)(h:xs.length<=2):SeqAt.shaped (.list (oB xs))=true:=by
 match xs,h with
 | [],_=>rfl
 | [x],_=>
  unfold SeqAt.shaped;simp[oB,PyData.canLay0,PyData.canLayAll0,Hg,PyData.depth,PyData.depthAll]
 | [x,y],_=>
  unfold SeqAt.shaped;simp[oB,PyData.canLay0,PyData.canLayAll0,Hg,PyData.depth,PyData.depthAll]
def VE(a:dj):Sp:=λvs H Q _=>∃p pm x m,vs=[.ref p,.ref pm]/\si a H p x/\(∀b∈x.2.branches,b.hands.length<=2)/\iH a H pm m/\∀H',bn H H'->Q (.int (Br x.2.branches m:Nat)) H'
theorem vU:fc P w base T.pC 3 (VE a):=by
 specialize T.pC.fn.okN ["state","message","branch","seat"];obtain⟨p,pm,x,m,rfl,Xf,hh,Zm,q⟩:=h;refine⟨_,(ad (de (fM (da (pv 0)) (iz T.Ic)) (am (bi (dA T.Re))) cZ) (ad (dz 2 nd (df T.rB (xl T) hr ci (dg (pv 0) (da (pv 1))))) (ad (de (we (F0 (pv 2))) (am (bi (dA T.Fo))) cZ) (ad (de (j6 (gm (df T.Dh (LF T) hr ci (dg (da (pv 2)) (da (pv 1)))))) (am (bi (dA T.Ia))) cZ) (ad (de (jl (RI W9) (wC [("seat",3)] nd (eW (da (pv 2))) (λ_ _ _ _ _=>(gh 3 nd)) (λ_ _ _ _ _=>by exact(yq (K:=K) rfl (pv 3) rfl))) (da (pv 1)) (gJ _)) (am (bi (dA T.FN))) cZ) (am (bi (dA T.Ii)))))))),?_⟩;obtain⟨Y1,pn,d,f,g,pb,bl,hs,ada,Xp,_⟩:=id Xf;obtain⟨adb,gl,hl,hm,abt,aaf,aez,Yr⟩:=id Zm;unfold iB at hs;unfold z0 at hm;left;unfold Br at q;by_cases hz:x.2.branches=[]
 .rw[ae hz] at q;refine' cX (λ_=>?_) (λz=>absurd (by rw[ada.mpr hz];exact ao rfl) z);exact q _ (bn.refl _)
 .rw[aa hz] at q;refine' cX (λz=>absurd (ada.mp (V.str.inj (ai z))) hz) (λ_=>?_);obtain⟨ZT,YT,X5⟩:=Xp;refine⟨p,m.label,Y1,pn,d,f,g,pb,bl,ZT,x.2.branches,rfl,hs,YT,X5,?_⟩;cases hf:x.2.branches.find? (λb=>b.label==m.label) with
  | none=>
   rw[hf] at q;dsimp only at q ⊢;left;refine' eU ?_;exact q _ (bn.refl _)
  | some b=>
   rw[hf] at q;dsimp only at q ⊢;intro ib ZN aeI acG;obtain⟨b9,ach,Xs⟩:=X5.get' aeI;rw[acG] at ach;cases ach;obtain⟨Yj,pl,Xi,ph,pt,ho,YQ,Xn,hha⟩:=gT Xs;have Yu:=hh b (List.mem_of_find?_eq_some hf);left;refine' cX (λz=>absurd z (by simp)) (λ_=>?_);refine'⟨Xi,gl,b.ranges,m.vals,rfl,Xn,abt,λH1 s1=>?_⟩;cases Y7:allFit m.vals b.ranges with
   | false=>
    rw[Y7,ae rfl] at q;refine' eU ?_;exact q _ s1
   | true=>
    rw[Y7,aa (by decide)] at q;refine eQ ?_;obtain⟨Xl,aca,Ze⟩:=hha;have YF:=s1 _ _ ho;have acF:=s1 _ _ aca;have hm1:=s1 _ _ hm;left;intro D hD;refine yO (ku b.hands) (by unfold ku;rw[af,af,af,Ze.len]) acF hD (by rw[af,Ze.len,sizeLine_eq];lia) (λi v y H' R hv hy sm k=>?_) gK ?_
    .obtain⟨p1,Xh,rfl⟩:=eY hv;obtain⟨nm,Yd,aaT⟩:=Ze.get' Xh;unfold ku at hy;rw[ak,ak,Yd] at hy;cases hy;obtain⟨aag,pln,aah,abl⟩:=(p9.mono _ _ _ _ (s1.trans sm) aaT).obj;left;refine'⟨rfl,?_⟩;exact k _ (bn.refl _)
    .intro H2 s2 YZ;have XB:=s1.trans s2;have acT:=XB _ _ hm;left;refine⟨.list (oB b.hands),.list (oB m.hands),.lst (dU.of YZ) (CM _),.lst (dU.of (XB _ _ aaf)) (CM _),zA _ Yu,zA _ Yr,?_⟩;rw[OZ];left;by_cases he:b.hands=m.hands
     .rw[aa (λz=>z he)] at q;refine' cX (λz=>absurd z (by simp[he])) (λ_=>?_);exact q _ XB
     .rw[ae he] at q;refine' cX (λ_=>?_) (λz=>absurd (by simp[he]) z);exact q _ XB
end
section
open Vasesb (Val)
open Vasesq (Msg wrongAt target firstWrong allFit rangesSize valsRank)
noncomputable def fh(t:cW):Nat->List Msg->List Vasesd.Branch
 | _,[]=>[]
 | s,m::r=>if wrongAt t s m≠0 then [] else match mj t s m.label with
  | none=>[]
  | some b=>b::fh t b.to r
noncomputable def j3(s:Nat)(bs:List Vasesd.Branch):Nat:=match bs.getLast? with
 | none=>s
 | some b=>b.to
theorem Bs:j3 s (b::r)=j3 b.to r:=by
 unfold j3;cases r with
 | nil=>rfl
 | cons c r=>rw[List.getLast?_cons_cons];cases h:(c::r).getLast? with
  | none=>simp at h
  | some x=>rfl
theorem pi(h:wrongAt t s m=0):∃b,mj t s m.label=some b/\allFit m.vals b.ranges=true/\b.hands=m.hands:=by
 unfold wrongAt at h;split at h
 .cases h
 .split at h
  .cases h
  .rename_i b e;split at h
   .cases h
   .rename_i h1;split at h
    .cases h
    .rename_i h2;exact⟨b,e,by simpa using h1,by simpa using h2⟩
theorem rp(h:wrongAt t s m=0)(hf:mj t s m.label=some b):fh t s (m::r)=b::fh t b.to r:=by
 show(if wrongAt t s m≠0 then [] else match mj t s m.label with|none=>[]|some b=>b::fh t b.to r)=_;rw[aa (λz=>z h),hf]
theorem rq(h:wrongAt t s m≠0):fh t s (m::r)=[]:=ae h
theorem EG(hf:mj t s m.label=some b):target t s m=b.to:=by
 unfold target;rw[show((t.branches s).find? λb=>b.label==m.label)=some b from hf];rfl
theorem sw:∀(ms:List Msg)(s k:Nat),(fh t s ms).length=ms.length/\firstWrong t s k ms=none/\ms.foldl (λq m=>target t q m) s=j3 s (fh t s ms)∨∃m,ms[(fh t s ms).length]?=some m/\firstWrong t s k ms=some (k+(fh t s ms).length,wrongAt t (j3 s (fh t s ms)) m)
 | [],s,k=>.inl ⟨rfl,rfl,rfl⟩
 | m::r,s,k=>by
  by_cases h:wrongAt t s m=0
  .obtain⟨b,hf,_⟩:=pi h;have e:firstWrong t s k (m::r)=firstWrong t b.to (k+1) r:=by
    show(if wrongAt t s m≠0 then _ else firstWrong t (target t s m) (k+1) r)=_;rw[aa (λz=>z h),EG hf]
   rw[rp h hf,e,Bs];rcases sw r b.to (k+1) with ⟨h1,h2,h3⟩|⟨m',h1,h2⟩
   .exact .inl ⟨by simp[h1],h2,by rw[List.foldl_cons,EG hf];exact h3⟩
   .refine .inr ⟨m',by simpa using h1,?_⟩;rw[h2,az]
    congr 2
    lia
  .rw[rq h];refine .inr ⟨m,rfl,?_⟩;show(if wrongAt t s m≠0 then some (k,wrongAt t s m) else _)=_;rw[ae h];rfl
def VF(a:dj):Sp:=λvs H Q _=>∃s:Nat,∃l bs,vs=[.int (s:Nat),.ref l]/\IsList (iW a) H l bs/\Q (.int (j3 s bs:Nat)) H
theorem NC:fc P w base T.HP 1 (VF a):=by
 specialize T.HP.fn.okN ["number","path"];obtain⟨sN,l,bs,rfl,⟨ps,Xe,hE⟩,q⟩:=h;refine⟨_,(ad (de (fM (fS T.d5 (pv 1)) (cr)) (am (bi (pv 0))) cZ) (am (bi (da (eF (pv 1) (dF i0 (fS T.d5 (pv 1)) (cr))))))),?_⟩;have hlen:=hE.len;left;rw[af,hlen];by_cases h0:bs=[]
 .subst h0;refine' cX (λ_=>?_) (λz=>absurd (by simp) z);exact q
 .have Yp:0<bs.length:=List.length_pos_iff.mpr h0;refine cX (λz=>absurd (ai z) (by intro z;injection z with z;lia)) (λ_=>?_);obtain⟨b,hb⟩:∃b,bs[bs.length-1]?=some b:=⟨_,aR (by lia)⟩;obtain⟨p1,Xh,Xs⟩:=hE.get hb;obtain⟨Yj,pl,Xi,ph,pt,ho,_⟩:=gT Xs;left;rw[af,hlen];refine' eg (j:=bs.length-1) Xe (by lia) (by rw[ak,Xh];rfl) ?_;have e:j3 sN bs=b.to:=by
   unfold j3;rw[List.getLast?_eq_getElem?,hb]
  rw[e] at q;exact q
def VG(a:dj):Sp:=λvs H Q _=>∃pp t,∃s:Nat,∃ml ms,vs=[.ref pp,.int (s:Nat),.ref ml]/\IsPart a H pp t/\s<t.states.length/\IsList (iH a) H ml ms/\ms.length<=64/\∀l H',bn H H'->IsList (iW a) H' l (fh t s ms)->Q (.ref l) H'
theorem IR{t:cW}{s:Nat}{x:Bytes×Vasesd.Node}(h:t.states[s]?=some x):t.branches s=x.2.branches:=by
 unfold Vasesd.Part.branches Vasesd.Part.node;rw[h]
theorem Bt:fc P w base T.yA 4 (VG a):=by
 specialize T.yA.fn.okN ["part","number","messages","path","state","message","branch"];obtain⟨pp,t,sN,ml,ms,rfl,Xr,hs,⟨Zx,YG,hM⟩,hm64,q⟩:=h;refine⟨_,(ad (dz 3 nd (dw eA)) (ad (dz 4 nd (eF (da (pv 0)) (pv 1))) (ad (fv PassesOwn.never rfl (eW (pv 2)) (gh 5 nd) (ad (de (jw (df T.pC (vU T) hr ci (dg (pv 4) (pv 5))) (dA T.Ii)) (am (bi (pv 3))) cZ) (ad (dz 6 nd (df T.rB (xl T) hr ci (dg (pv 4) (da (pv 5))))) (ad (dB (ve (pv 3) (pv 6))) (am (dz 4 nd (eF (da (pv 0)) (da (pv 6))))))))) (am (bi (pv 3)))))),?_⟩;obtain⟨wf,XG,pt,pw,Xi,Xk,fm,e1,⟨ps,e2,hE⟩,e3⟩:=id Xr;unfold pZ at e1;have get:∀{i:Nat},i<t.states.length->∃x p,t.states[i]?=some x/\ps[i]?=some p/\si a H p x:=λ{i} hi=>by
  obtain⟨p,hp,Xf⟩:=hE.get (aR hi);exact⟨_,p,aR hi,hp,Xf⟩
 left;refine⟨by(show 0<=sizeLine;decide),λpl Xj=>?_⟩;obtain⟨x0,p0,abU,ac9,agU⟩:=get hs;have e11:upd H pl (.lst []) pp=some (.ins a.ic XG [("title",.ref pt),("worker",.ref pw),("start",.ref Xi),("states",.ref Xk),("form",.ref fm)]):=bn.upd Xj _ _ e1;have e21:upd H pl (.lst []) Xk=some (.lst (ps.map V.ref)):=bn.upd Xj _ _ e2;have hm1:upd H pl (.lst []) ml=some (.lst (Zx.map V.ref)):=bn.upd Xj _ _ YG;left;refine' eg e21 rfl (by rw[ak,ac9];rfl) ?_
 refine lE (xs:=Zx.map V.ref) (λj U H'=>bn H H'/\∃(sj:Nat)(pj:cS)(xj:Bytes×Vasesd.Node)(qs:List cS)(bs:List Vasesd.Branch)(y z:Option V),sj<t.states.length/\t.states[sj]?=some xj/\si a H pj xj/\H' pl=some (.lst (qs.map V.ref))/\dX (iW a) H qs bs/\bs.length=j/\fh t sN ms=bs++fh t sj (ms.drop j)/\
   U=[some (.ref pp),some (.int (sN:Nat)),some (.ref ml),some (.ref pl),some (.ref pj),y,z]) ⟨bn.upd Xj,sN,p0,x0,[],[],none,none,hs,abU,agU,bv,.nil,rfl,rfl,rfl⟩ (λi U H' _ h=>h.1 _ _ YG) ?_ ?_
 .rintro j v U H' hv ⟨sm,sj,pj,xj,qs,bs,y,z,ZU,aga,acH,XY,aci,hlen,XH,rfl⟩;obtain⟨pm,acj,rfl⟩:=eY hv;obtain⟨m,hm,Zm⟩:=hM.get' acj;have hj:=(ax.mp hm).1;have Zn:=IR aga;have w2:∀b∈xj.2.branches,b.hands.length<=2:=λb hb=>(wf.br sj b (by rw[Zn];exact hb)).hl;have ew:Br xj.2.branches m=wrongAt t sj m:=by rw[←Zn];rfl
  rw[i7 hm] at XH;left;refine⟨pj,pm,xj,m,rfl,mU.mono _ _ _ _ sm acH,w2,hX.mono _ _ _ _ sm Zm,λH1 s1=>?_⟩;rw[ew];have Xm:=sm.trans s1;left;by_cases h0:wrongAt t sj m=0
  .obtain⟨b,hf,_⟩:=pi h0;refine cX (λz=>absurd z (by simp[h0])) (λ_=>?_);obtain⟨adb,gl,hl,hmo,_⟩:=id (hX.mono _ _ _ _ Xm Zm);unfold z0 at hmo;left;obtain⟨Y1,pn,d,f,g,lb,bl,ZV,_,⟨ZT,YT,X5⟩,_⟩:=id acH;refine⟨pj,m.label,Y1,pn,d,f,g,lb,bl,ZT,xj.2.branches,rfl,Xm _ _ ZV,Xm _ _ YT,X5.same fJ.mono Xm,?_⟩;have aak:(xj.2.branches.find? λb=>b.label==m.label)=some b:=by rw[←Zn];exact hf
   rw[aak];intro ib pb aeI acG;obtain⟨b9,ach,Xs⟩:=X5.get' aeI;rw[acG] at ach;cases ach;have Y0:b∈t.branches sj:=(uJ hf).1;have w:=wf.br sj b Y0;have Zy:=s1 _ _ XY;left;refine' ik Zy ?_;refine yh Zy (by rw[af,aci.len,hlen,sizeLine_eq];lia) ?_;have XB:bn H (upd H1 pl (.lst (qs.map V.ref++[.ref pb]))):=λc o h=>by rw[ap (ca h Xj)];exact Xm _ _ h
   have Y8:upd H1 pl (.lst (qs.map V.ref++[.ref pb])) pl=some (.lst (qs.map V.ref++[.ref pb])):=bv;obtain⟨Yj,aeJ,adc,aeK,aeL,Ya,_⟩:=gT Xs;generalize upd H1 pl (.lst (qs.map V.ref++[.ref pb]))=H2 at XB Y8;have aaR:=XB _ _ Ya;have af9:=XB _ _ e1;have ace:=XB _ _ e2;obtain⟨x1,p1,XR,Xh,agV⟩:=get w.to_;left;refine' eg ace rfl (by rw[ak,Xh];rfl) ?_;refine⟨XB,b.to,p1,x1,qs++[pb],bs++[b],some (.ref pm),some (.ref pb),w.to_,XR,agV,by rw[Y8,aD];rfl,aci.snoc Xs,by simp[hlen],?_,rfl⟩;rw[XH,rp h0 hf];simp
  .refine cX (λ_=>?_) (λz=>absurd (by simp;intro h;apply h0;lia) z);rw[rq h0,aZ] at XH;left;rw[XH] at q;exact q pl H1 Xm ⟨qs,s1 _ _ XY,aci.same fJ.mono Xm⟩
 .rintro U H' ⟨sm,sj,pj,xj,qs,bs,y,z,ZU,aga,acH,XY,aci,hlen,XH,rfl⟩;rw[af,hM.len,bg] at XH;have XH:fh t sN ms=bs:=by rw[XH];exact aZ _
  left;rw[XH] at q;exact q pl H' sm ⟨qs,XY,aci.same fJ.mono sm⟩
end
section
open Vasesb (Val)
open Vasesq (Msg wrongAt allFit rangesSize rangeSize valsRank valRank MOST)
theorem sx:∀{vs:List Val} {rs:List VasesBase.Range},allFit vs rs=true->(∀r∈rs,fe r)->valsRank vs rs<rangesSize rs
 | [],[],_,_=>by decide
 | [],_::_,h,_=>by cases h
 | _::_,[],h,_=>by cases h
 | v::vs,r::rs,h,wf=>by
  change (Vasesb.fits v r&&allFit vs rs)=true at h;rw[aS] at h;have h1:=Lb h.1 (wf r (by simp));have h2:=sx h.2 λr hr=>wf r (by simp[hr]);show valRank v r*rangesSize rs+valsRank vs rs<rangeSize r*rangesSize rs;have h3:(valRank v r+1)*rangesSize rs<=rangeSize r*rangesSize rs:=Nat.mul_le_mul_right _ h1;rw[Nat.add_mul,Nat.one_mul] at h3
  lia
theorem EX(h:allFit vs rs=true):vs.length=rs.length:=by
 apply bG;intro z;rw[uU z] at h;cases h
theorem zB:∀{j:Nat} {vs:List Val} {rs:List VasesBase.Range},allFit vs rs=true->allFit (vs.take j) (rs.take j)=true
 | 0,_,_,_=>by simp[allFit]
 | j+1,[],[],_=>by simp[allFit]
 | j+1,[],_::_,h=>by cases h
 | j+1,_::_,[],h=>by cases h
 | j+1,v::vs,r::rs,h=>by
  change (Vasesb.fits v r&&allFit vs rs)=true at h;rw[aS] at h;show(Vasesb.fits v r&&allFit (vs.take j) (rs.take j))=true;rw[h.1,zB h.2];rfl
theorem EH:∀{j:Nat} {vs:List Val} {rs:List VasesBase.Range} {v:Val} {r:VasesBase.Range},allFit vs rs=true->vs[j]?=some v->rs[j]?=some r->Vasesb.fits v r=true
 | j,[],_,_,_,_,h,_=>by simp at h
 | j,_::_,[],_,_,_,_,h=>by simp at h
 | 0,v::vs,r::rs,_,_,h,h1,h2=>by
  change (Vasesb.fits v r&&allFit vs rs)=true at h;rw[aS] at h;simp at h1 h2;rw[←h1,←h2];exact h.1
 | j+1,v::vs,r::rs,_,_,h,h1,h2=>by
  change (Vasesb.fits v r&&allFit vs rs)=true at h;rw[aS] at h;exact EH h.2 (by simpa using h1) (by simpa using h2)
theorem zC(h:∀r∈rs,fe r)(hl:rs.length<=4):rangesSize rs<2^90000:=aX (ln h hl) (a5 (by decide) (by decide))
def VH(a:dj):Sp:=λvs H Q _=>∃p pm b m,vs=[.ref p,.ref pm]/\iW a H p b/\iH a H pm m/\b.ranges.length<=4/\(∀r∈b.ranges,fe r)/\allFit m.vals b.ranges=true/\∀H',bn H H'->Q (.int (valsRank m.vals b.ranges:Nat)) H'
theorem z6:fc P w base T.oH 4 (VH a):=by
 specialize T.oH.fn.okN ["branch","message","place","span","value"];obtain⟨p,pm,b,m,rfl,Xs,⟨adb,gl,hl,hm,⟨vs,aeG,hV⟩,_⟩,Zl,wf,Y7,q⟩:=h;refine⟨_,(ad (dz 2 nd (cr)) (ad (fv PassesOwn.never rfl (Gj rfl T.Mh (dg (da (pv 0)) (da (pv 1)))) (wj rfl (jd (gh 3 nd) (jd (gh 4 nd) sY))) (am (dz 2 nd (dF fw (dF kh (pv 2) (df T.kY (mP T) hr ci (dq (pv 3)))) (df T.sK (CI T) hr ci (dg (pv 3) (pv 4))))))) (am (bi (pv 2))))),?_⟩;obtain⟨Yj,aeJ,adc,aeK,aeL,Ya,_,⟨ps,Xe,hE⟩,_⟩:=gT Xs;unfold z0 at hm;have hlen:=EX Y7;left;refine Ot (xs:=ps.map V.ref) (ys:=vs.map V.ref) (λj U H'=>bn H H'/\∃y z,U=[some (.ref p),some (.ref pm),some (.int (valsRank (m.vals.take j) (b.ranges.take j):Nat)),y,z]) ⟨bn.refl _,none,none,rfl⟩ (by rw[af,af,hE.len,hV.len];lia) (λi U H' _ h=>⟨h.1 _ _ Xe,h.1 _ _ aeG⟩) ?_ ?_
 .rintro j v1 v2 tp U H' acf aaV ⟨sm,y,z,rfl⟩ Yw;obtain⟨p1,Xh,rfl⟩:=eY acf;obtain⟨p2,XQ,rfl⟩:=eY aaV;obtain⟨r,Yd,Xn⟩:=hE.get' Xh;obtain⟨x,XR,aeH⟩:=hV.get' XQ;have s1:bn H (upd H' tp (.tup [.ref p1,.ref p2])):=sm.trans (bn.upd Yw);have Ys:upd H' tp (.tup [.ref p1,.ref p2]) tp=some (.tup [.ref p1,.ref p2]):=bv;generalize upd H' tp (.tup [.ref p1,.ref p2])=H1 at s1 Ys;have wr:=wf r (aJ Yd);have ZM:=(ax.mp Yd).1;have lt1:=sx (zB (j:=j) Y7) λr hr=>wf r (bZ hr);have lt2:=zC (rs:=b.ranges.take j) (λr hr=>wf r (bZ hr)) (by rw[aL];lia);left;refine' tF Ys ?_;refine⟨p1,r,rfl,hJ a _ _ _ _ s1 Xn,?_⟩;refine' kO ⟨fz rfl (aX lt1 lt2),fz rfl (aX (mi wr) (a5 (by decide) (by decide)))⟩ ?_;refine'⟨p1,p2,r,x,rfl,hJ a _ _ _ _ s1 Xn,iN.mono _ _ _ _ s1 aeH,EH Y7 XR Yd,?_⟩;refine⟨s1,some (.ref p1),some (.ref p2),?_⟩;rw[eP XR,eP Yd,vj _ _ _ _ (by rw[aL,aL];lia)];simp
 .rintro U H' ⟨sm,y,z,rfl⟩;rw[af,hE.len,aQ,←hlen,aQ];left;exact q _ sm
def TZ(a:dj):Sp:=λvs H Q _=>∃rl c t p b,∃s n:Nat,vs=[.ref c,.int (s:Nat),.ref p,.int (n:Nat)]/\gN a rl H c t/\s<t.states.length/\iW a H p b/\n<=64/\∀H',Kp rl H H'->gN a rl H' c t->Q (.int (jA (gG t n) b.label (t.branches s):Nat)) H'
theorem ND:jA f lab (l++[b])=if Vasesd.before b.label lab=true then jA f lab l+f b else jA f lab l:=by
 unfold jA;rw[List.filter_append];by_cases h:Vasesd.before b.label lab=true
 .rw[ae h,List.filter_cons_of_pos (p:=λb:Vasesd.Branch=>Vasesd.before b.label lab) h,aD,List.sum_append];simp
 .rw[aa h,List.filter_cons_of_neg (p:=λb:Vasesd.Branch=>Vasesd.before b.label lab) h];simp
theorem oY:fc P w base T.kF 4 (TZ a):=by
 specialize T.kF.fn.okN ["counts","number","branch","left","before","other"];obtain⟨rl,c,t,p,b,sN,n,rfl,Xy,hs,Xs,hn,q⟩:=h;refine⟨_,(ad (dz 4 nd (cr)) (ad (fv PassesOwn.never rfl (eW (da (eF (da (da (pv 0))) (pv 1)))) (gh 5 nd) (am (de (jl Mw (da (da (pv 5))) (da (da (pv 2))) (gJ _)) (am (mf 4 nd (dh (pv 0) T.iU T.iC (jF T) hr ci (dg (pv 5) (pv 3))) ij)) cZ))) (am (bi (pv 4))))),?_⟩;obtain⟨dx,pp,abq,aaj,Xr,Zc⟩:=id Xy;obtain⟨wf,XG,pt,pw,Xi,Xk,fm,e1,⟨ps,e2,hE⟩,e3⟩:=id Xr;obtain⟨p1,Xh,Y1,pn,d,f,g,lb,bl,ZV,_,⟨ZT,YT,X5⟩,_⟩:=hE.get (aR hs);have Zn:=je hs;rw[←Zn] at X5;unfold kW at aaj;unfold pZ at e1;unfold iB at ZV;left;refine' eg e2 rfl (by rw[ak,Xh];rfl) ?_;refine lE (xs:=ZT.map V.ref) (λj U H'=>Kp rl H H'/\gN a rl H' c t/\∃y,U=[some (.ref c),some (.int (sN:Nat)),some (.ref p),some (.int (n:Nat)),some (.int (jA (gG t n) b.label ((t.branches sN).take j):Nat)),y]) ⟨pE Xy (bn.refl _),Xy,none,rfl⟩ (λi U H' _ h=>h.1.keeps.lstI _ _ YT (X5.ins ue)) ?_ ?_
 .rintro j v U H' hv ⟨kp,XN,y,rfl⟩;obtain⟨p2,XQ,rfl⟩:=eY hv;obtain⟨o,ho,abG⟩:=X5.get' XQ;have Ya:=fJ _ _ _ _ kp.keeps abG;have acB:=fJ _ _ _ _ kp.keeps Xs;obtain⟨Xq,agb,Yc,agc,aeM,o1,l1,_⟩:=gT Ya;obtain⟨XW,abp,ac7,aeN,aeO,o2,l2,_⟩:=gT acB;obtain⟨aeq,pl3,afP,o3⟩:=l1.obj;obtain⟨dx4,pl4,be4,o4⟩:=l2.obj;have w:=wf.br sN o (aJ ho);left;refine⟨_,_,rfl,rfl,?_⟩;rw[He];left;have es:jA (gG t n) b.label ((t.branches sN).take (j+1))=if Vasesd.before o.label b.label=true then jA (gG t n) b.label ((t.branches sN).take j)+gG t n o else jA (gG t n) b.label ((t.branches sN).take j):=by rw[eP ho,ND]
  cases hb:Vasesd.before o.label b.label with
  | true=>
   rw[hb,ae rfl] at es;refine eU ?_;obtain⟨Xw,aeP,aeQ,ZQ,_⟩:=id XN;unfold kW at ZQ;left;refine'⟨rl,c,t,p2,o,n,rfl,XN,Ya,w,hn,λH2 Yt XE=>?_⟩;refine⟨kp.trans Yt,XE,some (.ref p2),?_⟩;rw[es];simp
  | false=>
   rw[hb,aa aq] at es;refine' eQ ?_;refine⟨kp,XN,some (.ref p2),?_⟩;rw[es];rfl
 .rintro U H' ⟨kp,XN,y,rfl⟩;rw[af,X5.len,aQ];left;exact q H' kp XN
def VI(a:dj):Sp:=λvs H Q _=>∃rl c t,∃s:Nat,∃ml pl ms,vs=[.ref c,.int (s:Nat),.ref ml,.ref pl]/\gN a rl H c t/\s<t.states.length/\IsList (iH a) H ml ms/\IsList (iW a) H pl (fh t s ms)/\(fh t s ms).length=ms.length/\ms.length<=64/\∀H',Kp rl H H'->gN a rl H' c t->Q (.int (jB t s ms:Nat)) H'
theorem LG:fc P w base T.Dt 5 (VI a):=by
 specialize T.Dt.fn.okN ["counts","number","messages","path","rank","left","message","branch"];obtain⟨rl,c,t,sN,ml,pl,ms,rfl,Xy,hs,⟨Zx,YG,hM⟩,⟨qs,ZW,hB⟩,hgo,ack,q⟩:=h;refine⟨_,(ad (dz 4 nd (cr)) (ad (dz 5 nd (fS T.d5 (pv 2))) (ad (fv PassesOwn.never rfl (Gj rfl T.Mh (dg (pv 2) (pv 3))) (wj rfl (jd (gh 6 nd) (jd (gh 7 nd) sY))) (ad (mf 5 nd (cr) xZ) (ad (mf 4 nd (df T.kF (oY T) hr ci (db (pv 0) (db (pv 1) (dg (pv 7) (pv 5))))) ij) (ad (mf 4 nd (dF kh (df T.oH (z6 T) hr ci (dg (pv 7) (pv 6))) (dh (pv 0) T.iU T.fY (fO T) hr ci (dg (da (pv 7)) (pv 5)))) ij) (am (dz 1 nd (da (pv 7)))))))) (am (bi (pv 4)))))),?_⟩;have wf:qa t:=let ⟨_,_,_,_,z,_⟩:=Xy;z.1;left;rw[af,hM.len]
 refine Ot (xs:=Zx.map V.ref) (ys:=qs.map V.ref) (λj U H'=>Kp rl H H'/\gN a rl H' c t/\∃(sj rk:Nat)(y z:Option V),sj<t.states.length/\rk+jB t sj (ms.drop j)=jB t sN ms/\(∃bs,bs.length=j/\fh t sN ms=bs++fh t sj (ms.drop j))/\
   U=[some (.ref c),some (.int (sj:Nat)),some (.ref ml),some (.ref pl),some (.int (rk:Nat)),some (.int ((ms.length:Int)-(j:Nat))),y,z]) ⟨pE Xy (bn.refl _),Xy,sN,0,none,none,hs,by simp,⟨[],rfl,rfl⟩,by simp;rfl⟩ (by rw[af,af,hM.len,hB.len];lia)
  (λi U H' _ h=>⟨h.1.keeps.lstI _ _ YG (hM.ins Km),h.1.keeps.lstI _ _ ZW (hB.ins ue)⟩) ?_ ?_
 .rintro j v1 v2 tp U H' acf aaV ⟨kp,XN,sj,rk,y,z,ZU,aal,⟨bs,Xp,XH⟩,rfl⟩ Yw;obtain⟨pm,acj,rfl⟩:=eY acf;obtain⟨pb,aaO,rfl⟩:=eY aaV;obtain⟨m,hm,afo⟩:=hM.get' acj;obtain⟨b,hb,abH⟩:=hB.get' aaO;have hj:=(ax.mp hm).1;have hd:=i7 hm;rw[hd] at XH aal;have h0:wrongAt t sj m=0:=by
   apply bG;intro z;rw[rq z,aZ] at XH;rw[XH] at hgo
   lia
  obtain⟨b',hf,Y7,_⟩:=pi h0;rw[rp h0 hf] at XH;have adH:b'=b:=by
   rw[XH,cj (by lia),Xp] at hb;simpa using hb
  subst adH;obtain⟨Y0,ai3⟩:=uJ hf;have w:=wf.br sj b' Y0;have s1:bn H' (upd H' tp (.tup [.ref pm,.ref pb])):=bn.upd Yw;have Ys:upd H' tp (.tup [.ref pm,.ref pb]) tp=some (.tup [.ref pm,.ref pb]):=bv;have YD:=kp.thenS s1;have ZB:=lX XN s1;generalize upd H' tp (.tup [.ref pm,.ref pb])=H1 at s1 Ys YD ZB;have ade:jB t sj (m::ms.drop (j+1))=jA (gG t (ms.length-(j+1))) b'.label (t.branches sj)+valsRank m.vals b'.ranges*eD t (ms.length-(j+1)) b'.to+jB t b'.to (ms.drop (j+1)):=by
   show(match mj t sj m.label with|none=>0|some b=>_)=_;rw[hf];dsimp only;rw[aT]
  rw[ade] at aal;have aav:(ms.length:Int)-(j:Nat)-1=((ms.length-(j+1):Nat):Int):=by lia
  generalize hlf:ms.length-(j+1)=left at ade aal aav;have Z2:left<=64:=by lia
  left;refine' tF Ys ?_;rw[aav];refine⟨rl,c,t,pb,b',sj,left,rfl,ZB,ZU,fJ _ _ _ _ YD.keeps abH,Z2,λH2 Yt XE=>?_⟩;have acI:=YD.trans Yt;left;refine⟨pb,pm,b',m,rfl,fJ _ _ _ _ acI.keeps abH,hX _ _ _ _ acI.keeps afo,w.len,w.wf,Y7,λH3 s3=>?_⟩;have YH:=acI.thenS s3;have abI:=lX XE s3;obtain⟨Xw,aeP,aeQ,ZQ,_⟩:=id abI;unfold kW at ZQ;obtain⟨Xq,agb,Yc,agc,aeM,o1,_⟩:=gT (fJ _ _ _ _ YH.keeps abH);left;refine⟨rl,c,t,b'.to,left,rfl,abI,w.to_,Z2,λH4 aeR ZC=>?_⟩;have aeS:=YH.trans aeR;refine kO ⟨fz rfl (aX (sx Y7 w.wf) (zC w.wf w.len)),fz rfl Kr⟩ ?_;obtain⟨XW,abp,ac7,aeN,aeO,o2,_⟩:=gT (fJ _ _ _ _ aeS.keeps abH);left;refine⟨aeS,ZC,b'.to,rk+jA (gG t left) b'.label (t.branches sj)+valsRank m.vals b'.ranges*eD t left b'.to,some (.ref pm),some (.ref pb),w.to_,by lia,⟨bs++[b'],by simp[Xp],by rw[XH];simp⟩,?_⟩;have e9:(ms.length:Int)-((j+1:Nat):Int)=(left:Nat):=by lia
  rw[e9];simp
 .rintro U H' ⟨kp,XN,sj,rk,y,z,ZU,aal,_,rfl⟩;rw[af,hM.len,bg] at aal;have:rk=jB t sN ms:=by rw[←aal];rfl
  subst this;left;exact q H' kp XN
end
section
open Vasesq (textsBelow rangeSize rangesSize valRank valsRank valAt valsAt numberBytes bytesNumber textLength MOST)
def T0:Sp:=λvs H Q _=>∃r k:Nat,vs=[.int (r:Nat)]/\k<=255/\r<textsBelow (k+1)/\∀q H',bn H H'->(numberBytes (textLength k 0 r) (r-textsBelow (textLength k 0 r))).length<=k->H' q=some (.tup (dc (numberBytes (textLength k 0 r) (r-textsBelow (textLength k 0 r)))))->Q (.ref q) H'
theorem LH:fc P w base T.C6 2 T0:=by
 specialize T.C6.fn.okN ["place","length","as_long"];obtain⟨r,k,rfl,hk,Xd,q⟩:=h;refine'⟨_,(ad (dz 1 nd (cr)) (ad (dz 2 nd (cr)) (ad (gI PassesOwn.never (yP (pv 0) (pv 2)) (ad (mf 0 nd (pv 2) xZ) (ad (mf 2 nd (cr) uE) (am (mf 1 nd (cr) ij))))) (am (bi (j8 rT (by rfl) T.DM boot_tuple (dq (df T.lC (qe T) hr ci (dg (pv 0) (pv 1)))))))))),?_⟩;refine iQ (λm U H'=>H'=H/\∃n:Nat,m=k-n/\n<=k/\textsBelow n<=r/\U=[some (.int (r-textsBelow n:Nat)),some (.int (n:Nat)),some (.int (256^n:Nat))])
  (λU H'=>H'=H/\∃(n:Nat)(x:V),n<=k/\textsBelow n<=r/\r<textsBelow (n+1)/\U=[some (.int (r-textsBelow n:Nat)),some (.int (n:Nat)),some x]) k ⟨rfl,0,rfl,aI _,aI r,by rfl⟩ ?_ ?_
 .rintro U H' ⟨rfl,n,x,hn,h1,h2,rfl⟩;left;refine⟨_,n,rfl,by lia,λl H2 hl s2 adG=>?_⟩;refine Cr adG λtl Xv=>?_;have e:=vk h1 h2 k 0 (by lia) (by lia);refine q tl _ (s2.trans (bn.upd Xv)) ?_ ?_
  .rw[e,jX];exact hn
  .rw[e,bv]
 .rintro hp m U H' ⟨rfl,n,rfl,hn,h1,rfl⟩;have h3:=lF n;left;refine cX (λXg=>?_) (λZu=>?_)
  .have Xg:256^n<=r-textsBelow n:=bx.mp (ai Xg);have Zg:n<k:=by
    apply bI;intro z;have:textsBelow (k+1)<=textsBelow (n+1):=mh (by lia)
    lia
   refine'⟨_,λ_ _ z=>z,?_⟩;refine' kO ⟨fz rfl (xb (by lia)),fz (n:=256) rfl (jf (by decide))⟩ ?_;refine⟨k-(n+1),by lia,rfl,n+1,rfl,Zg,by lia,?_⟩;have e1:((r-textsBelow (n+1):Nat):Int)=((r-textsBelow n:Nat):Int)-((256^n:Nat):Int):=by lia
   rw[e1,bp];rfl
  .have Zu:r-textsBelow n<256^n:=bI λz=>Zu (ao (bx.mpr z));exact hp _ _ ⟨rfl,n,_,hn,h1,by lia,rfl⟩
def VJ(a:dj):Sp:=λvs H Q _=>∃p r,∃n:Nat,vs=[.ref p,.int (n:Nat)]/\fE a H p r/\n<rangeSize r/\∀x H',bn H H'->ja a H' x (valAt r n)->Q (.ref x) H'
theorem IS:fc P w base T.Aj 3 (VJ a):=by
 specialize T.Aj.fn.okN ["span","place"];obtain⟨p,r,n,rfl,⟨wf,dx,hp⟩,hn,q⟩:=h;refine⟨_,(ad (de (fM (da (pv 0)) (iz T.sO)) (am (bi (fQ T.al T.jG (jN T) hr ci (dg (iz T.sO) (df T.C6 (LH T) hr ci (dq (pv 1))))))) cZ) (am (bi (fQ T.al T.jG (jN T) hr ci (dg (da (pv 0)) (dF fw (da (pv 0)) (pv 1))))))),?_⟩;cases r with
 | flag=>
  have hn:n<2:=hn;unfold gP at hp;left;refine' cX (λh1=>absurd h1 (by rfl')) (λ_=>?_);refine gk rfl λx XW H2 hx s2 h2=>?_;refine q x H2 s2 ⟨trivial,XW,.int (0+(n:Nat)),h2,?_⟩;show V.int (0+(n:Nat))=.int (if(n==1)=true then 1 else 0)
  match n,hn with
  | 0,_=>rfl
  | 1,_=>rfl
 | num lo hi=>
  obtain⟨h1,h2,h3⟩:=wf;have hn:n<(hi-lo+1).toNat:=hn;unfold gP at hp;left;refine' cX (λh1=>absurd h1 (by rfl')) (λ_=>?_);refine gk rfl λx XW H2 hx s2 h2=>?_;exact q x H2 s2 ⟨⟨by lia,by lia⟩,XW,.int (lo+(n:Nat)),h2,rfl⟩
 | text k=>
  have hk:k<=255:=wf;unfold gP at hp;left;refine' cX (λ_=>?_) (λh1=>absurd (by rfl') h1);refine'⟨n,k,rfl,hk,hn,λqq H1 s1 hlen ht=>?_⟩;refine gk rfl λx XW H2 hx s2 h2=>?_;exact q x H2 (s1.trans s2) ⟨aA hlen hk,XW,.ref qq,h2,qq,rfl,s2 _ _ ht⟩
end
section
open Vasesb (Val)
open Vasesq (Msg rangesSize rangeSize valsAt valAt MOST rows courseIn courseAt)
def VL(a:dj):Sp:=λvs H Q _=>∃p b,∃n:Nat,vs=[.ref p,.int (n:Nat)]/\iW a H p b/\b.ranges.length<=4/\(∀r∈b.ranges,fe r)/\b.hands.length<=2/\n<rangesSize b.ranges/\∀x H' dx g h,bn H H'->H g=none->H h=none->H' x=some (.ins a.lZ dx (z0 b.label g h))->IsList (ja a) H' g (valsAt b.ranges n)->H' h=some (.lst (ku b.hands))->Q (.ref x) H'
theorem uV:∀(rs:List VasesBase.Range)(n:Nat),(valsAt rs n).length=rs.length
 | [],_=>rfl
 | r::rs,n=>by
  show(valAt r _::valsAt rs _).length=_;rw[az,uV rs];rfl
theorem xo(hz:H z=some (.lst xs))(h:ja a H x v):ja a (upd H z o) x v:=by
 obtain⟨wf,dx,c,e,hc⟩:=h;refine⟨wf,dx,c,by rw[ap (λq=>by rw[q,hz] at e;cases e)];exact e,?_⟩;cases v with
 | text b=>obtain⟨q,e1,e2⟩:=hc;exact⟨q,e1,by rw[ap (λw=>by rw[w,hz] at e2;cases e2)];exact e2⟩
 | flag b=>exact hc
 | num n=>exact hc
theorem dX.rev{α:Type}{P:Hp->cS->α->Prop}{G:Hp}{ps:List cS}{xs:List α}(e:dX P G ps xs):dX P G ps.reverse xs.reverse:=by
 unfold dX at e
 induction e with
 | nil=>exact .nil
 | cons a _ ih=>rw[ck,ck];exact dX.snoc ih a
theorem O0{rs:List VasesBase.Range}(wf:∀r∈rs,fe r)(j:Nat):0<rangesSize (rs.take j):=kj _ λr hr=>wf r (bZ hr)
theorem EY:fc P w base T.u1 4 (VL a):=by
 specialize T.u1.fn.okN ["branch","place","backwards","span","many","given","seat"];obtain⟨p,b,n,rfl,Xs,Zl,wf,Yr,hn,q⟩:=h;refine⟨_,(ad (dz 2 nd (dw eA)) (ad (fv PassesOwn.never rfl (IB rfl T.u4 (dq (da (pv 0)))) (gh 3 nd) (ad (dz 4 nd (df T.kY (mP T) hr ci (dq (pv 3)))) (ad (dB (ve (pv 2) (df T.Aj (IS T) hr ci (dg (pv 3) (dF AB (pv 1) (pv 4)))))) (am (dz 1 nd (dF uF (pv 1) (pv 4))))))) (ad (dz 5 nd (AV rfl rfl rfl T.NZ T.u4 (pv 2))) (am (bi (fQ T.Dc T.mB (rm T) hr ci (db (da (da (pv 0))) (dg (pv 5) (wC [("seat",6)] nd (eW (da (pv 0))) (λ_ _ _ _ _=>(gh 6 nd)) (λ_ _ _ _ _=>by exact(yq (K:=K) rfl (pv 6) rfl))))))))))),?_⟩;obtain⟨Yj,aeJ,adc,aeK,aeL,Ya,YQ,⟨ps,Xe,hE⟩,⟨hs,aca,Ze⟩⟩:=gT Xs;have hlen:=hE.len;left;refine⟨by(show 0<=sizeLine;decide),λbl Xp=>?_⟩;have acC:upd H bl (.lst []) p=some (.ins a.eM Yj [("label",.ref aeJ),("spans",.ref adc),("handed",.ref aeK),("target",.ref aeL),("many",.int (rangesSize b.ranges:Nat)),("goal",.int (b.to:Nat))]):=bn.upd Xp _ _ Ya;have YS:upd H bl (.lst []) adc=some (.lst (ps.map V.ref)):=bn.upd Xp _ _ Xe;left
 refine UK (xs:=ps.map V.ref) (λj U H'=>bn H H'/\∃(nj:Nat)(qs:List cS)(vs:List Val)(y z:Option V),nj<rangesSize (b.ranges.take (b.ranges.length-j))/\H' bl=some (.lst (qs.map V.ref))/\dX (ja a) H' qs vs/\vs.length=j/\valsAt b.ranges n=valsAt (b.ranges.take (b.ranges.length-j)) nj++vs.reverse/\
   U=[some (.ref p),some (.int (nj:Nat)),some (.ref bl),y,z,none,none]) ⟨bn.upd Xp,n,[],[],none,none,by rw[Nat.sub_zero,aQ];exact hn,bv,.nil,rfl,by rw[Nat.sub_zero,aQ];simp,rfl⟩ (λi U H' _ h=>h.1 _ _ Xe) ?_ ?_
 .rintro j v U H' hj hv ⟨sm,nj,qs,vs,y,z,abu,XY,adf,aeT,Xx,rfl⟩;rw[af,hlen] at hj hv;obtain⟨p1,Xh,rfl⟩:=eY hv;obtain⟨r,Yd,Xn⟩:=hE.get' Xh;have wr:=wf r (aJ Yd);have ek:b.ranges.length-j=(b.ranges.length-(j+1))+1:=by lia
  have Zw:b.ranges[b.ranges.length-(j+1)]?=some r:=by rw[show b.ranges.length-(j+1)=b.ranges.length-1-j by lia];exact Yd
  rw[ek,eP Zw] at abu Xx;have adg:=ou wr;have acD:=O0 wf (b.ranges.length-(j+1));rw[yT _ _ _ acD adg abu] at Xx;rw[il] at abu;have hdiv:nj / rangeSize r<rangesSize (b.ranges.take (b.ranges.length-(j+1))):=(Nat.div_lt_iff_lt_mul adg).mpr abu;have aaW:=Nat.mod_lt nj adg;have big:(rangeSize r:Int).natAbs<2^9000:=aX (mi wr) (a5 (by decide) (by decide));have pos:(0:Int)<(rangeSize r:Nat):=aY.mpr adg;have em:((nj:Nat):Int)%(rangeSize r:Nat)=((nj%rangeSize r:Nat):Int):=by simp
  have ed:((nj:Nat):Int) / (rangeSize r:Nat)=((nj / rangeSize r:Nat):Int):=by simp
  clear abu acD;left;refine'⟨p1,r,rfl,hJ a _ _ _ _ sm Xn,?_⟩;refine' ik XY ?_;refine kO pos ?_;rw[em];left;refine'⟨p1,r,nj%rangeSize r,rfl,hJ a _ _ _ _ sm Xn,aaW,λx H2 s2 aaV=>?_⟩;refine' yh (s2 _ _ XY) (by rw[af,adf.len,aeT,sizeLine_eq];lia) ?_;refine kO ⟨pos,big⟩ ?_;rw[ed];left;refine⟨λc' o h=>by rw[ap (ca h Xp)];exact s2 _ _ (sm _ _ h),nj / rangeSize r,qs++[x],vs++[valAt r (nj%rangeSize r)],some (.ref p1),some (.int (rangeSize r:Nat)),hdiv,by rw[bv,aD];rfl,?_,by simp[aeT],?_,rfl⟩
  .refine dX.snoc ((adf.same iN.mono s2).imp λp v h=>xo (s2 _ _ XY) h) (xo (s2 _ _ XY) aaV)
  .rw[Xx,List.reverse_append];simp
 .rintro U H' ⟨sm,nj,qs,vs,y,z,abu,XY,adf,aeT,Xx,rfl⟩;rw[af,hlen,Nat.sub_self] at Xx;have Xx:valsAt b.ranges n=vs.reverse:=by rw[Xx];rfl
  left;intro gl abt;have s1:bn H' (upd H' gl (.lst (qs.map V.ref).reverse)):=bn.upd abt;have agd:upd H' gl (.lst (qs.map V.ref).reverse) gl=some (.lst (qs.map V.ref).reverse):=bv;generalize upd H' gl (.lst (qs.map V.ref).reverse)=H1 at s1 agd;have Xm:=sm.trans s1;have aaR:=Xm _ _ Ya;have agW:=Xm _ _ aca;obtain⟨dxl,pll,bel,hol⟩:=(p9.mono _ _ _ _ Xm YQ).obj;left;intro D hD;refine yO (ku b.hands) (by unfold ku;rw[af,af,af,Ze.len]) agW hD (by rw[af,Ze.len,sizeLine_eq];lia) (λi v y H2 R hv hy XB k=>?_) gK ?_
  .obtain⟨p1,Xh,rfl⟩:=eY hv;obtain⟨nm,Yd,aaT⟩:=Ze.get' Xh;unfold ku at hy;rw[ak,ak,Yd] at hy;cases hy;obtain⟨aag,pln,aah,abl⟩:=(p9.mono _ _ _ _ (Xm.trans XB) aaT).obj;left;refine'⟨rfl,?_⟩;exact k _ (bn.refl _)
  .intro H2 s2 YZ;left;refine gk rfl λx Xw H3 nx s3 hx=>?_;have ZX:=s2.trans s3;refine q x H3 Xw gl D (Xm.trans ZX) (sm.free abt) (Xm.free hD) hx ⟨qs.reverse,?_,?_⟩ (s3 _ _ YZ)
   .rw[ZX _ _ agd,List.map_reverse]
   .rw[Xx];exact(adf.same iN.mono (s1.trans ZX)).rev
def VM(a:dj):Sp:=λvs H Q _=>∃rl c t b,∃s n r k:Nat,vs=[.ref c,.int (s:Nat),.int (n:Nat),.int (r:Nat)]/\gN a rl H c t/\s<t.states.length/\n<=64/\wG (gG t n) (Vasesd.sorted (t.branches s)) r=some (b,k)/\∀p H',Kp rl H H'->gN a rl H' c t->iW a H' p b->Q (.ref p) H'
theorem Hh:fc P w base T.xG 4 (VM a):=by
 specialize T.xG.fn.okN ["counts","number","left","rank","branch","share"];obtain⟨rl,c,t,b,sN,n,r,k,rfl,Xy,hs,hn,acl,q⟩:=h;refine⟨_,(ad (fv PassesOwn.never rfl (eW (da (eF (da (da (pv 0))) (pv 1)))) (gh 4 nd) (ad (dz 5 nd (dh (pv 0) T.iU T.iC (jF T) hr ci (dg (pv 4) (pv 2)))) (ad (de (jW (pv 3) (pv 5)) (am (bi (pv 4))) cZ) (am (mf 3 nd (pv 5) xZ))))) (am (bi (wc)))),?_⟩;obtain⟨dx,pp,abq,aaj,Xr,Zc⟩:=id Xy;obtain⟨wf,XG,pt,pw,Xi,Xk,fm,e1,⟨ps,e2,hE⟩,e3⟩:=id Xr;obtain⟨p1,Xh,Y1,pn,d,f,g,lb,bl,ZV,_,_,⟨ZT,YT,X5⟩⟩:=hE.get (aR hs);have Zn:=je hs;rw[←Zn] at X5;unfold kW at aaj;unfold pZ at e1;unfold iB at ZV;left;refine' eg e2 rfl (by rw[ak,Xh];rfl) ?_;refine lE (xs:=ZT.map V.ref) (λj U H'=>Kp rl H H'/\gN a rl H' c t/\∃(rj:Nat)(y z:Option V),wG (gG t n) ((Vasesd.sorted (t.branches sN)).drop j) rj=some (b,k)/\U=[some (.ref c),some (.int (sN:Nat)),some (.int (n:Nat)),some (.int (rj:Nat)),y,z]) ⟨pE Xy (bn.refl _),Xy,r,none,none,acl,rfl⟩ (λi U H' _ h=>h.1.keeps.lstI _ _ YT (X5.ins ue)) ?_ ?_
 .rintro j v U H' hv ⟨kp,XN,rj,y,z,ho,rfl⟩;obtain⟨p2,XQ,rfl⟩:=eY hv;obtain⟨o,age,abG⟩:=X5.get' XQ;have Ya:=fJ _ _ _ _ kp.keeps abG;have w:=wf.br sN o ((gY _).mem_iff.mp (aJ age));obtain⟨Xw,aeP,aeQ,ZQ,_⟩:=id XN;unfold kW at ZQ;left;refine⟨rl,c,t,p2,o,n,rfl,XN,Ya,w,hn,λH2 Yt XE=>?_⟩;rw[i7 age] at ho;change (if rj<gG t n o then some (o,rj) else wG (gG t n) ((Vasesd.sorted (t.branches sN)).drop (j+1)) (rj-gG t n o))=some (b,k) at ho;left;by_cases Xg:rj<gG t n o
  .rw[ae Xg] at ho;cases ho;refine' cX (λ_=>?_) (λz=>absurd (ao (aY.mpr Xg)) z);exact q p2 H2 (kp.trans Yt) XE (fJ _ _ _ _ (kp.trans Yt).keeps abG)
  .rw[aa Xg] at ho;refine' cX (λz=>absurd (aY.mp (ai z)) Xg) (λ_=>?_);refine⟨kp.trans Yt,XE,rj-gG t n o,some (.ref p2),some (.int (gG t n o:Nat)),ho,?_⟩;have e:((rj-gG t n o:Nat):Int)=(rj:Int)-(gG t n o:Nat):=by lia
   rw[e];rfl
 .rintro U H' ⟨kp,XN,rj,y,z,ho,rfl⟩;rw[af,X5.len,bg] at ho;cases ho
def oC(a:dj)(z:cS)(G:Hp)(p:cS)(m:Msg):Prop:=∃dx g h,g≠z/\h≠z/\G p=some (.ins a.lZ dx (z0 m.label g h))/\IsList (ja a) G g m.vals/\G h=some (.lst (ku m.hands))/\m.vals.length<=4/\m.hands.length<=2
theorem oC.keep(h:jE G G'):oC a z G p m->oC a z G' p m:=λ⟨dx,g,hh,n1,n2,e,z1,z2,z3,z4⟩=>⟨dx,g,hh,n1,n2,h.ins _ _ _ _ e (by show 3≠5/\2<=3;decide),z1.keep iN Kl h,Bo h z2,z3,z4⟩
theorem oC.upd(hz:G z=some (.lst xs)):oC a z G p m->oC a z (L2.upd G z o) p m:=λ⟨dx,g,hh,n1,n2,e,⟨ps,z1,z1'⟩,z2,z3,z4⟩=>
 ⟨dx,g,hh,n1,n2,by rw[ap (λq=>by rw[q,hz] at e;cases e)];exact e,⟨ps,by rw[ap n1];exact z1,z1'.imp λp v h=>xo hz h⟩,by rw[ap n2];exact z2,z3,z4⟩
theorem oC.msg:oC a z G p m->iH a G p m:=λ⟨dx,g,hh,n1,n2,e,z1,z2,z3,z4⟩=>⟨dx,g,hh,e,z1,z2,z3,z4⟩
theorem O1{rl c ml:cS}{H H4:Hp}{t:cW}{qs:List cS}{o:HO}(Xy:gN a rl H c t)(kp:Kp rl H (L2.upd H4 ml o))(ZC:gN a rl H4 c t)(Zl:H4 ml=some (.lst (qs.map V.ref)))(Yp:0<t.states.length)(adh:ml≠rl):gN a rl (L2.upd H4 ml o) c t:=by
 obtain⟨dx,pp,abq,hc,hp,_⟩:=Xy;obtain⟨_,_,rs,_,_,hr⟩:=ZC;obtain⟨r0,rest,ys,q1,q2⟩:=kp.rows;refine⟨dx,pp,rs,kp.but _ _ hc (λz=>by rw[z,q1] at hc;cases hc),hp.kp kp,⟨by rw[ap (Ne.symm adh)];exact hr.lst,hr.ne,hr.len,λi r hi=>?_⟩⟩;have e:=hr.row i r hi;rw[ap (λz=>?_)]
 .exact e
 .rw[z,Zl] at e;have hl:=pP t i;cases Z3:iV t i with
  | nil=>rw[Z3] at hl;simp at hl;lia
  | cons n ns=>
   rw[Z3] at e;cases qs with
   | nil=>cases e
   | cons q0 qs=>injection e with e;injection e with e;injection e with e;cases e
def VN(a:dj):Sp:=λvs H Q _=>∃rl c t,∃s n r:Nat,vs=[.ref c,.int (s:Nat),.int (n:Nat),.int (r:Nat)]/\gN a rl H c t/\s<t.states.length/\n<=64/\r<eD t n s/\∀l H',Kp rl H H'->gN a rl H' c t->IsList (iH a) H' l (courseAt t n s r)->Q (.ref l) H'
theorem NE:MOST<2^9000:=by
 have h1:(10:Nat)^1000<=16^1000:=Nat.pow_le_pow_left (by decide) _;have h2:(16:Nat)^1000=2^4000:=by rw[show(16:Nat)=2^4 from rfl,←Nat.pow_mul]
 rw[h2] at h1;exact aN h1 (a5 (by decide) (by decide))
theorem O2(hN:n<=N)(h:Vasesq.branchOf (rows t N) n (Vasesq.branchesAt t s) r=some (b,k)):wG (gG t n) (Vasesd.sorted (t.branches s)) r=some (b,k):=by
 rw[rW,GB hN] at h;exact h
theorem Hi:fc P w base T.xJ 5 (VN a):=by
 specialize T.xJ.fn.okN ["counts","number","length","rank","messages","left","branch","behind"];obtain⟨rl,c,t,sN,n,r,rfl,Xy,hs,hn,Xd,q⟩:=h;refine⟨_,(ad (dz 4 nd (dw eA)) (ad (fv PassesOwn.never rfl (MM rfl T.uo (db (dF i0 (pv 2) (cr)) (dg (qL nI (cr)) (qL nI (cr))))) (gh 5 nd) (ad (dz 6 nd (df T.xG (Hh T) hr ci (db (pv 0) (db (pv 1) (dg (pv 5) (pv 3)))))) (ad (mf 3 nd (df T.kF (oY T) hr ci (db (pv 0) (db (pv 1) (dg (pv 6) (pv 5))))) xZ) (ad (dz 7 nd (dh (pv 0) T.iU T.fY (fO T) hr ci (dg (da (pv 6)) (pv 5)))) (ad (dB (ve (pv 4) (df T.u1 (EY T) hr ci (dg (pv 6) (dF uF (pv 3) (pv 7)))))) (ad (dz 3 nd (dF AB (pv 3) (pv 7))) (am (dz 1 nd (da (pv 6)))))))))) (am (bi (pv 4))))),?_⟩;have wf:qa t:=let ⟨_,_,_,_,z,_⟩:=Xy;z.1;left;refine⟨by(show 0<=sizeLine;decide),λml Y3=>?_⟩;have adh:ml≠rl:=λz=>by
  obtain⟨r0,rest,ys,e1,_⟩:=Xy.has;rw[z,e1] at Y3;cases Y3
 left;refine⟨(n:Int)-1,-1,-1,n,rfl,?_,?_⟩
 .have:=ML.neg (i:=(n:Int)-1) (j:=-1) (by lia) (by lia) (by lia) (by lia);rw[show((n:Int)-1- -1).toNat=n by lia] at this;exact this
 .refine UJ (lo:=(n:Int)-1) (c:=-1) (n:=n) (λj U H'=>Kp rl H H'/\gN a rl H' c t/\∃(sj rj:Nat)(qs:List cS)(ms:List Msg)(x y z:Option V),sj<t.states.length/\rj<eD t (n-j) sj/\H' ml=some (.lst (qs.map V.ref))/\dX (oC a ml) H' qs ms/\ms.length=j/\courseAt t n sN r=ms++courseIn t (rows t n) (n-j) sj rj/\
    U=[some (.ref c),some (.int (sj:Nat)),some (.int (n:Nat)),some (.int (rj:Nat)),some (.ref ml),x,y,z]) ⟨pE Xy (bn.upd Y3),lX Xy (bn.upd Y3),sN,r,[],[],none,none,none,hs,Xd,bv,.nil,rfl,rfl,rfl⟩ ?_ ?_
  .rintro j U H' hj ⟨kp,XN,sj,rj,qs,ms,x,y,z,ZU,aeU,XY,hE,hlen,aaX,rfl⟩;have ek:n-j=(n-(j+1))+1:=by lia
   rw[ek] at aeU aaX;have aav:(n:Int)-1+(j:Nat)*-1=((n-(j+1):Nat):Int):=by lia
   obtain⟨b,k,h1,Y0,hk,aal,aam⟩:=yS wf.lab (N:=n) (n:=n-(j+1)) (by lia) ZU aeU;have acl:=O2 (by lia) h1;generalize hlf:n-(j+1)=left at *;have Z2:left<=64:=by lia
   obtain⟨Yp,hdiv,aaW⟩:=En hk;have w:=wf.br sj b Y0;rw[aav];left;refine'⟨rl,c,t,b,sj,left,rj,k,rfl,XN,ZU,Z2,acl,λpb H1 YD ZB aaQ=>?_⟩;refine⟨rl,c,t,pb,b,sj,left,rfl,ZB,ZU,aaQ,Z2,λH2 Yt XE=>?_⟩;have ek2:((rj:Nat):Int)-(jA (gG t left) b.label (t.branches sj):Nat)=(k:Nat):=by lia
   have abB:=fJ _ _ _ _ Yt.keeps aaQ;obtain⟨Xw,aeP,aeQ,ZQ,_⟩:=id XE;unfold kW at ZQ;obtain⟨Xq,agb,Yc,agc,aeM,o1,_⟩:=gT abB;left;rw[ek2];left;refine⟨rl,c,t,b.to,left,rfl,XE,w.to_,Z2,λH3 YH abI=>?_⟩;have aeV:=YD.trans (Yt.trans YH);have Y2:=aeV.but _ _ XY adh;have aeW:=fJ _ _ _ _ YH.keeps abB;have pos:(0:Int)<(eD t left b.to:Nat):=aY.mpr Yp;have big:((eD t left b.to:Nat):Int).natAbs<2^9000:=aN (GA t left b.to) NE;have em:((k:Nat):Int)%(eD t left b.to:Nat)=((k%eD t left b.to:Nat):Int):=by simp
   have ed:((k:Nat):Int) / (eD t left b.to:Nat)=((k / eD t left b.to:Nat):Int):=by simp
   left;refine' ik Y2 ?_;refine kO ⟨pos,big⟩ ?_;rw[ed];left;refine⟨pb,b,k / eD t left b.to,rfl,aeW,w.len,w.wf,w.hl,hdiv,λxm H4 adb g h s4 ng nh hxm abt aaf=>?_⟩;have Zl:=s4 _ _ Y2;left;refine yh Zl (by rw[af,hE.len,hlen,sizeLine_eq];lia) ?_;have hz:oC a ml H4 xm ⟨b.label,valsAt b.ranges (k / eD t left b.to),b.hands⟩:=⟨adb,g,h,(λe=>by rw[e,Y2] at ng;cases ng),(λe=>by rw[e,Y2] at nh;cases nh),hxm,abt,aaf,by rw[uV];exact w.len,w.hl⟩;have aeX:Kp rl H' H4:=aeV.thenS s4;have hE4:dX (oC a ml) H4 qs ms:=hE.imp λp m h=>h.keep aeX.keeps;have ZC:=lX abI s4;have agX:=fJ.mono _ _ _ _ s4 aeW;obtain⟨XW,abp,ac7,aeN,aeO,o2,_⟩:=gT agX;have abr:Kp rl H (L2.upd H4 ml (.lst (qs.map V.ref++[.ref xm]))):=⟨kp.rows,λc' o e n'=>by rw[ap (ca e Y3)];exact aeX.but _ _ (kp.but _ _ e n') n'⟩;have o25:L2.upd H4 ml (.lst (qs.map V.ref++[.ref xm])) pb=some (.ins a.eM XW [("label",.ref abp),("spans",.ref ac7),("handed",.ref aeN),("target",.ref aeO),("many",.int (rangesSize b.ranges:Nat)),("goal",.int (b.to:Nat))]):=by rw[ap (λz=>by rw[z,Zl] at o2;cases o2)];exact o2
   have aaU:L2.upd H4 ml (.lst (qs.map V.ref++[.ref xm])) ml=some (.lst ((qs++[xm]).map V.ref)):=by rw[bv,aD];rfl
   have agf:dX (oC a ml) (L2.upd H4 ml (.lst (qs.map V.ref++[.ref xm]))) (qs++[xm]) (ms++[⟨b.label,valsAt b.ranges (k / eD t left b.to),b.hands⟩]):=dX.snoc (hE4.imp λp m h=>h.upd Zl) (hz.upd Zl);have aeY:gN a rl (L2.upd H4 ml (.lst (qs.map V.ref++[.ref xm]))) c t:=O1 Xy abr ZC Zl (by lia) adh;generalize L2.upd H4 ml (.lst (qs.map V.ref++[.ref xm]))=H5 at abr o25 aaU agf aeY;left;refine kO pos ?_;rw[em];left;refine⟨abr,aeY,b.to,k%eD t left b.to,qs++[xm],ms++[⟨b.label,valsAt b.ranges (k / eD t left b.to),b.hands⟩],some (.int (left:Nat)),some (.ref pb),some (.int (eD t left b.to:Nat)),w.to_,aaW,aaU,agf,by simp[hlen],?_,rfl⟩;rw[aaX,aam];simp
  .rintro U H' ⟨kp,XN,sj,rj,qs,ms,x,y,z,ZU,aeU,XY,hE,hlen,aaX,rfl⟩;rw[Nat.sub_self] at aaX;have aaX:courseAt t n sN r=ms:=by rw[aaX];exact aZ _
   left;refine q ml H' kp XN ⟨qs,XY,?_⟩;rw[aaX];exact hE.imp λp m h=>h.msg
end
section
open VasesBase (joined showRange showInt showNat Range)
open Vasesb (Val showVal showText showByte)
open Vasesq (Msg showMsg showCourse rangeSize rangesSize valAt valsAt textLength textsBelow numberBytes MOST rows courseIn courseAt)
noncomputable def NF:Range->Nat
 | .text k=>k
 | _=>0
noncomputable def z7:List Range->Nat
 | []=>0
 | r::l=>NF r+z7 l
theorem SQ(h:fe r):256^NF r<=rangeSize r:=by
 cases r with
 | flag=>decide
 | num lo hi=>exact ou (r:=.num lo hi) h
 | text k=>
  show 256^k<=textsBelow (k+1);rw[lF]
  lia
theorem Ks:∀{l:List Range},(∀r∈l,fe r)->256^z7 l<=rangesSize l
 | [],_=>by decide
 | r::l,h=>by
  show 256^(NF r+z7 l)<=rangeSize r*rangesSize l;rw[Nat.pow_add];exact Nat.mul_le_mul (SQ (h r (by simp))) (Ks λx hx=>h x (by simp[hx]))
theorem vV:∀(k n r:Nat),textLength k n r<=n+k
 | 0,n,r=>ah _
 | k+1,n,r=>by
  show(if r<textsBelow (n+1) then n else textLength k (n+1) r)<=_;split
  .lia
  .have:=vV k (n+1) r
   lia
theorem NG(h:fe r)(hn:n<rangeSize r):(showVal (valAt r n)).length<=13+4*NF r:=by
 cases r with
 | flag=>
  show(showVal (.flag (n==1))).length<=_;cases (n==1)<;>decide
 | num lo hi=>
  obtain⟨h1,h2,h3⟩:=h;have hn:n<(hi-lo+1).toNat:=hn;have:=iL (i:=lo+(n:Int)) (by lia) (by lia);show(showInt (lo+(n:Int))).length<=_
  lia
 | text k=>
  have hl:=vV k 0 n;have hb:=jX (textLength k 0 n) (n-textsBelow (textLength k 0 n));generalize hB:numberBytes (textLength k 0 n) (n-textsBelow (textLength k 0 n))=B at hb;have:=qg B;have e:showVal (valAt (.text k) n)=34::(B.flatMap showByte++[34]):=by rw[←hB];rfl
  rw[e];show(34::(B.flatMap showByte++[34])).length<=13+4*k;rw[az,aC,az,bc]
  lia
theorem Bu:∀{l:List Range} {n:Nat},(∀r∈l,fe r)->n<rangesSize l->(((valsAt l n).map showVal).map List.length).sum<=13*l.length+4*z7 l
 | [],_,_,_=>by simp[valsAt]
 | r::l,n,h,hn=>by
  have hp:0<rangesSize l:=kj l λx hx=>h x (by simp[hx]);have hn:n<rangeSize r*rangesSize l:=hn;have h1:=NG (r:=r) (n:=n / rangesSize l) (h r (by simp)) ((Nat.div_lt_iff_lt_mul hp).mpr hn);have h2:=Bu (l:=l) (n:=n%rangesSize l) (λx hx=>h x (by simp[hx])) (Nat.mod_lt _ hp);show(showVal (valAt r (n / rangesSize l))).length+(((valsAt l (n%rangesSize l)).map showVal).map List.length).sum<=13*(l.length+1)+4*(NF r+z7 l)
  lia
theorem IU(w:xa N b)(hn:n<rangesSize b.ranges):(lW ⟨b.label,valsAt b.ranges n,b.hands⟩).length<=130+4*z7 b.ranges:=by
 have h1:=Bu w.wf hn;have h2:=gc (word ", ") ((valsAt b.ranges n).map showVal);rw[af,uV] at h2;have e2:(word ", ").length=2:=by decide
 have e3:(word " ;").length=2:=by decide
 rw[e2] at h2;have h3:=lr w.h16 w.hl;have h4:=w.lab;have h5:=w.len;have e:lW ⟨b.label,valsAt b.ranges n,b.hands⟩=b.label++[40]++joined (word ", ") ((valsAt b.ranges n).map showVal)++[41]++i9 b.hands++word " ;"++[10]:=rfl;rw[e];simp only[aC,az,bc,e3]
 lia
theorem Bv:∀{l:List Nat} {x:Nat},x∈l->x<=l.sum
 | y::l,x,h=>by
  rw[bF];rcases aw.mp h with rfl|h
  .lia
  .have:=Bv h
   lia
theorem Bw:showCourse (m::l)=lW m++showCourse l:=by
 unfold showCourse lW;rw[bP]
theorem zD(wf:qa t):∀(n s r:Nat),n<=N->s<t.states.length->r<eD t n s->eD t n s<MOST->∃W,256^W<=eD t n s/\(showCourse (courseIn t (rows t N) n s r)).length<=130*n+4*W/\∀m∈courseIn t (rows t N) n s r,m.label.length<=16/\∀h∈m.hands,h.length<=16
 | 0,s,r,_,hs,hr,_=>by
  refine⟨0,?_,?_,?_⟩
  .show 1<=_
   lia
  .exact aI _
  .intro m hm;cases hm
 | n+1,s,r,hN,hs,hr,hM=>by
  obtain⟨b,k,h1,Y0,hk,aal,aam⟩:=yS wf.lab (N:=N) (n:=n) (by lia) hs hr;obtain⟨Yp,hdiv,aaW⟩:=En hk;have w:=wf.br s b Y0;have hle:gG t n b<=eD t (n+1) s:=by
   rw[Gz hs] at hM ⊢;have h3:gG t n b<=((t.branches s).map (gG t n)).sum:=Bv (List.mem_map_of_mem Y0);generalize ((t.branches s).map (gG t n)).sum=S at *;generalize MOST=M at *
   lia
  have hrs:=kj b.ranges w.wf;have hle2:eD t n b.to<=gG t n b:=by
   unfold gG;exact Nat.le_mul_of_pos_left _ hrs
  obtain⟨W,i1,i2,i3⟩:=zD wf (N:=N) n b.to (k%eD t n b.to) (by lia) w.to_ aaW (by lia);refine⟨z7 b.ranges+W,?_,?_,?_⟩
  .rw[Nat.pow_add];exact aA (Nat.mul_le_mul (Ks w.wf) i1) hle
  .rw[aam,Bw,aC];have:=IU w hdiv
   lia
  .rw[aam];intro m hm;rcases aw.mp hm with rfl|hm
   .exact⟨w.lab,w.h16⟩
   .exact i3 m hm
theorem Hj(wf:qa t)(hn:n<=64)(hs:s<t.states.length)(hr:r<eD t n s)(hM:eD t n s<MOST):(showCourse (courseAt t n s r)).length<=20000/\∀m∈courseAt t n s r,m.label.length<=16/\∀h∈m.hands,h.length<=16:=by
 obtain⟨W,h1,h2,h3⟩:=zD wf (N:=n) n s r (ah _) hs hr hM;refine⟨?_,h3⟩;have hW:W<420:=by
  apply bI;intro z;have a1:256^420<=256^W:=bh (by decide) z;have a2:=Ko;generalize (256:Nat)^420=X at *;generalize (256:Nat)^W=Y at *
  lia
 show(showCourse (courseIn t (rows t n) n s r)).length<=20000
 lia
end
section
open Vasesq (Msg readCourse firstWrong rangesSize MOST showCourse courseAt Call Answer)
structure eK(H H':Hp):Prop where
 ins:∀b C dx fs,H b=some (.ins C dx fs)->fs.length=2->H' b=some (.ins C dx fs)
 lst:∀b (zs:List Int),H b=some (.lst (zs.map V.int))->H' b=some (.lst (zs.map V.int))
 frz:∀b o u,H b=some (.frz o u)->H' b=some (.frz o u)
theorem eK.same(s:bn H H'):eK H H':=⟨λb C dx fs e _=>s _ _ e,λb zs e=>s _ _ e,λb o u e=>s _ _ e⟩
theorem eK.trans(h:eK H H1)(k:eK H1 H2):eK H H2:=⟨λb C dx fs e l=>k.ins _ _ _ _ (h.ins _ _ _ _ e l) l,λb zs e=>k.lst _ _ (h.lst _ _ e),λb o u e=>k.frz _ _ _ (h.frz _ _ _ e)⟩
theorem eK.kp(k:Kp rl H H'):eK H H':=by
 obtain⟨r,rest,ys,e1,e2⟩:=k.rows;refine⟨λb C dx fs e _=>k.but _ _ e λz=>?_,λb zs e=>k.but _ _ e λz=>?_,λb o u e=>k.but _ _ e λz=>?_⟩
 .rw[z,e1] at e;cases e
 .rw[z,e1] at e;injection e with e;injection e with e;cases zs with
  | nil=>cases e
  | cons y ys=>rw[ay] at e;injection e with e;cases e
 .rw[z,e1] at e;cases e
def P5(a:dj)(H:Hp)(p:cS):Prop:=∃dx,H p=some (.ins a.dN dx [("counts",.non)])
def jb(a:dj)(rl:cS)(H:Hp)(p c:cS)(t:cW):Prop:=(∃dx,H p=some (.ins a.dN dx [("counts",.ref c)]))/\gN a rl H c t
def Tl(a:dj)(H:Hp)(p:cS):Option cW->Prop
 | none=>P5 a H p
 | some t=>∃rl c,jb a rl H p c t
theorem jb.kp(h:jb a rl H p c t)(k:Kp rl H H')(hc:gN a rl H' c t):jb a rl H' p c t:=by
 obtain⟨⟨dx,hp⟩,_⟩:=h;obtain⟨r,rest,ys,e1,e2⟩:=k.rows;exact⟨⟨dx,k.but _ _ hp λz=>by rw[z,e1] at hp;cases hp⟩,hc⟩
theorem jb.same(h:jb a rl H p c t)(s:bn H H'):jb a rl H' p c t:=
 let ⟨⟨dx,hp⟩,hc⟩:=h;⟨⟨dx,s _ _ hp⟩,lX hc s⟩
theorem Tl.same(h:Tl a H p o)(s:bn H H'):Tl a H' p o:=by
 cases o with
 | none=>obtain⟨dx,e⟩:=h;exact⟨dx,s _ _ e⟩
 | some t=>obtain⟨rl,c,e⟩:=h;exact⟨rl,c,e.same s⟩
theorem Tl.obj(h:Tl a H p o):∃dx v,H p=some (.ins a.dN dx [("counts",v)]):=by
 cases o with
 | none=>obtain⟨dx,e⟩:=h;exact⟨dx,_,e⟩
 | some t=>obtain⟨rl,c,⟨dx,e⟩,_⟩:=h;exact⟨dx,_,e⟩
theorem jb.wf(h:jb a rl H p c t):qa t:=let ⟨_,_,_,_,_,z,_⟩:=h;z.1
theorem jb.kpS(h:jb a rl H p c t)(s:bn H H'):Kp rl H H':=pE h.2 s
theorem jb.open(h:jb a rl H p c t):∃dx XL pp XG pt pw Xi Xk fm ps,H p=some (.ins a.dN dx [("counts",.ref c)])/\H c=some (.ins a.fi XL [("part",.ref pp),("limit",.int (MOST:Nat)),("rows",.ref rl)])/\H pp=some (.ins a.ic XG [("title",.ref pt),("worker",.ref pw),("start",.ref Xi),("states",.ref Xk),("form",.ref fm)])/\H Xk=some (.lst (ps.map V.ref))/\dX (si a) H ps t.states/\H fm=some (.lst (dc t.shown))/\IsPart a H pp t:=by
 obtain⟨⟨dx,hp⟩,XL,pp,rs,hc,Xr,hr⟩:=h;obtain⟨wf,XG,pt,pw,Xi,Xk,fm,e1,⟨ps,e2,hE⟩,e3⟩:=id Xr;exact⟨dx,XL,pp,XG,pt,pw,Xi,Xk,fm,ps,hp,hc,e1,e2,hE,e3,Xr⟩
theorem gR{i:Int}{A B:Prop}(h:i≠0)(k:A):if(!decide (V.int i=V.int 0))=true then A else B:=by
 rw[ae]
 .exact k
 .simp[h]
theorem ls{i:Int}{A B:Prop}(h:i=0)(k:B):if(!decide (V.int i=V.int 0))=true then A else B:=by
 rw[aa]
 .exact k
 .simp[h]
theorem uW{i:Int}{A B:Prop}(h1:i≠0->A)(h2:i=0->B):if(!decide (V.int i=V.int 0))=true then A else B:=by
 by_cases h:i=0
 .exact ls h (h2 h)
 .exact gR h (h1 h)
theorem mx(b:Bytes):dc b=(b.map λc=>(c.toNat:Int)).map V.int:=by
 unfold dc;rw[aO];rfl
def VO:Sp:=λvs H Q _=>∃l,∃zs:List Int,vs=[.ref l]/\H l=some (.lst (zs.map V.int))/\zs.length<=30000/\∀l' H',bn H H'->H l'=none->H' l'=some (.lst ((((zs.length:Nat):Int)::zs).map V.int))->Q (.ref l') H'
theorem pk:fc P w base T.gC 1 VO:=by
 specialize T.gC.fn.okN ["told"];obtain⟨l,zs,rfl,hl,hz,q⟩:=h;refine'⟨_,(am (bi (dF RH (dw (dq (fS T.d5 (pv 0)))) (pv 0)))),?_⟩;refine'⟨by(show 1<=sizeLine;decide),λp1 Xh=>?_⟩;have e1:upd H p1 (.lst [.int ((zs.map V.int).length:Nat)]) p1=some (.lst [.int ((zs.map V.int).length:Nat)]):=bv;have e2:upd H p1 (.lst [.int ((zs.map V.int).length:Nat)]) l=some (.lst (zs.map V.int)):=bn.upd Xh _ _ hl;refine Tz e1 e2 (by rw[af,az,bc,sizeLine_eq];lia) λp2 XQ=>?_;have s1:bn H (upd H p1 (.lst [.int ((zs.map V.int).length:Nat)])):=bn.upd Xh;refine q p2 _ (s1.trans (bn.upd XQ)) (s1.free XQ) ?_;rw[bv,af];rfl
def VP:Sp:=λvs H Q _=>∃x y:Nat,vs=[.int (x:Nat),.int (y:Nat)]/\Q (.int (if x<y then 1 else if x=y then 2 else 3)) H
theorem IV:fc P w base T.Ah 1 VP:=by
 specialize T.Ah.fn.okN ["first_rank","second_rank"];obtain⟨x,y,rfl,q⟩:=h;refine'⟨_,(ad (de (jW (pv 0) (pv 1)) (am (bi (dA T.S7))) cZ) (ad (de (wB (pv 0) (pv 1)) (am (bi (dA T.Tb))) cZ) (am (bi (dA T.Wi))))),?_⟩;refine cX (λh1=>?_) (λh1=>?_)
 .have h1:x<y:=aY.mp (ai h1);rw[ae h1] at q;left;exact q
 .have h1:¬x<y:=λz=>h1 (ao (aY.mpr z));rw[aa h1] at q;left;refine cX (λh2=>?_) (λh2=>?_)
  .have h2:y<x:=aY.mp (ai h2);rw[aa (by lia)] at q;left;exact q
  .have h2:¬y<x:=λz=>h2 (ao (aY.mpr z));rw[ae (by lia)] at q;left;exact q
def VQ(a:dj):Sp:=λvs H Q _=>∃x dx,vs=[.ref x]/\H x=some (.ins a.dN dx [])/\Q .non (upd H x (.ins a.dN dx [("counts",.non)]))
theorem CO:wD P w base T.sJ mg 1 (VQ a):=by
 specialize T.sJ.fn.okN ["self"];obtain⟨x,dx,rfl,hx,q⟩:=h;refine'⟨_,(am (fR (pv 0) (wc))),?_⟩;exact q
noncomputable def ny(t:cW)(i:Int):Int:=if 0<=i/\i<(t.states.length:Nat) then 0 else -2
def VR(a:dj):Sp:=λvs H Q _=>∃p i,vs=[.ref p,.int i]/\((P5 a H p/\Q (.int (-1)) H)∨∃rl c t,jb a rl H p c t/\Q (.int (ny t i)) H)
theorem gQ:iA P w base T.gd mg 1 (VR a):=by
 specialize T.gd.fn.okN ["self","i"];obtain⟨p,i,rfl,hh⟩:=h;refine⟨_,(ad (de (we (F0 (da (pv 0)))) (am (bi (dA T.Ky))) cZ) (ad (de (PW.pt (lc (jW (pv 1) (cr)) (jM (yP (pv 1) (fS T.d5 (da (da (da (pv 0))))))))) (am (bi (dA T.rC))) cZ) (am (bi (dA T.eO))))),?_⟩;rcases hh with ⟨⟨dx,hp⟩,q⟩|⟨rl,c,t,hT,q⟩
 .left;refine' eU ?_;exact q
 .obtain⟨dx,XL,pp,XG,pt,pw,Xi,Xk,fm,ps,hp,hc,e1,e2,hE,e3,Xr⟩:=hT.open;left;refine' cX (λz=>absurd z (by simp)) (λ_=>?_);unfold ny at q;have hlen:=hE.len;by_cases h0:i<0
  .rw[aa (by lia)] at q;refine cX (λ_=>?_) (λz=>absurd (ao h0) z);refine' eU ?_;exact q
  .refine' cX (λz=>absurd (ai z) h0) (λ_=>?_);rw[af,hlen];by_cases h1:(t.states.length:Int)<=i
   .rw[aa (by lia)] at q;refine' cX (λ_=>?_) (λz=>absurd (ao h1) z);exact q
   .rw[ae (by lia)] at q;refine' cX (λz=>absurd (ai z) h1) (λ_=>?_);exact q
def uf(t:cW)(n s:Nat):Int:=if MOST<=eD t n s then -3 else 0
def VS(a:dj):Sp:=λvs H Q _=>∃rl p c t,∃s n:Nat,vs=[.ref p,.int (s:Nat),.int (n:Nat)]/\jb a rl H p c t/\s<t.states.length/\n<=64/\∀H',Kp rl H H'->jb a rl H' p c t->Q (.int (uf t n s)) H'
theorem kJ:iA P w base T.iJ mg 3 (VS a):=by
 specialize T.iJ.fn.okN ["self","i","n"];obtain⟨rl,p,c,t,sN,n,rfl,hT,hs,hn,q⟩:=h;refine⟨_,(ad (de (yP (dh (da (pv 0)) T.iU T.fY (fO T) hr ci (dg (pv 1) (pv 2))) (da (da (pv 0)))) (am (bi (dA T.EK))) cZ) (am (bi (dA T.eO)))),?_⟩;obtain⟨dx,XL,pp,XG,pt,pw,Xi,Xk,fm,ps,hp,hc,e1,e2,hE,e3,Xr⟩:=hT.open;left;refine⟨rl,c,t,sN,n,rfl,hT.2,hs,hn,λH1 kp Xy=>?_⟩;have Xc:=hT.kp kp Xy;obtain⟨Xq,dxc1,pp1,dxp1,aeM,pw1,psn1,pst1,fm1,Yc,Xh,Zf,_⟩:=Xc.open;left;have q:=q H1 kp Xc;unfold uf at q;by_cases hM:MOST<=eD t n sN
 .rw[ae hM] at q;refine' cX (λ_=>?_) (λz=>absurd (ao (bx.mpr hM)) z);exact q
 .rw[aa hM] at q;refine' cX (λz=>absurd (bx.mp (ai z)) hM) (λ_=>?_);exact q
def ug(t:cW)(i n:Int):Int:=if 0<=i/\i<(t.states.length:Nat) then(if 0<=n/\n<=64 then uf t n.toNat i.toNat else -2) else -2
def SR(a:dj):Sp:=λvs H Q _=>∃p i n,vs=[.ref p,.int i,.int n]/\((P5 a H p/\Q (.int (-1)) H)∨∃rl c t,jb a rl H p c t/\∀H',Kp rl H H'->jb a rl H' p c t->Q (.int (ug t i n)) H')
theorem fV:iA P w base T.fj mg 4 (SR a):=by
 specialize T.fj.fn.okN ["self","i","n","refusal"];obtain⟨p,i,n,rfl,hh⟩:=h;refine⟨_,(ad (dz 3 nd (dh (pv 0) T.dZ T.gd (gQ T) hr ci (dq (pv 1)))) (ad (de (jw (pv 3) (dA T.eO)) (am (bi (pv 3))) cZ) (ad (de (PW.pt (lc (jW (pv 2) (cr)) (jM (wB (pv 2) (dA T.vX))))) (am (bi (dA T.rC))) cZ) (am (bi (dh (pv 0) T.dZ T.iJ (kJ T) hr ci (dg (pv 1) (pv 2)))))))),?_⟩;rcases hh with ⟨⟨dx,hp⟩,q⟩|⟨rl,c,t,hT,q⟩
 .left;refine'⟨p,i,rfl,.inl ⟨⟨dx,hp⟩,?_⟩⟩;refine' gR (by decide) ?_;exact q
 .obtain⟨dx,hp⟩:=hT.1;have aeZ:=hT.kpS (bn.refl H);left;refine'⟨p,i,rfl,.inr ⟨rl,c,t,hT,?_⟩⟩;unfold ug at q;refine uW (λh0=>?_) (λh0=>?_)
  .have hi:¬(0<=i/\i<(t.states.length:Nat)):=λz=>h0 (ae z);rw[aa hi] at q;have e:ny t i=-2:=aa hi;rw[e];left;exact q H aeZ hT
  .have hi:0<=i/\i<(t.states.length:Nat):=by
    apply bG;intro z;have e:ny t i=-2:=aa z;rw[e] at h0;cases h0
   rw[ae hi] at q;left;by_cases agg:n<0
   .rw[aa (by lia)] at q;refine cX (λ_=>?_) (λz=>absurd (ao agg) z);refine' eU ?_;exact q H aeZ hT
   .refine' cX (λz=>absurd (ai z) agg) (λ_=>?_);by_cases acS:64<n
    .rw[aa (by lia)] at q;refine' cX (λ_=>?_) (λz=>absurd (ao acS) z);exact q H aeZ hT
    .rw[ae (by lia)] at q;refine cX (λz=>absurd (ai z) acS) (λ_=>?_);obtain⟨s1,rfl⟩:=qd hi.1;obtain⟨n1,rfl⟩:=qd (i:=n) (by lia);rw[bM,bM] at q;left;exact⟨rl,p,c,t,s1,n1,rfl,hT,by lia,by lia,q⟩
def T1(a:dj):Sp:=λvs H Q _=>∃rl p c t,∃s:Nat,∃j:Int,vs=[.ref p,.int (s:Nat),.int j]/\jb a rl H p c t/\s<t.states.length/\Q (.bl (decide (0<=j/\j<((t.branches s).length:Nat)))) H
theorem my:iA P w base T.ji mg 1 (T1 a):=by
 specialize T.ji.fn.okN ["self","i","j"];obtain⟨rl,p,c,t,sN,j,rfl,hT,hs,q⟩:=h;refine⟨_,(am (bi (pI jV Po (cr) (pv 2) (fS T.d5 (da (eF (da (da (da (pv 0)))) (pv 1))))))),?_⟩;obtain⟨dx,XL,pp,XG,pt,pw,Xi,Xk,fm,ps,hp,hc,e1,e2,hE,e3,Xr⟩:=hT.open;obtain⟨p1,Xh,Y1,pn,d,f,g,lb,bl,ZV,_,⟨ZT,YT,X5⟩,_⟩:=hE.get (aR hs);have Zn:=je hs;rw[←Zn] at X5;unfold iB at ZV;have hlen:=X5.len;left;by_cases h0:0<=j
 .refine' cX (λ_=>?_) (λz=>absurd (ao h0) z);refine' eg e2 rfl (by rw[ak,Xh];rfl) ?_;rw[af,hlen];have e:decide (j<((t.branches sN).length:Nat))=decide (0<=j/\j<((t.branches sN).length:Nat)):=by simp[h0]
  rw[←e] at q;exact q
 .refine cX (λz=>absurd (ai z) h0) (λ_=>?_);have e:decide (0<=j/\j<((t.branches sN).length:Nat))=false:=by simp[h0]
  rw[e] at q;exact q
def T2(a:dj):Sp:=λvs H Q _=>∃rl p c t,∃s k:Nat,∃b,vs=[.ref p,.int (s:Nat),.int (k:Nat)]/\jb a rl H p c t/\s<t.states.length/\(t.branches s)[k]?=some b/\∀pb,iW a H pb b->Q (.ref pb) H
theorem qh:iA P w base T.lz mg 1 (T2 a):=by
 specialize T.lz.fn.okN ["self","i","j"];obtain⟨rl,p,c,t,sN,k,b,rfl,hT,hs,hb,q⟩:=h;refine⟨_,(am (bi (eF (da (eF (da (da (da (pv 0)))) (pv 1))) (pv 2)))),?_⟩;obtain⟨dx,XL,pp,XG,pt,pw,Xi,Xk,fm,ps,hp,hc,e1,e2,hE,e3,Xr⟩:=hT.open;obtain⟨p1,Xh,Y1,pn,d,f,g,lb,bl,ZV,_,⟨ZT,YT,X5⟩,_⟩:=hE.get (aR hs);have Zn:=je hs;rw[←Zn] at X5;unfold iB at ZV;obtain⟨pb,aaO,Xs⟩:=X5.get hb;left;refine' eg e2 rfl (by rw[ak,Xh];rfl) ?_;refine eg YT rfl (by rw[ak,aaO];rfl) ?_;exact q pb Xs
end
section
open Vasesb (Val)
open Vasesq (Msg valueNext takeMsg takeMsgs)
theorem Hk:Vasesb.takeValue l=match l with
  | ⟨_,.num n⟩::r=>.ok (.num n,r)
  | ⟨_,.text b⟩::r=>.ok (.text b,r)
  | ⟨_,.name w⟩::r=>if w=word "true" then .ok (.flag true,r) else if w=word "false" then .ok (.flag false,r) else VasesBase.wrong l
  | _=>VasesBase.wrong l:=rfl
theorem oE:jr Vasesb.takeValue:=λl x l' h=>by
 unfold Vasesb.takeValue at h;split at h
 .cases h;simp
 .cases h;simp
 .split at h
  .cases h;simp
  .split at h
   .cases h;simp
   .cases h
 .cases h
theorem qi(l:Toks)(h:valueNext l=false):∃f,Vasesb.takeValue l=.error f:=by
 unfold valueNext at h;split at h
 .cases h
 .cases h
 .rename_i l' h1 h2;unfold Vasesb.takeValue;split
  .exact absurd rfl (h1 _ _ _)
  .exact absurd rfl (h2 _ _ _)
  .rename_i p w' r;simp[next] at h;rw[aa (λz=>h.1 (by rw[z])),aa (λz=>h.2 (by rw[z]))];exact⟨_,rfl⟩
  .exact⟨_,rfl⟩
theorem EZ:ir P w base a.du T.mC 4 (rg a (dP 4 valueNext Vasesb.takeValue) (ja a)):=by
 refine T.mC.fn.okX ["reader","count","kind","truth","content"] λW8 A outer s H vs Q E hr h nd hu W9 th=>?_;intro X;obtain⟨W,r,l,n,rfl,D,R,q⟩:=h;refine⟨_,(ad (dz 2 nd (da (d7 (pv 0) T.dm T.fW (fN T) hr ci))) (ad (dz 3 nd (qI (dh (pv 0) T.dm T.fo (eX T) hr ci (dq (dO))) (pH (dh (pv 0) T.dm T.fo (eX T) hr ci (dq (dO)))))) (ad (dB (dh (pv 0) T.dm T.gu (gx T) hr (th.passes rfl) (dq (qI (pv 3) (qI (iY qM (pv 2) (dA T.BT) (gJ _)) (pH (iY qM (pv 2) (dA T.NU) (gJ _)))))))) (ad (dB (dh (pv 0) T.dm T.ie (jo T) hr (th.passes rfl) (dg (pv 1) (dA T.JD)))) (ad (dz 4 nd (da (d7 (pv 0) T.dm T.gn (gb T) hr ci))) (ad (de (gm (pv 3)) (am (bi (fQ T.al T.jG (jN T) hr ci (dg (iz T.DF) (ut (fM (pv 4) (dO)) (cr) (cr)))))) cZ) (ad (de (fM (pv 2) (dA T.BT)) (am (bi (fQ T.al T.jG (jN T) hr ci (dg (iz T.KA) (pv 4))))) cZ) (am (bi (fQ T.al T.jG (jN T) hr ci (dg (iz T.sO) (pv 4)))))))))))),?_⟩;obtain⟨dx,tl,k2,Xd⟩:=R.obj;have st:("true":Str)=strOf (word "true"):=by rfl'
 have sf:("false":Str)=strOf (word "false"):=by rfl'
 have tt:gM "true" (.name (word "true")):=iR st (by decide);have tf:gM "false" (.name (word "false")):=iR sf (by decide);left;refine⟨W,r,l,rfl,R,λp0 t l1 hl agY=>?_⟩;subst hl;obtain⟨pl,tok⟩:=t;obtain⟨wf,dx0,c0,be0,aep,aaj⟩:=agY;have agZ:=(dW aep).1;unfold Lc at agZ;left;refine⟨W,r,_,_,_,rfl,R,tt,?_⟩;by_cases Xx:valueNext (⟨pl,tok⟩::l1)=true
 .have ai2:∀{U:L2.St} {H':Hp} {i:Int} {rest:TS} {nx:L2.St->Hp->Prop},True:=λ{_ _ _ _ _}=>trivial;have aaw:¬(4:Int)<=(n:Int)->lS a (·=r) H Q E (Vasesb.takeValue (⟨pl,tok⟩::l1)) (o7 a (ja a) W r):=λh1=>by
   unfold dP at q;rw[aa λz=>h1 (by have:=z.2;lia)] at q;exact q
  have aax:(4:Int)<=(n:Int)->Fl a (·=r) H E ⟨4,here (⟨pl,tok⟩::l1)⟩:=λh1=>by
   unfold dP at q;rw[ae ⟨Xx,by lia⟩] at q;exact q
  cases tok with
  | name b=>
   have hb:b=word "true"∨b=word "false":=by
    have:(next (.name (word "true")) (⟨pl,.name b⟩::l1)||next (.name (word "false")) (⟨pl,.name b⟩::l1))=true:=Xx;simp[next] at this;exact this
   rcases hb with rfl|rfl
   .have e1:next (.name (word "true")) (⟨pl,.name (word "true")⟩::l1)=true:=(by simp[next]);rw[e1];left;refine' eU ?_;refine' eU ?_;refine'⟨W,r,_,true,rfl,R,λ_=>?_,λz=>by cases z⟩;refine⟨W,r,_,n,4,rfl,R,λh1=>?_,aax⟩;have q:=aaw h1;left;refine⟨W,r,_,_,l1,rfl,R,rfl,(by intro z;cases z),λp1 H1 b1 R1 t1=>?_⟩;obtain⟨d1,c1,Zb,ZG,hc⟩:=t1.obj;obtain rfl:c1=.str (strOf (word "true")):=hc;left;refine' eU ?_;refine' cX (λ_=>?_) (λz=>absurd (by rfl') z);refine gk rfl λx Xw H3 nx sm hx=>?_;have D1:=D.rd b1 R1;exact q _ _ (b1.trans sm.but) ⟨x,rfl,⟨trivial,Xw,_,dQ hx (D1.no nx),rfl⟩,R1.same sm⟩
   .have e1:next (.name (word "true")) (⟨pl,.name (word "false")⟩::l1)=false:=(by simp[next];decide);have e2:next (.name (word "false")) (⟨pl,.name (word "false")⟩::l1)=true:=(by simp[next]);rw[e1];left;refine' eQ ?_;refine⟨W,r,_,_,_,rfl,R,tf,?_⟩;rw[e2];left;refine' eU ?_;refine'⟨W,r,_,true,rfl,R,λ_=>?_,λz=>by cases z⟩;refine⟨W,r,_,n,4,rfl,R,λh1=>?_,aax⟩;have q:=aaw h1;left;refine⟨W,r,_,_,l1,rfl,R,rfl,(by intro z;cases z),λp1 H1 b1 R1 t1=>?_⟩;obtain⟨d1,c1,Zb,ZG,hc⟩:=t1.obj;obtain rfl:c1=.str (strOf (word "false")):=hc;left;refine' eU ?_;refine' cX (λz=>absurd z (by rfl')) (λ_=>?_);refine gk rfl λx Xw H3 nx sm hx=>?_;have D1:=D.rd b1 R1;exact q _ _ (b1.trans sm.but) ⟨x,rfl,⟨trivial,Xw,_,dQ hx (D1.no nx),rfl⟩,R1.same sm⟩
  | num i=>
   have e1:next (.name (word "true")) (⟨pl,.num i⟩::l1)=false:=rfl;have e2:next (.name (word "false")) (⟨pl,.num i⟩::l1)=false:=rfl;rw[e1];left;refine' eQ ?_;refine⟨W,r,_,_,_,rfl,R,tf,?_⟩;rw[e2];left;refine' eQ ?_;refine' cX (λ_=>?_) (λz=>absurd (by simp[gL]) z);refine'⟨W,r,_,true,rfl,R,λ_=>?_,λz=>by cases z⟩;refine⟨W,r,_,n,4,rfl,R,λh1=>?_,aax⟩;have q:=aaw h1;left;refine⟨W,r,_,_,l1,rfl,R,rfl,(by intro z;cases z),λp1 H1 b1 R1 t1=>?_⟩;obtain⟨d1,c1,Zb,ZG,hc⟩:=t1.obj;obtain rfl:c1=.int i:=hc;left;refine' eQ ?_;refine' cX (λ_=>?_) (λz=>absurd (by simp[gL]) z);refine gk rfl λx Xw H3 nx sm hx=>?_;have D1:=D.rd b1 R1;exact q _ _ (b1.trans sm.but) ⟨x,rfl,⟨wf,Xw,_,dQ hx (D1.no nx),rfl⟩,R1.same sm⟩
  | text b=>
   have e1:next (.name (word "true")) (⟨pl,.text b⟩::l1)=false:=rfl;have e2:next (.name (word "false")) (⟨pl,.text b⟩::l1)=false:=rfl;rw[e1];left;refine' eQ ?_;refine⟨W,r,_,_,_,rfl,R,tf,?_⟩;rw[e2];left;refine' eQ ?_;refine' cX (λz=>absurd z (by simp[gL])) (λ_=>?_);refine'⟨W,r,_,true,rfl,R,λ_=>?_,λz=>by cases z⟩;refine⟨W,r,_,n,4,rfl,R,λh1=>?_,aax⟩;have q:=aaw h1;left;refine⟨W,r,_,_,l1,rfl,R,rfl,(by intro z;cases z),λp1 H1 b1 R1 t1=>?_⟩;obtain⟨wf1,d1,c1,Zb,ZG,qq,rfl,hq⟩:=t1;have ag0:=(dW ZG).1;unfold Lc at ag0;left;refine' eQ ?_;refine' cX (λz=>absurd z (by simp[gL])) (λ_=>?_);refine gk rfl λx Xw H3 nx sm hx=>?_;have D1:=D.rd b1 R1;exact q _ _ (b1.trans sm.but) ⟨x,rfl,⟨wf,Xw,_,dQ hx (D1.no nx),qq,rfl,d4 (W:=W) sm.but _ _ hq⟩,R1.same sm⟩
  | sign s=>cases Xx
  | halt_=>cases Xx
 .have Xx:valueNext (⟨pl,tok⟩::l1)=false:=by simpa using Xx
  obtain⟨f,hf⟩:=qi _ Xx;have hf3:Vasesb.takeValue (⟨pl,tok⟩::l1)=.error ⟨3,here (⟨pl,tok⟩::l1)⟩:=by
   rw[Hk] at hf ⊢;cases tok with
   | name b=>
    dsimp only at hf ⊢;split at hf
    .cases hf
    .split at hf
     .cases hf
     .rename_i z1 z2;rw[aa z1,aa z2];rfl
   | num i=>cases hf
   | text b=>cases hf
   | sign s=>rfl
   | halt_=>rfl
  have q:Fl a (·=r) H E ⟨3,here (⟨pl,tok⟩::l1)⟩:=by
   unfold dP at q;rw[aa (by rw[Xx];simp),hf3] at q;exact q
  have e1:next (.name (word "true")) (⟨pl,tok⟩::l1)=false:=by
   cases tok with
   | name b=>
    have:(next (.name (word "true")) (⟨pl,.name b⟩::l1)||next (.name (word "false")) (⟨pl,.name b⟩::l1))=false:=Xx;exact(cG.mp this).1
   | _=>rfl
  have e2:next (.name (word "false")) (⟨pl,tok⟩::l1)=false:=by
   cases tok with
   | name b=>
    have:(next (.name (word "true")) (⟨pl,.name b⟩::l1)||next (.name (word "false")) (⟨pl,.name b⟩::l1))=false:=Xx;exact(cG.mp this).2
   | _=>rfl
  have k1:decide (V.int (gL tok)=V.int 2)=false:=by
   cases tok with
   | num i=>cases Xx
   | _=>simp[gL]
  have k2':decide (V.int (gL tok)=V.int 3)=false:=by
   cases tok with
   | text i=>cases Xx
   | _=>simp[gL]
  rw[e1];left;refine' eQ ?_;refine⟨W,r,_,_,_,rfl,R,tf,?_⟩;rw[e2];left;refine' eQ ?_;rw[k1];refine' eQ ?_;rw[k2'];exact⟨W,r,_,false,rfl,R,(λz=>by cases z),λ_=>q⟩
theorem E1(T:Txt K mg a):eS P w K mg base (kH P w a.du) 6 a.jI a.jj ["reader","read_one"] (Oy a a.xH 4 valueNext Vasesb.takeValue (ja a)):=
 oX T (EZ T) T.mC.fn.kp T.mC.bd iN.mono oE (by decide)
def kD(l:Toks):Except Fault (Msg×Toks):=match takeName l with
 | .error f=>.error f
 | .ok (n,l1)=>match gi 4 valueNext Vasesb.takeValue l1 with
  | .error f=>.error f
  | .ok (vs,l2)=>match Vasesd.takeHands l2 with
   | .error f=>.error f
   | .ok (hs,l3)=>match takeSign 59 l3 with
    | .error f=>.error f
    | .ok l4=>.ok (⟨n.name,vs,hs.map λh=>h.name⟩,l4)
theorem SS:takeMsg l=kD l:=by
 unfold takeMsg kD;dsimp only[bind,Except.bind];cases takeName l with
 | error f=>rfl
 | ok x=>
  obtain⟨n,l1⟩:=x;dsimp only;have e:Vasesq.takeVals l1=gi 4 valueNext Vasesb.takeValue l1:=rfl;rw[e];cases gi 4 valueNext Vasesb.takeValue l1 with
  | error f=>rfl
  | ok x=>
   obtain⟨vs,l2⟩:=x;dsimp only;cases Vasesd.takeHands l2 with
   | error f=>rfl
   | ok x=>
    obtain⟨hs,l3⟩:=x;dsimp only;cases takeSign 59 l3 with
    | error f=>rfl
    | ok l4=>rfl
theorem Bx:ir P w base a.du T.qz 8 (rg a (dP 64 nameNext kD) (iH a)):=by
 refine T.qz.fn.okX ["reader","count","label","given","handed","seat"] λW8 A outer s H vs Q E hr h nd hu W9 th=>?_;intro X;obtain⟨W,r,l,n,rfl,D,R,q⟩:=h;refine⟨_,(ad (dz 2 nd (dh (pv 0) T.dm T.fB (gq T) hr (th.passes rfl) (dg (pv 1) (dA T.vX)))) (ad (dz 3 nd (df T.m4 (E1 T) hr (th.passes rfl) (dg (pv 0) (Ei T.mC.mg_)))) (ad (dz 4 nd (df T.nH (tY T) hr (th.passes rfl) (dq (pv 0)))) (ad (dB (dh (pv 0) T.dm T.eu (d8 T) hr (th.passes rfl) (dq (dO)))) (am (bi (fQ T.Dc T.mB (rm T) hr ci (db (da (pv 2)) (dg (pv 3) (wC [("seat",5)] nd (eW (pv 4)) (λ_ _ _ _ _=>(gh 5 nd)) (λ_ _ _ _ _=>by exact(yq (K:=K) rfl (pv 5) rfl)))))))))))),?_⟩;have es:(";":Str)=⟨#[59]⟩:=by rfl'
 have ae0:=iG (c:=59) (by decide);obtain⟨dx,tl,k2,Xd⟩:=R.obj;have kp:∀{H1 H2:Hp},fC (·=r) H1 H2->bn (dv W H1) (dv W H2):=λb=>d4 (b.mono λb e=>by rw[e];exact R.1);left;refine⟨W,r,l,n,64,rfl,R,?_⟩;rw[show(64:Int)=((64:Nat):Int) from rfl,nu]
 have q:lS a (·=r) H Q E (match dP 64 nameNext takeName n l with
   | .error f=>.error f
   | .ok (n,l1)=>match gi 4 valueNext Vasesb.takeValue l1 with
    | .error f=>.error f
    | .ok (vs,l2)=>match Vasesd.takeHands l2 with
     | .error f=>.error f
     | .ok (hs,l3)=>match takeSign 59 l3 with
      | .error f=>.error f
      | .ok l4=>.ok (⟨n.name,vs,hs.map λh=>h.name⟩,l4)) (o7 a (iH a) W r):=by
  unfold dP at q ⊢;by_cases z:nameNext l=true/\64<=n
  .rw[ae z] at q ⊢;exact q
  .rw[aa z] at q ⊢;exact q
 cases e1:dP 64 nameNext takeName n l with
 | error fa=>rw[e1] at q;exact q
 | ok x1=>
  obtain⟨n1,l1⟩:=x1;rw[e1] at q;rintro v H1 b1 ⟨p1,rfl,t1,R1⟩;have D1:=D.rd b1 R1;dsimp only at q;left;refine⟨W,r,l1,rfl,D1,R1,?_⟩;cases e2:gi 4 valueNext Vasesb.takeValue l1 with
  | error fa=>rw[e2] at q;exact Fl.but q b1
  | ok x2=>
   obtain⟨vs,l2⟩:=x2;rw[e2] at q;rintro v H2 b2 ⟨p2,rfl,t2,R2⟩;have D2:=D1.rd b2 R2;dsimp only at q;left;refine⟨W,r,l2,rfl,D2,R2,?_⟩;cases e3:Vasesd.takeHands l2 with
   | error fa=>rw[e3] at q;exact Fl.but q (b1.trans b2)
   | ok x3=>
    obtain⟨hs,l3⟩:=x3;rw[e3] at q;rintro v H3 b3 ⟨p3,rfl,t3,R3⟩;have D3:=D2.rd b3 R3;obtain⟨dx,tl,k2,Xd⟩:=R3.obj;dsimp only at q;left;refine⟨W,r,l3,_,_,by rw[es];rfl,R3,ae0,(by intro z;cases z),?_⟩;unfold takeSign at q;cases e4:VasesBase.take (.sign 59) l3 with
    | error fa=>rw[e4] at q;exact Fl.but q (b1.trans (b2.trans b3))
    | ok l4=>
     rw[e4] at q;intro v H4 b4 R4;have D4:=D3.rd b4 R4;have ad4:dH a (dv W H4) p1 n1:=dG a _ _ _ _ (kp (b2.trans (b3.trans b4))) t1;have t2':IsList (ja a) (dv W H4) p2 vs:=t2.same iN.mono (kp (b3.trans b4));have t3':IsList (dH a) (dv W H4) p3 hs:=t3.same (dG a) (kp b4);obtain⟨Xq,Zb,o1⟩:=ad4.obj;have o1':=(dW o1).1;obtain⟨qs,ZW,hE⟩:=t3';have ag1:=(dW ZW).1;have Yr:=EE e3;have aez:=(mv qi oE e2).1;left;intro DD agh;refine yO (hs.map λh=>V.str (strOf h.name)) (by rw[af,af,hE.len]) ag1 agh (by rw[af,hE.len,sizeLine_eq];lia) (λi x y H' Rr hx hy sm k=>?_) gK ?_
     .obtain⟨pq,hpq,rfl⟩:=eY hx;obtain⟨nm,Yd,aaT⟩:=hE.get' hpq;rw[ak,Yd] at hy;cases hy;obtain⟨aag,aah,abl⟩:=(dG a _ _ _ _ (jn.trans sm) aaT).obj;left;refine'⟨rfl,?_⟩;exact k _ (bn.refl _)
     .intro H5 s5 hD5;left;refine gk rfl λx Xw H6 nx sm hx=>?_;have nWD:¬W DD:=D4.no agh;have nWx:¬W x:=λz=>(D4.same s5).no nx z;have ae1:=s5.trans sm;refine q _ _ ((b1.trans (b2.trans (b3.trans b4))).trans ae1.but) ⟨x,rfl,⟨Xw,p2,DD,dQ hx nWx,t2'.same iN.mono (d4 ae1.but),dQ ?_ nWD,aez,by rw[af];exact Yr⟩,R4.same ae1⟩;rw[sm _ _ hD5];unfold ku;rw[aO,aO];rfl
end
section
open Vasesb (Val)
open Vasesq (Msg valueNext takeMsg takeMsgs readCourse)
theorem zE:takeMsgs (n+1) k l=if next .halt_ l=true then .ok [] else match dP 64 nameNext kD k l with
  | .error f=>.error f
  | .ok (m,l1)=>match takeMsgs n (k+1) l1 with
   | .error f=>.error f
   | .ok ms=>.ok (m::ms):=by
 show(if next .halt_ l=true then _ else if nameNext l=true/\64<=k then _ else _)=_;unfold dP;by_cases h:next .halt_ l=true
 .rw[ae h,ae h]
 .rw[aa h,aa h];by_cases h2:nameNext l=true/\64<=k
  .rw[ae h2,ae h2]
  .rw[aa h2,aa h2];show(takeMsg l >>= _)=_;rw[SS];cases kD l with
   | error f=>rfl
   | ok x=>
    obtain⟨m,l1⟩:=x;show(takeMsgs n (k+1) l1 >>= _)=_;dsimp only;cases takeMsgs n (k+1) l1<;>rfl
theorem NH(h:kD l=.ok (x,l')):l'.length<l.length:=by
 unfold kD at h;split at h
 .cases h
 .rename_i s l1 e1;split at h
  .cases h
  .rename_i vs l2 e2;split at h
   .cases h
   .rename_i hs l3 e3;split at h
    .cases h
    .rename_i l4 e4;cases h;have s1:l1.length<l.length:=by
      cases e:nameNext l with
      | true=>
       obtain⟨p,b,r,rfl,e'⟩:=ni e;rw[e'] at e1;cases e1;simp
      | false=>rw[gH e] at e1;cases e1
     have s2:=(mv qi oE e2).2;have s3:=vQ _ _ _ e3;have s4:=hU e4
     lia
theorem Hl:∀(n k:Nat)(l:Toks)(ms:List Msg),takeMsgs n k l=.ok ms->ms=[]∨k+ms.length<=64
 | 0,k,l,ms,h=>by cases h
 | n+1,k,l,ms,h=>by
  rw[zE] at h;split at h
  .cases h;exact .inl rfl
  .split at h
   .cases h
   .rename_i m l1 e1;split at h
    .cases h
    .rename_i rs e2;cases h;have hk:k<64:=by
      apply bI;intro z;unfold dP at e1;by_cases hn:nameNext l=true
      .rw[ae ⟨hn,z⟩] at e1;cases e1
      .rw[aa (λy=>hn y.1)] at e1;unfold kD at e1;rw[gH (by simpa using hn)] at e1;cases e1
     right;rcases Hl n (k+1) l1 rs e2 with rfl|h1
     .simp;lia
     .simp;lia
theorem LI(h:readCourse b=.ok ms):ms.length<=64:=by
 change (VasesBase.tokens b >>= _)=_ at h;cases e:VasesBase.tokens b with
 | error f=>rw[e] at h;cases h
 | ok l=>
  rw[e] at h;rcases Hl _ _ _ _ h with rfl|z
  .simp
  .lia
def ST(a:dj):Sp:=λvs H Q E=>∃tx b,vs=[.ref tx]/\H tx=some (.lst (dc b))/\match readCourse b with
 | .ok ms=>∀p H',bn H H'->IsList (iH a) H' p ms->ms.length<=64->Q (.ref p) H'
 | .error f=>Fl a (λ_=>False) H E f
theorem uh:ir P w base a.du T.nE 10 (ST a):=by
 refine T.nE.fn.okX ["text","reader","messages"] λW8 A outer s H vs Q E hr h nd hu W9 th=>?_;intro X;obtain⟨tx,b,rfl,ht,q⟩:=h;refine'⟨_,(ad (dz 1 nd (fQ T.dm T.nA (ub T) hr (th.passes rfl) (dq (pv 0)))) (ad (dz 2 nd (dw eA)) (ad (gI PassesOwn.leaving (j6 (gm (d7 (pv 1) T.dm T.j5 (nZ T) hr ci))) (am (dB (ve (pv 2) (df T.qz (Bx T) hr (th.passes rfl) (dg (pv 1) (fS T.d5 (pv 2)))))))) (am (bi (pv 2)))))),?_⟩;intro r dx nr ab7 ne;have Zc:(upd (upd H dx (.own r)) r (.ins a.dS dx [])) r=some (.ins a.dS dx []):=bv;have Yb:bn H (upd (upd H dx (.own r)) r (.ins a.dS dx [])):=bn.make nr ab7 rfl;have D:fT (·=r) (upd (upd H dx (.own r)) r (.ins a.dS dx [])):=λb z e=>by rw[z,Zc] at e;cases e
 generalize upd (upd H dx (.own r)) r (.ins a.dS dx [])=H0 at Zc Yb D;have bs:∀{H':Hp},fC (·=r) H0 H'->bn H H':=λb c o e=>b c o (Yb c o e) (ca e nr);have fl:∀{f:Fault},Fl a (λ_=>False) H E f->Fl a (·=r) H0 E f:=λh Yf H' b e=>h Yf H' (bs b).but e;refine⟨(·=r),r,dx,tx,b,rfl,rfl,Zc,Yb _ _ ht,D,?_⟩;have q0:match (match VasesBase.tokens b with|.error f=>Except.error f|.ok l=>takeMsgs (l.length+1) 0 l) with
   | .ok ms=>∀p H',bn H H'->IsList (iH a) H' p ms->Q (.ref p) H'
   | .error f=>Fl a (λ_=>False) H E f:=by
  have e:readCourse b=(match VasesBase.tokens b with|.error f=>Except.error f|.ok l=>takeMsgs (l.length+1) 0 l):=by
   show(VasesBase.tokens b >>= _)=_;cases VasesBase.tokens b<;>rfl
  rw[←e];cases e2:readCourse b with
  | error f=>rw[e2] at q;exact q
  | ok ms=>rw[e2] at q;exact λp H' s i=>q p H' s i (LI e2)
 cases e0:VasesBase.tokens b with
 | error f=>rw[e0] at q0;exact fl q0
 | ok l0=>
  rw[e0] at q0;dsimp only at q0;intro H1 b1 R1;refine⟨rfl,?_⟩;have D1:=D.rd b1 R1;have afO:=R1.len;left;refine⟨by(show 0<=sizeLine;decide),λp hp=>?_⟩;have YL:r≠p:=by
   obtain⟨_,_,_,z⟩:=R1.obj;exact ca z hp
  have ab0:H0 p=none:=by
   cases z:H0 p with
   | none=>rfl
   | some o=>have:=b1 p o z (λe=>YL e.symm);rw[hp] at this;cases this
  left
  refine iQ (λm U H'=>U=[some (.ref tx),some (.ref r),some (.ref p)]/\∃ps xs l2 fu,m=l2.length/\H' p=some (.lst (ps.map V.ref))/\dX (iH a) (dv (Add (·=r) p) H') ps xs/\eC a (Add (·=r) p) H' r l2/\fC (·=r) H0 H'/\fT (Add (·=r) p) H'/\
    l2.length<fu/\xs.length+l2.length<=l0.length/\
    (match (match takeMsgs fu xs.length l2 with|.error f=>Except.error f|.ok ss=>.ok (xs++ss)) with
     | .error f=>Fl a (λ_=>False) H E f
     | .ok ss=>∀p H',bn H H'->IsList (iH a) H' p ss->Q (.ref p) H'))
   (λU H'=>U=[some (.ref tx),some (.ref r),some (.ref p)]/\∃ps xs,H' p=some (.lst (ps.map V.ref))/\dX (iH a) (dv (Add (·=r) p) H') ps xs/\fC (·=r) H0 H'/\
    ∀p H',bn H H'->IsList (iH a) H' p xs->Q (.ref p) H') l0.length ?_ ?_ (λtail=>?_)
  .refine⟨rfl,[],[],l0,l0.length+1,rfl,bv,.nil,R1.add hp,b1.trans λb u e nb=>?_,D1.add,bj _,by simp,?_⟩
   .rw[ap (ca e hp)];exact e
   .show match (match takeMsgs (l0.length+1) 0 l0 with|.error f=>Except.error f|.ok ss=>.ok ([]++ss)) with|.error f=>_|.ok ss=>_;cases e9:takeMsgs (l0.length+1) 0 l0 with
    | error f=>rw[e9] at q0;exact q0
    | ok ss=>rw[e9] at q0;exact q0
  .rintro U H' ⟨rfl,ps,xs,Xe,hE,bb,q'⟩;left;exact q' p H' (bs bb) ⟨ps,Xe,hE.same hX.mono jn⟩
  .rintro m U H' ⟨rfl,ps,xs,l2,fu,rfl,Xe,hE,R',bb,D',acV,hlen,q'⟩;obtain⟨Xq,tl,k2,Xd⟩:=R'.obj;obtain⟨fu,rfl⟩:∃g,fu=g+1:=⟨fu-1,by lia⟩;left;refine'⟨_,r,l2,rfl,R',?_⟩;rw[zE] at q';cases Yr:next .halt_ l2 with
   | true=>
    rw[Yr,ae rfl] at q';refine eQ (tail _ _ ⟨rfl,ps,xs,Xe,hE,bb,?_⟩);simpa using q'
   | false=>
    rw[Yr,aa aq] at q';refine' eU ⟨_,λ_ _ z=>z,?_⟩;refine' ik Xe ?_;refine⟨_,r,l2,xs.length,by rw[af,hE.len];rfl,D',R',?_⟩;cases e8:dP 64 nameNext kD xs.length l2 with
    | error f=>
     rw[e8] at q';exact Fl.but (fl q') bb
    | ok x8=>
     obtain⟨x4,l4⟩:=x8;rw[e8] at q';dsimp only at q';rintro v H9 b9 ⟨p4,rfl,aaN,R9⟩;have t4:=NH (kb e8);have acA:H9 p=some (.lst (ps.map V.ref)):=b9 p _ Xe λe=>YL e.symm;left;refine⟨p,_,_,rfl,rfl,acA,?_,?_⟩
     .rw[af,hE.len];exact aN (m:=5000) (by lia) (by decide)
     .have k1:bn (dv (Add (·=r) p) H') (dv (Add (·=r) p) (upd H9 p (.lst (ps.map V.ref++[V.ref p4])))):=d4 ((b9.mono (λb e=>.inl e)).trans (fC.upd (.inr rfl)));refine⟨l4.length,t4,rfl,ps++[p4],xs++[x4],l4,fu,rfl,by rw[bv,aD];rfl,(hE.same hX.mono k1).snoc (hX.mono _ _ _ _ (d4 (fC.upd (.inr rfl))) aaN),R9.wild (.inr rfl) YL,?_,(D'.rd b9 R9).upd,by lia,by simp;lia,?_⟩
      .refine(bb.trans b9).trans' λb u e=>?_;rw[ap (ca e ab0)]
      .have e5:(xs++[x4]).length=xs.length+1:=(by simp);rw[e5];revert q';cases takeMsgs fu (xs.length+1) l4 with
       | error f=>exact λq=>q
       | ok ss=>
        intro q';simpa using q'
end
section
open Vasesq (Msg readCourse firstWrong rangesSize MOST showCourse courseAt Call Answer ofCourse counted refused index)
theorem E3(T:Txt K mg a):K8 P w K mg base 1 a.zI a.xA ["self","refusal","messages","path"] (lp a.qB ["refusal","messages","path"]):=by
 refine T.jx.fn.okH GI (λvs H Q E h=>?_) (λW8 A outer s H vs Q E hr h=>?_)
 .obtain⟨x,dx,args,rfl,hl,_⟩:=h;exact au (·+1) hl
 .obtain⟨x,dx,args,rfl,hl,hx,q⟩:=h;obtain⟨b,c,d,rfl⟩:=Ct hl;refine'⟨_,(ad (fR (pv 0) (pv 1)) (ad (fR (pv 0) (pv 2)) (am (fR (pv 0) (pv 3))))),?_⟩;rw[eq,eq];exact q
def mW(a:dj)(H:Hp)(x:cS)(r:Int)(ml pl:cS):Prop:=∃dx,H x=some (.ins a.qB dx [("refusal",.int r),("messages",.ref ml),("path",.ref pl)])
structure Hm(a:dj)(H:Hp)(t:cW)(s:Nat)(ms:List Msg)(ml pl:cS):Prop where
 msgs:IsList (iH a) H ml ms
 path:IsList (iW a) H pl (fh t s ms)
 goes:(fh t s ms).length=ms.length
 len:ms.length<=64
theorem Hm.keep(k:jE H H')(h:Hm a H t s ms ml pl):Hm a H' t s ms ml pl:=⟨h.msgs.keep hX Km k,h.path.keep fJ ue k,h.goes,h.len⟩
theorem mW.keep(k:jE H H')(h:mW a H x r ml pl):mW a H' x r ml pl:=let ⟨dx,e⟩:=h;⟨dx,k.ins _ _ _ _ e (by show 3≠5/\2<=3;decide)⟩
def P6(a:dj)(H:Hp)(t:cW)(s:Nat)(b:Bytes)(e1 e2 r:Int)(ml pl:cS):Prop:=match readCourse b with
 | .error _=>r=e1
 | .ok ms=>if(firstWrong t s 0 ms).isSome=true then r=e2 else r=0/\Hm a H t s ms ml pl
def VT(a:dj):Sp:=λvs H Q _=>∃rl p c t,∃s:Nat,∃tx b,∃e1 e2:Int,vs=[.ref p,.int (s:Nat),.ref tx,.int e1,.int e2]/\jb a rl H p c t/\s<t.states.length/\H tx=some (.lst (dc b))/\∀x r ml pl H',bn H H'->mW a H' x r ml pl->P6 a H' t s b e1 e2 r ml pl->Q (.ref x) H'
theorem oj:iA P w base T.j4 mg 11 (VT a):=by
 specialize T.j4.fn.okN ["self","i","text","no_course","goes_not","messages","path"];obtain⟨rl,p,c,t,sN,tx,b,x1,x2,rfl,hT,hs,ht,q⟩:=h;refine⟨_,(ad (QA (i:=5) T.dL rfl T.fL rfl rfl rfl T.nE (uh T) hr rfl (λpins W=>(dq (pv 2))) nd rfl (by first|exact Or.inl rfl|exact Or.inr rfl) (by first|exact Or.inl rfl|exact Or.inr rfl) (λpins x=>(am (bi (Sd T.C7 T.jx (E3 T) (eJ.hnd hr) (db (pv 3) (dg (dw eA) (dw eA)))))))) (ad (dz 6 nd (df T.yA (Bt T) hr ci (db (da (da (pv 0))) (dg (pv 1) (pv 5))))) (ad (de (jW (fS T.d5 (pv 6)) (fS T.d5 (pv 5))) (am (bi (fQ T.C7 T.jx (mt T) hr ci (db (pv 4) (dg (dw eA) (dw eA)))))) cZ) (am (bi (fQ T.C7 T.jx (mt T) hr ci (db (dA T.eO) (dg (pv 5) (pv 6))))))))),?_⟩;unfold P6 at q;left;refine⟨tx,b,rfl,ht,?_⟩;cases er:readCourse b with
 | error f=>
  rw[er] at q;dsimp only at q ⊢;intro Xq H1 b1 XR;refine⟨Xq,rfl,λx xs hx adj=>?_⟩;have s1:bn H (upd H1 x (XO x a.du (some Xq) xs)):=λc' o e=>by
   have:=b1 c' o e (λz=>z);rw[ap (ca this hx)];exact this
  generalize upd H1 x (XO x a.du (some Xq) xs)=H2 at s1;left;refine⟨by(show 0<=sizeLine;decide),λl1 Zy=>?_⟩;have s2:=s1.trans (bn.upd (o:=.lst []) Zy);generalize upd H2 l1 (.lst [])=H3 at s2;left;refine⟨by(show 0<=sizeLine;decide),λl2 Y8=>?_⟩;have s3:=s2.trans (bn.upd (o:=.lst []) Y8);generalize upd H3 l2 (.lst [])=H4 at s3;left;refine gk rfl λx9 Xw H5 adk s5 ZY=>?_;exact q x9 x1 l1 l2 H5 (s3.trans s5) ⟨Xw,ZY⟩ rfl
 | ok ms=>
  rw[er] at q;dsimp only at q ⊢;intro ml H1 s1 Y3 ack;have Xc:=hT.same s1;obtain⟨dx,XL,pp,XG,pt,pw,Xi,Xk,fm,ps,hp,hc,e1,e2,hE,e3,Xr⟩:=Xc.open;left;refine⟨pp,t,sN,ml,ms,rfl,Xr,hs,Y3,ack,λpl H2 s2 Xj=>?_⟩;have abJ:=IsList.same hX.mono s2 Y3;obtain⟨Zx,YG,hM⟩:=id abJ;obtain⟨pps,ag2,acm⟩:=id Xj;left;rw[af,af,hM.len,acm.len];rcases sw (t:=t) ms sN 0 with ⟨w1,w2,w3⟩|⟨m,w1,w2⟩
  .rw[w2] at q;refine' cX (λz=>absurd (ai z) (by lia)) (λ_=>?_);refine gk rfl λx9 Xw H5 adk s5 ZY=>?_;refine q x9 0 ml pl H5 (s1.trans (s2.trans s5)) ⟨Xw,ZY⟩ ?_;rw[aa (by simp)];exact⟨rfl,IsList.same hX.mono s5 abJ,IsList.same fJ.mono s5 Xj,w1,ack⟩
  .rw[w2] at q;have Xg:=(ax.mp w1).1;refine' cX (λ_=>?_) (λz=>absurd (ao (aY.mpr Xg)) z);refine⟨by(show 0<=sizeLine;decide),λl1 Zy=>?_⟩;have s3:=(s1.trans s2).trans (bn.upd (o:=.lst []) Zy);generalize upd H2 l1 (.lst [])=H3 at s3;left;refine⟨by(show 0<=sizeLine;decide),λl2 Y8=>?_⟩;have s4:=s3.trans (bn.upd (o:=.lst []) Y8);generalize upd H3 l2 (.lst [])=H4 at s4;left;refine gk rfl λx9 Xw H5 adk s5 ZY=>?_;exact q x9 x2 l1 l2 H5 (s4.trans s5) ⟨Xw,ZY⟩ (by rw[ae (by simp)])
theorem QW{t:cW}{i:Int}{b:Bytes}{f:Nat->List Msg->Answer}(h:¬(0<=i/\i<(t.states.length:Nat))):ofCourse t i b f=refused (-2):=by
 unfold ofCourse index;rw[aa h]
theorem yu(h:s<t.states.length):ofCourse t (s:Nat) b f=match readCourse b with
  | .error _=>refused (-4)
  | .ok l=>if(firstWrong t s 0 l).isSome=true then refused (-5) else if MOST<=eD t l.length s then refused (-3) else f s l:=by
 unfold ofCourse index;rw[ae (by lia),bM];dsimp only;cases readCourse b with
 | error f=>rfl
 | ok l=>dsimp only;rw[ka]
def SU(a:dj)(H:Hp)(t:cW)(i:Int)(b:Bytes)(r:Int)(ml pl:cS):Prop:=(r≠0/\∀f,ofCourse t i b f=refused r)∨
 (r=0/\∃s:Nat,∃ms,i=(s:Nat)/\s<t.states.length/\Hm a H t s ms ml pl/\eD t ms.length s<MOST/\∀f,ofCourse t i b f=f s ms)
def SV(a:dj):Sp:=λvs H Q _=>∃p i tx b,vs=[.ref p,.int i,.ref tx]/\H tx=some (.lst (dc b))/\((P5 a H p/\∀x ml pl H',bn H H'->mW a H' x (-1) ml pl->Q (.ref x) H')∨
 ∃rl c t,jb a rl H p c t/\∀x r ml pl H',Kp rl H H'->jb a rl H' p c t->mW a H' x r ml pl->SU a H' t i b r ml pl->Q (.ref x) H')
theorem io:iA P w base T.gB mg 12 (SV a):=by
 specialize T.gB.fn.okN ["self","i","text","refusal","told"];obtain⟨p,i,tx,b,rfl,ht,hh⟩:=h;refine⟨_,(ad (dz 3 nd (dh (pv 0) T.dZ T.gd (gQ T) hr ci (dq (pv 1)))) (ad (de (jw (pv 3) (dA T.eO)) (am (bi (fQ T.C7 T.jx (mt T) hr ci (db (pv 3) (dg (dw eA) (dw eA)))))) cZ) (ad (dz 4 nd (dh (pv 0) T.dZ T.j4 (oj T) hr ci (db (pv 1) (db (pv 2) (dg (dA T.NW) (dA T.O9)))))) (ad (de (jw (da (pv 4)) (dA T.eO)) (am (bi (pv 4))) cZ) (am (bi (fQ T.C7 T.jx (mt T) hr ci (db (dh (pv 0) T.dZ T.iJ (kJ T) hr ci (dg (pv 1) (fS T.d5 (da (pv 4))))) (dg (da (pv 4)) (da (pv 4))))))))))),?_⟩;have back:∀{r:Int} {H1:Hp} {Q1:VK},(∀x ml pl H',bn H1 H'->mW a H' x r ml pl->Q1 (.ref x) H')->qN a.qB (lp a.qB ["refusal","messages","path"]) [] E0 (fF (gD 3) (fF (F6 gv) (fF (F6 gv) gv))) [some (.ref p),some (.int i),some (.ref tx),some (.int r),none] H1 Q1:=λ{r H1 Q1} k=>by
  left;refine⟨by(show 0<=sizeLine;decide),λl1 Zy=>?_⟩;have s3:=bn.upd (o:=.lst []) Zy;generalize upd H1 l1 (.lst [])=H3 at s3;left;refine⟨by(show 0<=sizeLine;decide),λl2 Y8=>?_⟩;have s4:=s3.trans (bn.upd (o:=.lst []) Y8);generalize upd H3 l2 (.lst [])=H4 at s4;left;refine gk rfl λx9 Xw H5 adk s5 ZY=>?_;exact k x9 l1 l2 H5 (s4.trans s5) ⟨Xw,ZY⟩
 rcases hh with ⟨⟨dx,hp⟩,q⟩|⟨rl,c,t,hT,q⟩
 .left;refine'⟨p,i,rfl,.inl ⟨⟨dx,hp⟩,?_⟩⟩;refine gR (by decide) ?_;refine FT ?_;exact back q
 .obtain⟨dx,hp⟩:=hT.1;left;refine'⟨p,i,rfl,.inr ⟨rl,c,t,hT,?_⟩⟩;refine uW (λh0=>?_) (λh0=>?_)
  .have hi:¬(0<=i/\i<(t.states.length:Nat)):=λz=>h0 (ae z);have e:ny t i=-2:=aa hi;rw[e];refine FT ?_;exact back λx ml pl H' s' h'=>q x (-2) ml pl H' (hT.kpS s') (hT.same s') h' (.inl ⟨by decide,λf=>QW hi⟩)
  .have hi:0<=i/\i<(t.states.length:Nat):=by
    apply bG;intro z;have e:ny t i=-2:=aa z;rw[e] at h0;cases h0
   obtain⟨sN,rfl⟩:=qd hi.1;have hs:sN<t.states.length:=by lia
   left;refine⟨rl,p,c,t,sN,tx,b,-4,-5,rfl,hT,hs,ht,λx1 r1 ml pl H1 s1 ⟨Xq,XR⟩ way=>?_⟩;have Xc:=hT.same s1;obtain⟨XG,Xh⟩:=Xc.1;have YD:=hT.kpS s1;unfold P6 at way;left;have acn:r1≠0->(∀f,ofCourse t (sN:Nat) b f=refused r1)->SU a H1 t (sN:Nat) b r1 ml pl:=λh1 h2=>.inl ⟨h1,h2⟩;cases er:readCourse b with
   | error f=>
    rw[er] at way;dsimp only at way;subst way;refine' gR (by decide) ?_;exact q x1 (-4) ml pl H1 YD Xc ⟨Xq,XR⟩ (acn (by decide) λf=>by rw[yu hs,er])
   | ok ms=>
    rw[er] at way;dsimp only at way;by_cases hw:(firstWrong t sN 0 ms).isSome=true
    .rw[ae hw] at way;subst way;refine' gR (by decide) ?_;exact q x1 (-5) ml pl H1 YD Xc ⟨Xq,XR⟩ (acn (by decide) λf=>by rw[yu hs,er];exact ae hw)
    .rw[aa hw] at way;obtain⟨rfl,XX⟩:=way;refine ls rfl ?_;obtain⟨Zx,YG,hM⟩:=id XX.msgs;left;rw[af,hM.len];refine⟨rl,p,c,t,sN,ms.length,rfl,Xc,hs,XX.len,λH2 Yt XC=>?_⟩;obtain⟨XW,aaa⟩:=mW.keep Yt.keeps ⟨Xq,XR⟩;left;refine gk rfl λx9 Xw H5 adk s5 ZY=>?_;refine q x9 (uf t ms.length sN) ml pl H5 ((YD.trans Yt).thenS s5) (XC.same s5) ⟨Xw,ZY⟩ ?_;unfold uf;by_cases adl:MOST<=eD t ms.length sN
     .rw[ae adl];exact .inl ⟨by decide,λf=>by rw[yu hs,er];dsimp only;rw[aa hw,ae adl]⟩
     .rw[aa adl];exact .inr ⟨rfl,sN,ms,rfl,hs,(XX.keep Yt.keeps).keep (pd s5),by lia,λf=>by rw[yu hs,er];dsimp only;rw[aa hw,aa adl]⟩
def VU(a:dj):Sp:=λvs H Q _=>∃rl p c t,∃s:Nat,∃x ml pl r ms,vs=[.ref p,.int (s:Nat),.ref x]/\jb a rl H p c t/\s<t.states.length/\mW a H x r ml pl/\Hm a H t s ms ml pl/\∀H',Kp rl H H'->jb a rl H' p c t->Q (.int (jB t s ms:Nat)) H'
theorem gS:iA P w base T.gz mg 6 (VU a):=by
 specialize T.gz.fn.okN ["self","i","told"];obtain⟨rl,p,c,t,sN,x,ml,pl,r,ms,rfl,hT,hs,⟨dxt,hx⟩,XX,q⟩:=h;refine⟨_,(am (bi (df T.Dt (LG T) hr ci (db (da (pv 0)) (db (pv 1) (dg (da (pv 2)) (da (pv 2)))))))),?_⟩;obtain⟨dx,hp⟩:=hT.1;left;exact⟨rl,c,t,sN,ml,pl,ms,rfl,hT.2,hs,XX.msgs,XX.path,XX.goes,XX.len,λH' kp Xy=>q H' kp (hT.kp kp Xy)⟩
def kf(t:cW)(s n:Nat)(r:Int):Answer:=match index r (eD t n s) with
 | some r=>Vasesq.text (showCourse (courseAt t n s r))
 | none=>refused (-6)
def VV(a:dj):Sp:=λvs H Q _=>∃rl p c t,∃s n:Nat,∃r:Int,vs=[.ref p,.int (s:Nat),.int (n:Nat),.int r]/\jb a rl H p c t/\s<t.states.length/\n<=64/\eD t n s<MOST/\
 ∀l H',Kp rl H H'->jb a rl H' p c t->H' l=some (.lst ((VasesqNeutral.encode (kf t s n r)).map V.int))->(VasesqNeutral.encode (kf t s n r)).length<=20001->Q (.ref l) H'
theorem z8(b:Bytes):VasesqNeutral.encode (Vasesq.text b)=((((b.map λc=>(c.toNat:Int)).length:Nat):Int)::b.map λc=>(c.toNat:Int)):=by
 unfold VasesqNeutral.encode Vasesq.text;rw[af]
theorem iX:iA P w base T.gO mg 7 (VV a):=by
 specialize T.gO.fn.okN ["self","i","n","r"];obtain⟨rl,p,c,t,sN,n,r,rfl,hT,hs,hn,hM,q⟩:=h;refine⟨_,(ad (de (PW.pt (lc (jW (pv 3) (cr)) (jM (yP (pv 3) (dh (da (pv 0)) T.iU T.fY (fO T) hr ci (dg (pv 1) (pv 2))))))) (am (bi (dw (dq (dA T.C4))))) cZ) (am (bi (df T.gC (pk T) hr ci (dq (df T.sH (CK T) hr ci (dq (df T.xJ (Hi T) hr ci (db (da (pv 0)) (db (pv 1) (dg (pv 2) (pv 3)))))))))))),?_⟩;obtain⟨dx,hp⟩:=hT.1;obtain⟨XL,_,_,hc,_⟩:=id hT.2;unfold kW at hc;have no:¬(0<=r/\r<(eD t n sN:Nat))->kf t sN n r=refused (-6):=λh=>by
  unfold kf index;rw[aa h]
 left;by_cases h0:r<0
 .rw[no (by lia)] at q;refine cX (λ_=>?_) (λz=>absurd (ao h0) z);refine' eU ?_;refine⟨by(show 1<=sizeLine;decide),λl hl=>?_⟩;exact q l _ (hT.kpS (bn.upd hl)) (hT.same (bn.upd hl)) bv (by decide)
 .refine' cX (λz=>absurd (ai z) h0) (λ_=>?_);refine⟨rl,c,t,sN,n,rfl,hT.2,hs,hn,λH1 YD ZB=>?_⟩;have Xc:=hT.kp YD ZB;left;by_cases h1:(eD t n sN:Int)<=r
  .rw[no (by lia)] at q;refine' cX (λ_=>?_) (λz=>absurd (ao h1) z);refine⟨by(show 1<=sizeLine;decide),λl hl=>?_⟩;exact q l _ (YD.thenS (bn.upd hl)) (Xc.same (bn.upd hl)) bv (by decide)
  .refine cX (λz=>absurd (ai z) h1) (λ_=>?_);obtain⟨rN,rfl⟩:=qd (i:=r) (by lia);have Xd:rN<eD t n sN:=by lia
   obtain⟨len,wf⟩:=Hj hT.wf hn hs Xd hM;have ec:kf t sN n (rN:Nat)=Vasesq.text (showCourse (courseAt t n sN rN)):=by
    unfold kf index;rw[ae (by lia)];rfl
   rw[ec,z8] at q;obtain⟨Xq,Xh⟩:=Xc.1;left;refine⟨rl,c,t,sN,n,rN,rfl,ZB,hs,hn,Xd,λml H2 Yt XE Y3=>?_⟩;have XC:=Xc.kp Yt XE;left;refine'⟨ml,_,rfl,Y3,wf,len,λl3 H3 Y2 s3 h3=>?_⟩;rw[mx] at h3;refine⟨l3,_,rfl,h3,by rw[af];lia,λl4 H4 s4 _ h4=>?_⟩;have agi:=s3.trans s4;exact q l4 H4 ((YD.trans Yt).thenS agi) (XC.same agi) h4 (by rw[az,af];lia)
end
section
open Vasesq (Msg readCourse firstWrong rangesSize MOST showCourse courseAt Call Answer ofCourse counted refused index looked number)
open VasesqNeutral (encode)
noncomputable def iI(o:Option cW)(k:Call):List Int:=encode (match o with
 | none=>refused (-1)
 | some t=>looked t k)
def ui(a:dj)(H:Hp)(p:cS)(o:Option cW)(Q:VK)(adm:List Int):Prop:=∀l H',eK H H'->Tl a H' p o->H' l=some (.lst (adm.map V.int))->adm.length<=20001->Q (.ref l) H'
theorem ret(zs:List Int)(A:ui a H p o Q adm)(e:adm=zs)(k:eK H H1)(tl:Tl a H1 p o)(hz:zs.length<=20001):(zs.map V.int).length<=sizeLine/\∀q,H1 q=none->Q (.ref q) (upd H1 q (.lst (zs.map V.int))):=
 ⟨by rw[af,sizeLine_eq];lia,λq hq=>A q _ (k.trans (eK.same (bn.upd hq))) (tl.same (bn.upd hq)) (by rw[e];exact bv) (by rw[e];exact hz)⟩
theorem Hn(k:eK H H')(h:H l=some (.lst (dc b))):H' l=some (.lst (dc b)):=by
 rw[mx] at h ⊢;exact k.lst _ _ h
theorem E4(t:cW)(i n:Int):(ug t i n≠0/\∀f,counted t i n f=refused (ug t i n))∨(ug t i n=0/\∃s m:Nat,i=(s:Nat)/\n=(m:Nat)/\s<t.states.length/\m<=64/\eD t m s<MOST/\∀f,counted t i n f=f s m):=by
 unfold ug uf counted index;by_cases hi:0<=i/\i<(t.states.length:Nat)
 .rw[ae hi,ae hi];by_cases hn:0<=n/\n<=64
  .have ZE:0<=n/\n<((Vasesq.MESSAGES+1:Nat):Int):=by
    show 0<=n/\n<(65:Int)
    lia
   rw[ae hn,ae ZE];dsimp only;rw[ka];by_cases hM:MOST<=eD t n.toNat i.toNat
   .rw[ae hM];exact .inl ⟨by decide,λf=>ae hM⟩
   .rw[aa hM];exact .inr ⟨rfl,i.toNat,n.toNat,by lia,by lia,by lia,by lia,by lia,λf=>aa hM⟩
  .have ZE:¬(0<=n/\n<((Vasesq.MESSAGES+1:Nat):Int)):=by
    show ¬(0<=n/\n<(65:Int))
    lia
   rw[aa hn,aa ZE];exact .inl ⟨by decide,λf=>rfl⟩
 .rw[aa hi,aa hi];exact .inl ⟨by decide,λf=>rfl⟩
theorem xp{H:Hp}{p:cS}{o:Option cW}{i n:Int}{E:XK}{k:Call}{f:cW->Nat->Nat->Answer}{R:VK}(hT:Tl a H p o)(hk:∀t,looked t k=counted t i n (f t))(bad:∀(r:Int) H1,r≠0->eK H H1->Tl a H1 p o->iI o k=[r]->R (.int r) H1)(good:∀rl c t H1 (s m:Nat),o=some t->i=(s:Nat)->n=(m:Nat)->s<t.states.length->m<=64->eD t m s<MOST->eK H H1->jb a rl H1 p c t->iI o k=encode (f t s m)->R (.int 0) H1):SR a [.ref p,.int i,.int n] H R E:=by
 refine⟨p,i,n,rfl,?_⟩;cases o with
 | none=>exact .inl ⟨hT,bad (-1) H (by decide) (eK.same (bn.refl _)) hT rfl⟩
 | some t=>
  obtain⟨rl,c,hT⟩:=hT;refine .inr ⟨rl,c,t,hT,λH1 kp Xc=>?_⟩;rcases E4 t i n with ⟨h0,hc⟩|⟨h0,s,m,e1,e2,hs,hm,hM,hc⟩
  .exact bad _ H1 h0 (eK.kp kp) ⟨rl,c,Xc⟩ (by show encode (looked t k)=_;rw[hk,hc];rfl)
  .rw[h0];exact good rl c t H1 s m rfl e1 e2 hs hm hM (eK.kp kp) Xc (by show encode (looked t k)=_;rw[hk,hc])
theorem By{H:Hp}{p tx:cS}{o:Option cW}{i:Int}{b:Bytes}{E:XK}{k:Call}{f:cW->Nat->List Msg->Answer}{R:VK}(hT:Tl a H p o)(ht:H tx=some (.lst (dc b)))(hk:∀t,looked t k=ofCourse t i b (f t))(bad:∀x (r:Int) ml pl H1,r≠0->eK H H1->Tl a H1 p o->mW a H1 x r ml pl->iI o k=[r]->R (.ref x) H1)(good:∀rl c t x ml pl H1 (s:Nat) ms,o=some t->i=(s:Nat)->s<t.states.length->Hm a H1 t s ms ml pl->eD t ms.length s<MOST->eK H H1->jb a rl H1 p c t->mW a H1 x 0 ml pl->iI o k=encode (f t s ms)->R (.ref x) H1):SV a [.ref p,.int i,.ref tx] H R E:=by
 refine⟨p,i,tx,b,rfl,ht,?_⟩;cases o with
 | none=>exact .inl ⟨hT,λx ml pl H' s' h'=>bad x (-1) ml pl H' (by decide) (eK.same s') (Tl.same (o:=none) hT s') h' rfl⟩
 | some t=>
  obtain⟨rl,c,hT⟩:=hT;refine .inr ⟨rl,c,t,hT,λx r ml pl H1 kp Xc hx XX=>?_⟩;rcases XX with ⟨h0,hc⟩|⟨rfl,s,ms,e1,hs,XX,hM,hc⟩
  .exact bad x r ml pl H1 h0 (eK.kp kp) ⟨rl,c,Xc⟩ hx (by show encode (looked t k)=_;rw[hk,hc];rfl)
  .exact good rl c t x ml pl H1 s ms rfl e1 hs XX hM (eK.kp kp) Xc hx (by show encode (looked t k)=_;rw[hk,hc])
def VW(a:dj):Sp:=λvs H Q _=>∃p o,vs=[.ref p]/\Tl a H p o/\ui a H p o Q (iI o .shown)
theorem Bz:iA P w base T.qx mg 2 (VW a):=by
 specialize T.qx.fn.okN ["self"];obtain⟨p,o,rfl,hT,q⟩:=h;refine⟨_,(ad (de (we (F0 (da (pv 0)))) (am (bi (dw (dq (dA T.Ky))))) cZ) (am (bi (df T.gC (pk T) hr ci (dq (da (da (da (pv 0))))))))),?_⟩;cases o with
 | none=>
  obtain⟨dx,hp⟩:=id hT;left;refine' eU ?_;exact ret [-1] q rfl (eK.same (bn.refl _)) hT (by decide)
 | some t=>
  obtain⟨rl,c,hT⟩:=hT;obtain⟨dx,XL,pp,XG,pt,pw,Xi,Xk,fm,ps,hp,hc,e1,e2,hE,e3,Xr⟩:=hT.open;have hl:=hT.wf.shown;left;refine' cX (λz=>absurd z (by simp)) (λ_=>?_);rw[mx] at e3;refine⟨fm,_,rfl,e3,by rw[af];lia,λl4 H4 s4 _ h4=>?_⟩;have e:iI (some t) .shown=((((t.shown.map λc=>(c.toNat:Int)).length:Nat):Int)::t.shown.map λc=>(c.toNat:Int)):=z8 t.shown;exact q l4 H4 (eK.same s4) ⟨rl,c,hT.same s4⟩ (by rw[e];exact h4) (by rw[e,az,af];lia)
def VX(a:dj):Sp:=λvs H Q _=>∃p o i j,vs=[.ref p,.int i,.int j]/\Tl a H p o/\ui a H p o Q (iI o (.size i j))
theorem Kt{t:cW}{s:Nat}{j:Int}(h:¬(0<=j/\j<((t.branches s).length:Nat))):((index j (t.branches s).length).bind λk=>(t.branches s)[k]?)=none:=by
 unfold index;rw[aa h];rfl
theorem Ku{t:cW}{s:Nat}{j:Int}(h:0<=j/\j<((t.branches s).length:Nat)):∃k b,j=((k:Nat):Int)/\(t.branches s)[k]?=some b/\((index j (t.branches s).length).bind λk=>(t.branches s)[k]?)=some b:=by
 obtain⟨k,rfl⟩:=qd h.1;have hk:k<(t.branches s).length:=by lia
 refine⟨k,(t.branches s)[k],rfl,aR hk,?_⟩;unfold index;rw[ae h];show(t.branches s)[((k:Nat):Int).toNat]?=_;rw[bM];exact aR hk
theorem QX{t:cW}{i j:Int}(h:¬(0<=i/\i<(t.states.length:Nat))):looked t (.size i j)=refused (-2):=by
 have e:index i t.states.length=none:=aa h
 show(match ((index i t.states.length).bind λs=>(index j (t.branches s).length).bind λk=>(t.branches s)[k]?) with
  | some b=>if MOST<=rangesSize b.ranges then refused (-3) else number (rangesSize b.ranges)
  | none=>refused (-2))=_
 rw[e];rfl
theorem QY(h:s<t.states.length):looked t (.size (s:Nat) j)=match (index j (t.branches s).length).bind λk=>(t.branches s)[k]? with
  | some b=>if MOST<=rangesSize b.ranges then refused (-3) else number (rangesSize b.ranges)
  | none=>refused (-2):=by
 have e:index ((s:Nat):Int) t.states.length=some s:=by
  unfold index;rw[ae (by lia)];rfl
 show(match ((index ((s:Nat):Int) t.states.length).bind λs=>(index j (t.branches s).length).bind λk=>(t.branches s)[k]?) with
  | some b=>if MOST<=rangesSize b.ranges then refused (-3) else number (rangesSize b.ranges)
  | none=>refused (-2))=_
 rw[e];rfl
theorem CP:iA P w base T.sR mg 2 (VX a):=by
 specialize T.sR.fn.okN ["self","i","j","refusal","many"];obtain⟨p,o,i,j,rfl,hT,q⟩:=h;refine⟨_,(ad (dz 3 nd (dh (pv 0) T.dZ T.gd (gQ T) hr ci (dq (pv 1)))) (ad (de (jw (pv 3) (dA T.eO)) (am (bi (dw (dq (pv 3))))) cZ) (ad (de (j6 (gm (dh (pv 0) T.dZ T.ji (my T) hr ci (dg (pv 1) (pv 2))))) (am (bi (dw (dq (dA T.rC))))) cZ) (ad (dz 4 nd (da (dh (pv 0) T.dZ T.lz (qh T) hr ci (dg (pv 1) (pv 2))))) (ad (de (yP (pv 4) (da (da (pv 0)))) (am (bi (dw (dq (dA T.EK))))) cZ) (am (bi (dw (dq (pv 4)))))))))),?_⟩;have k0:eK H H:=eK.same (bn.refl _);cases o with
 | none=>
  obtain⟨dx,hp⟩:=id hT;left;refine'⟨p,i,rfl,.inl ⟨hT,?_⟩⟩;refine' gR (by decide) ?_;exact ret [-1] q rfl k0 hT (by decide)
 | some t=>
  obtain⟨rl,c,hT⟩:=hT;obtain⟨dx,hp⟩:=hT.1;have aan:Tl a H p (some t):=⟨rl,c,hT⟩;left;refine'⟨p,i,rfl,.inr ⟨rl,c,t,hT,?_⟩⟩;refine uW (λh0=>?_) (λh0=>?_)
  .have hi:¬(0<=i/\i<(t.states.length:Nat)):=λz=>h0 (ae z);have e:ny t i=-2:=aa hi;rw[e];left;exact ret [-2] q (by show encode (looked t _)=_;rw[QX hi];rfl) k0 aan (by decide)
  .have hi:0<=i/\i<(t.states.length:Nat):=by
    apply bG;intro z;have e:ny t i=-2:=aa z;rw[e] at h0;cases h0
   obtain⟨sN,rfl⟩:=qd hi.1;have hs:sN<t.states.length:=by lia
   have el:iI (some t) (.size (sN:Nat) j)=encode (looked t (.size (sN:Nat) j)):=rfl;rw[QY hs] at el;left;refine'⟨rl,p,c,t,sN,j,rfl,hT,hs,?_⟩;by_cases hj:0<=j/\j<((t.branches sN).length:Nat)
   .obtain⟨kN,b,rfl,hb,eb⟩:=Ku hj;rw[eb] at el;dsimp only at el;refine' cX (λz=>absurd z (by simp;lia)) (λ_=>?_);refine⟨rl,p,c,t,sN,kN,b,rfl,hT,hs,hb,λpb Xs=>?_⟩;obtain⟨Yj,pl,ps,ph,pt,ho,_⟩:=gT Xs;obtain⟨XL,_,_,hc,_⟩:=id hT.2;unfold kW at hc;left;by_cases hM:MOST<=rangesSize b.ranges
    .rw[ae hM] at el;refine' cX (λ_=>?_) (λz=>absurd (ao (bx.mpr hM)) z);exact ret [-3] q (by rw[el];rfl) k0 aan (by decide)
    .rw[aa hM] at el;refine' cX (λz=>absurd (bx.mp (ai z)) hM) (λ_=>?_);exact ret [(rangesSize b.ranges:Nat)] q (by rw[el];rfl) k0 aan (by simp)
   .rw[Kt hj] at el;refine' cX (λ_=>?_) (λz=>absurd (by simp;lia) z);exact ret [-2] q (by rw[el];rfl) k0 aan (by decide)
def VY(a:dj):Sp:=λvs H Q _=>∃p o i n,vs=[.ref p,.int i,.int n]/\Tl a H p o/\ui a H p o Q (iI o (.total i n))
theorem BA:iA P w base T.qy mg 5 (VY a):=by
 specialize T.qy.fn.okN ["self","i","n","refusal"];obtain⟨p,o,i,n,rfl,hT,q⟩:=h;refine⟨_,(ad (dz 3 nd (dh (pv 0) T.dZ T.fj (fV T) hr ci (dg (pv 1) (pv 2)))) (ad (de (jw (pv 3) (dA T.eO)) (am (bi (dw (dq (pv 3))))) cZ) (am (bi (dw (dq (dh (da (pv 0)) T.iU T.fY (fO T) hr ci (dg (pv 1) (pv 2))))))))),?_⟩;obtain⟨dx,v,hp⟩:=hT.obj;left;refine xp (k:=.total i n) (f:=λt s m=>number (Vasesq.total t m s)) hT (λt=>rfl) (λr H1 h0 k1 Xc e=>?_) (λrl c t H1 s m eo ei en hs hm hM k1 Xc e=>?_)
 .left;refine' gR h0 ?_;exact ret [r] q e k1 Xc (by simp)
 .subst eo ei en;left;refine ls rfl ?_;obtain⟨Xq,Xh⟩:=Xc.1;obtain⟨XL,_,_,hc,_⟩:=id Xc.2;unfold kW at hc;left;refine'⟨rl,c,t,s,m,rfl,Xc.2,hs,hm,λH2 kp XE=>?_⟩;exact ret [(eD t m s:Nat)] q (by rw[e,ka];rfl) (k1.trans (eK.kp kp)) ⟨rl,c,Xc.kp kp XE⟩ (by simp)
end
section
open Vasesq (Msg readCourse firstWrong rangesSize MOST showCourse courseAt Call Answer ofCourse counted refused index looked number numberBytes bytesNumber)
open VasesqNeutral (encode)
theorem xq:(match index r (Vasesq.total t n s) with
  | some r=>Vasesq.text (showCourse (courseAt t n s r))
  | none=>refused (-6))=kf t s n r:=by
 unfold kf;rw[ka]
 try rfl
theorem Ho:∀(f k n:Nat),Vasesq.widthOf f k n<=k+f
 | 0,k,n=>ah _
 | f+1,k,n=>by
  show(if n<=256^k then k else Vasesq.widthOf f (k+1) n)<=_;split
  .lia
  .have:=Ho f (k+1) n
   lia
def VZ(a:dj):Sp:=λvs H Q _=>∃p o i tx b,vs=[.ref p,.int i,.ref tx]/\Tl a H p o/\H tx=some (.lst (dc b))/\ui a H p o Q (iI o (.rank i b))
theorem CQ:iA P w base T.sP mg 13 (VZ a):=by
 specialize T.sP.fn.okN ["self","i","text","told"];obtain⟨p,o,i,tx,b,rfl,hT,ht,q⟩:=h;refine⟨_,(ad (dz 3 nd (dh (pv 0) T.dZ T.gB (io T) hr ci (dg (pv 1) (pv 2)))) (ad (de (jw (da (pv 3)) (dA T.eO)) (am (bi (dw (dq (da (pv 3)))))) cZ) (am (bi (dw (dq (dh (pv 0) T.dZ T.gz (gS T) hr ci (dg (pv 1) (pv 3))))))))),?_⟩;obtain⟨dx,v,hp⟩:=hT.obj;left;refine By (k:=.rank i b) (f:=λt s l=>number (Vasesq.rank t s l)) hT ht (λt=>rfl) (λx r ml pl H1 h0 k1 Xc ⟨Zo,hx⟩ e=>?_) (λrl c t x ml pl H1 s ms eo ei hs XX hM k1 Xc ⟨Zo,hx⟩ e=>?_)
 .left;refine' gR h0 ?_;exact ret [r] q e k1 Xc (by simp)
 .subst eo ei;obtain⟨Xq,Xh⟩:=Xc.1;left;refine' ls rfl ?_;refine'⟨rl,p,c,t,s,x,ml,pl,0,ms,rfl,Xc,hs,⟨Zo,hx⟩,XX,λH2 kp XC=>?_⟩;exact ret [(jB t s ms:Nat)] q (by rw[e,tI Xc.wf.lab];rfl) (k1.trans (eK.kp kp)) ⟨rl,c,XC⟩ (by simp)
def V0(a:dj):Sp:=λvs H Q _=>∃p o i n r,vs=[.ref p,.int i,.int n,.int r]/\Tl a H p o/\ui a H p o Q (iI o (.course i n r))
theorem z9:iA P w base T.oJ mg 8 (V0 a):=by
 specialize T.oJ.fn.okN ["self","i","n","r","refusal"];obtain⟨p,o,i,n,r,rfl,hT,q⟩:=h;refine⟨_,(ad (dz 4 nd (dh (pv 0) T.dZ T.fj (fV T) hr ci (dg (pv 1) (pv 2)))) (ad (de (jw (pv 4) (dA T.eO)) (am (bi (dw (dq (pv 4))))) cZ) (am (bi (dh (pv 0) T.dZ T.gO (iX T) hr ci (db (pv 1) (dg (pv 2) (pv 3)))))))),?_⟩;obtain⟨dx,v,hp⟩:=hT.obj;left;refine xp (k:=.course i n r) (f:=λt s n=>kf t s n r) hT (λt=>au (counted t i n) (funext λs=>funext λn=>xq)) (λr' H1 h0 k1 Xc e=>?_) (λrl c t H1 s m eo ei en hs hm hM k1 Xc e=>?_)
 .left;refine' gR h0 ?_;exact ret [r'] q e k1 Xc (by simp)
 .subst eo ei en;obtain⟨Xq,Xh⟩:=Xc.1;left;refine' ls rfl ?_;exact⟨rl,p,c,t,s,m,r,rfl,Xc,hs,hm,hM,λl H2 kp XC hl hz=>q l H2 (k1.trans (eK.kp kp)) ⟨rl,c,XC⟩ (by rw[e];exact hl) (by rw[e];exact hz)⟩
def V1(a:dj):Sp:=λvs H Q _=>∃p o i k tx b,vs=[.ref p,.int i,.int k,.ref tx]/\Tl a H p o/\H tx=some (.lst (dc b))/\ui a H p o Q (iI o (.later i k b))
theorem BB:iA P w base T.qA mg 13 (V1 a):=by
 specialize T.qA.fn.okN ["self","i","k","text","told"];obtain⟨p,o,i,k,tx,b,rfl,hT,ht,q⟩:=h;refine⟨_,(ad (dz 4 nd (dh (pv 0) T.dZ T.gB (io T) hr ci (dg (pv 1) (pv 3)))) (ad (de (jw (da (pv 4)) (dA T.eO)) (am (bi (dw (dq (da (pv 4)))))) cZ) (am (bi (dh (pv 0) T.dZ T.gO (iX T) hr ci (db (pv 1) (dg (fS T.d5 (da (pv 4))) (dF fw (dh (pv 0) T.dZ T.gz (gS T) hr ci (dg (pv 1) (pv 4))) (pv 2))))))))),?_⟩;obtain⟨dx,v,hp⟩:=hT.obj;left;refine By (k:=.later i k b) (f:=λt s l=>kf t s l.length ((Vasesq.rank t s l:Int)+k)) hT ht (λt=>au (ofCourse t i b) (funext λs=>funext λl=>xq)) (λx r ml pl H1 h0 k1 Xc ⟨Zo,hx⟩ e=>?_) (λrl c t x ml pl H1 s ms eo ei hs XX hM k1 Xc ⟨Zo,hx⟩ e=>?_)
 .left;refine' gR h0 ?_;exact ret [r] q e k1 Xc (by simp)
 .subst eo ei;obtain⟨Xq,Xh⟩:=Xc.1;obtain⟨Zx,YG,aco⟩:=id XX.msgs;rw[tI Xc.wf.lab] at e;left;refine' ls rfl ?_;rw[af,aco.len];refine'⟨rl,p,c,t,s,x,ml,pl,0,ms,rfl,Xc,hs,⟨Zo,hx⟩,XX,λH2 kp XC=>?_⟩;exact⟨rl,p,c,t,s,ms.length,_,rfl,XC,hs,XX.len,hM,λl H3 YH YC hl hz=>q l H3 (k1.trans (eK.kp (kp.trans YH))) ⟨rl,c,YC⟩ (by rw[e];exact hl) (by rw[e];exact hz)⟩
def V2(a:dj):Sp:=λvs H Q _=>∃p o i tx b ty d,vs=[.ref p,.int i,.ref tx,.ref ty]/\Tl a H p o/\H tx=some (.lst (dc b))/\H ty=some (.lst (dc d))/\ui a H p o Q (iI o (.compare i b d))
noncomputable def SW(t:cW)(s:Nat)(l:List Msg)(d:Bytes):Answer:=match readCourse d with
 | .error _=>refused (-7)
 | .ok m=>if(firstWrong t s 0 m).isSome=true then refused (-8) else if m.length≠l.length then refused (-9)
  else if Vasesq.rank t s l<Vasesq.rank t s m then number 1 else if Vasesq.rank t s l=Vasesq.rank t s m then number 2 else number 3
theorem yC:iA P w base T.mZ mg 13 (V2 a):=by
 specialize T.mZ.fn.okN ["self","i","first_text","second_text","first","second"];obtain⟨p,o,i,tx,b,ty,d,rfl,hT,ht,hy,q⟩:=h;refine⟨_,(ad (dz 4 nd (dh (pv 0) T.dZ T.gB (io T) hr ci (dg (pv 1) (pv 2)))) (ad (de (jw (da (pv 4)) (dA T.eO)) (am (bi (dw (dq (da (pv 4)))))) cZ) (ad (dz 5 nd (dh (pv 0) T.dZ T.j4 (oj T) hr ci (db (pv 1) (db (pv 3) (dg (dA T.Ar) (dA T.BR)))))) (ad (de (jw (da (pv 5)) (dA T.eO)) (am (bi (dw (dq (da (pv 5)))))) cZ) (ad (de (jw (fS T.d5 (da (pv 5))) (fS T.d5 (da (pv 4)))) (am (bi (dw (dq (dA T.Dz))))) cZ) (am (bi (dw (dq (df T.Ah (IV T) hr ci (dg (dh (pv 0) T.dZ T.gz (gS T) hr ci (dg (pv 1) (pv 4))) (dh (pv 0) T.dZ T.gz (gS T) hr ci (dg (pv 1) (pv 5)))))))))))))),?_⟩;obtain⟨dx,v,hp⟩:=hT.obj;left;refine By (k:=.compare i b d) (f:=λt s l=>SW t s l d) hT ht (λt=>rfl) (λx r ml pl H1 h0 k1 Xc ⟨Zo,hx⟩ e=>?_) (λrl c t x ml pl H1 s ms eo ei hs XX hM k1 Xc ⟨Zo,hx⟩ e=>?_)
 .left;refine' gR h0 ?_;exact ret [r] q e k1 Xc (by simp)
 .subst eo ei;obtain⟨Xq,Xh⟩:=Xc.1;left;refine' ls rfl ?_;refine⟨rl,p,c,t,s,ty,d,-7,-8,rfl,Xc,hs,Hn k1 hy,λx2 r2 ml2 abp H2 s2 ⟨XW,aaa⟩ way=>?_⟩;unfold P6 at way;unfold SW at e;have XC:=Xc.same s2;obtain⟨ae2,XQ⟩:=XC.1;have k2:=k1.trans (eK.same s2);have abK:=XX.keep (pd s2);have acg:=s2 _ _ hx;left;cases er:readCourse d with
  | error f=>
   rw[er] at way e;dsimp only at way e;subst way;refine' gR (by decide) ?_;exact ret [-7] q e k2 ⟨rl,c,XC⟩ (by simp)
  | ok m2=>
   rw[er] at way e;dsimp only at way e;by_cases hw:(firstWrong t s 0 m2).isSome=true
   .rw[ae hw] at way e;subst way;refine' gR (by decide) ?_;exact ret [-8] q e k2 ⟨rl,c,XC⟩ (by simp)
   .rw[aa hw] at way e;obtain⟨rfl,ae3⟩:=way;refine ls rfl ?_;obtain⟨Zx,YG,aco⟩:=id abK.msgs;obtain⟨mpsB,ai4,ag3⟩:=id ae3.msgs;left;rw[af,af,aco.len,ag3.len];by_cases hl:m2.length=ms.length
    .rw[aa (λz=>z hl),tI Xc.wf.lab,tI Xc.wf.lab] at e;refine' cX (λz=>absurd z (by simp[hl])) (λ_=>?_);refine⟨rl,p,c,t,s,x,ml,pl,0,ms,rfl,XC,hs,⟨Zo,acg⟩,abK,λH3 YH YC=>?_⟩;have ag4:=ae3.keep YH.keeps;obtain⟨aeq,acR⟩:=mW.keep YH.keeps ⟨XW,aaa⟩;obtain⟨dxp3,Yi⟩:=YC.1;left;refine'⟨rl,p,c,t,s,x2,ml2,abp,0,m2,rfl,YC,hs,⟨aeq,acR⟩,ag4,λH4 aeR hT4=>?_⟩;refine'⟨jB t s ms,jB t s m2,rfl,?_⟩;refine ret [_] q ?_ (k2.trans (eK.kp (YH.trans aeR))) ⟨rl,c,hT4⟩ (by simp);rw[e];split
     .rfl
     .split<;>rfl
    .rw[ae hl] at e;refine' cX (λ_=>?_) (λz=>absurd (by simp;lia) z);exact ret [-9] q e k2 ⟨rl,c,XC⟩ (by simp)
def V3(a:dj):Sp:=λvs H Q _=>∃p o i n j,vs=[.ref p,.int i,.int n,.int j]/\Tl a H p o/\ui a H p o Q (iI o (.share i n j))
noncomputable def xr(t:cW)(s n:Nat)(j:Int):Answer:=match (index j (t.branches s).length).bind λk=>(t.branches s)[k]? with
 | none=>refused (-2)
 | some b=>match n with
  | 0=>refused (-6)
  | n+1=>number (rangesSize b.ranges*Vasesq.total t n b.to)
theorem O3:(match (index j (t.branches s).length).bind λk=>(t.branches s)[k]?,n with
  | none,_=>refused (-2)
  | some _,0=>refused (-6)
  | some b,n+1=>number (rangesSize b.ranges*Vasesq.total t n b.to))=xr t s n j:=by
 unfold xr;cases (index j (t.branches s).length).bind λk=>(t.branches s)[k]? with
 | none=>rfl
 | some b=>cases n<;>rfl
theorem BC:iA P w base T.qt mg 5 (V3 a):=by
 specialize T.qt.fn.okN ["self","i","n","j","refusal"];obtain⟨p,o,i,n,j,rfl,hT,q⟩:=h;refine⟨_,(ad (dz 4 nd (dh (pv 0) T.dZ T.fj (fV T) hr ci (dg (pv 1) (pv 2)))) (ad (de (jw (pv 4) (dA T.eO)) (am (bi (dw (dq (pv 4))))) cZ) (ad (de (j6 (gm (dh (pv 0) T.dZ T.ji (my T) hr ci (dg (pv 1) (pv 3))))) (am (bi (dw (dq (dA T.rC))))) cZ) (ad (de (fM (pv 2) (cr)) (am (bi (dw (dq (dA T.C4))))) cZ) (am (bi (dw (dq (dh (da (pv 0)) T.iU T.iC (jF T) hr ci (dg (dh (pv 0) T.dZ T.lz (qh T) hr ci (dg (pv 1) (pv 3))) (dF i0 (pv 2) (cr)))))))))))),?_⟩;obtain⟨dx,v,hp⟩:=hT.obj;left;refine xp (k:=.share i n j) (f:=λt s n=>xr t s n j) hT (λt=>au (counted t i n) (funext λs=>funext λn=>O3)) (λr H1 h0 k1 Xc e=>?_) (λrl c t H1 s m eo ei en hs hm hM k1 Xc e=>?_)
 .left;refine' gR h0 ?_;exact ret [r] q e k1 Xc (by simp)
 .subst eo ei en;obtain⟨Xq,Xh⟩:=Xc.1;have ae4:Tl a H1 p (some t):=⟨rl,c,Xc⟩;left;refine' ls rfl ?_;refine'⟨rl,p,c,t,s,j,rfl,Xc,hs,?_⟩;by_cases hj:0<=j/\j<((t.branches s).length:Nat)
  .obtain⟨kN,b,rfl,hb,eb⟩:=Ku hj;unfold xr at e;rw[eb] at e;dsimp only at e;refine' cX (λz=>absurd z (by simp;lia)) (λ_=>?_);cases m with
   | zero=>
    refine' cX (λ_=>?_) (λz=>absurd (by simp) z);exact ret [-6] q e k1 ae4 (by simp)
   | succ m=>
    refine cX (λz=>absurd (ai z) (by intro z;injection z with z;lia)) (λ_=>?_);obtain⟨XL,_,_,hc,_⟩:=id Xc.2;unfold kW at hc;left;refine'⟨rl,p,c,t,s,kN,b,rfl,Xc,hs,hb,λpb Xs=>?_⟩;refine'⟨rl,c,t,pb,b,m,by(show [V.ref c,V.ref pb,V.int (((m+1:Nat):Int)-1)]=_;rw[show((m+1:Nat):Int)-1=(m:Nat) by lia]),Xc.2,Xs,Xc.wf.br s b (aJ hb),by lia,λH2 kp XE=>?_⟩;exact ret [(gG t m b:Nat)] q (by rw[e];unfold gG;rw[←ka];rfl) (k1.trans (eK.kp kp)) ⟨rl,c,Xc.kp kp XE⟩ (by simp)
  .unfold xr at e;rw[Kt hj] at e;refine' cX (λ_=>?_) (λz=>absurd (by simp;lia) z);exact ret [-2] q e k1 ae4 (by simp)
def V4(a:dj):Sp:=λvs H Q _=>∃p o i n,vs=[.ref p,.int i,.int n]/\Tl a H p o/\ui a H p o Q (iI o (.width i n))
theorem BD:iA P w base T.qu mg 5 (V4 a):=by
 specialize T.qu.fn.okN ["self","i","n","refusal","total"];obtain⟨p,o,i,n,rfl,hT,q⟩:=h;refine⟨_,(ad (dz 3 nd (dh (pv 0) T.dZ T.fj (fV T) hr ci (dg (pv 1) (pv 2)))) (ad (de (jw (pv 3) (dA T.eO)) (am (bi (dw (dq (pv 3))))) cZ) (ad (dz 4 nd (dh (da (pv 0)) T.iU T.fY (fO T) hr ci (dg (pv 1) (pv 2)))) (ad (de (fM (pv 4) (cr)) (am (bi (dw (dq (dA T.C4))))) cZ) (am (bi (dw (dq (df T.qp (sk T) hr ci (dq (pv 4))))))))))),?_⟩;obtain⟨dx,v,hp⟩:=hT.obj;left;refine xp (k:=.width i n) (f:=λt s m=>if Vasesq.total t m s=0 then refused (-6) else number (Vasesq.widthAt t m s)) hT (λt=>rfl) (λr H1 h0 k1 Xc e=>?_) (λrl c t H1 s m eo ei en hs hm hM k1 Xc e=>?_)
 .left;refine' gR h0 ?_;exact ret [r] q e k1 Xc (by simp)
 .subst eo ei en;obtain⟨Xq,Xh⟩:=Xc.1;obtain⟨XL,_,_,hc,_⟩:=id Xc.2;unfold kW at hc;unfold Vasesq.widthAt at e;rw[ka] at e;left;refine' ls rfl ?_;refine⟨rl,c,t,s,m,rfl,Xc.2,hs,hm,λH2 kp XE=>?_⟩;have k2:=k1.trans (eK.kp kp);have XC:Tl a H2 p (some t):=⟨rl,c,Xc.kp kp XE⟩;left;by_cases h0:eD t m s=0
  .rw[ae h0] at e;refine' cX (λ_=>?_) (λz=>absurd (by simp[h0]) z);exact ret [-6] q e k2 XC (by simp)
  .rw[aa h0] at e;refine' cX (λz=>absurd (ai z) (by intro z;injection z with z;lia)) (λ_=>?_);refine'⟨eD t m s,rfl,hM,?_⟩;exact ret [(Vasesq.widthOf 420 0 (eD t m s):Nat)] q e k2 XC (by simp)
def V5(a:dj):Sp:=λvs H Q _=>∃p o i tx b,vs=[.ref p,.int i,.ref tx]/\Tl a H p o/\H tx=some (.lst (dc b))/\ui a H p o Q (iI o (.pack i b))
theorem CS:iA P w base T.sU mg 13 (V5 a):=by
 specialize T.sU.fn.okN ["self","i","text","told","width"];obtain⟨p,o,i,tx,b,rfl,hT,ht,q⟩:=h;refine⟨_,(ad (dz 3 nd (dh (pv 0) T.dZ T.gB (io T) hr ci (dg (pv 1) (pv 2)))) (ad (de (jw (da (pv 3)) (dA T.eO)) (am (bi (dw (dq (da (pv 3)))))) cZ) (ad (dz 4 nd (df T.qp (sk T) hr ci (dq (dh (da (pv 0)) T.iU T.fY (fO T) hr ci (dg (pv 1) (fS T.d5 (da (pv 3)))))))) (am (bi (df T.gC (pk T) hr ci (dq (df T.lC (qe T) hr ci (dg (dh (pv 0) T.dZ T.gz (gS T) hr ci (dg (pv 1) (pv 3))) (pv 4)))))))))),?_⟩;obtain⟨dx,v,hp⟩:=hT.obj;left;refine By (k:=.pack i b) (f:=λt s l=>Vasesq.text (numberBytes (Vasesq.widthAt t l.length s) (Vasesq.rank t s l))) hT ht (λt=>rfl) (λx r ml pl H1 h0 k1 Xc ⟨Zo,hx⟩ e=>?_) (λrl c t x ml pl H1 s ms eo ei hs XX hM k1 Xc ⟨Zo,hx⟩ e=>?_)
 .left;refine' gR h0 ?_;exact ret [r] q e k1 Xc (by simp)
 .subst eo ei;obtain⟨Xq,Xh⟩:=Xc.1;obtain⟨Zx,YG,aco⟩:=id XX.msgs;obtain⟨XL,_,_,hc,_⟩:=id Xc.2;unfold kW at hc;unfold Vasesq.widthAt at e;rw[ka,tI Xc.wf.lab,z8] at e;left;refine' ls rfl ?_;rw[af,aco.len];refine⟨rl,c,t,s,ms.length,rfl,Xc.2,hs,XX.len,λH2 kp XE=>?_⟩;have XC:=Xc.kp kp XE;obtain⟨ae2,XQ⟩:=XC.1;have abK:=XX.keep kp.keeps;obtain⟨XW,aaa⟩:=mW.keep kp.keeps ⟨Zo,hx⟩;left;refine'⟨eD t ms.length s,rfl,hM,?_⟩;refine⟨rl,p,c,t,s,x,ml,pl,0,ms,rfl,XC,hs,⟨XW,aaa⟩,abK,λH3 YH YC=>?_⟩;have wle:=Ho 420 0 (eD t ms.length s);left;refine⟨jB t s ms,_,rfl,by lia,λl4 H4 Zl s4 h4=>?_⟩;have bl:=jX (Vasesq.widthOf 420 0 (eD t ms.length s)) (jB t s ms);rw[mx] at h4;left;refine⟨l4,_,rfl,h4,by rw[af];lia,λl5 H5 s5 _ h5=>?_⟩;have agj:=s4.trans s5;exact q l5 H5 (k1.trans (eK.kp ((kp.trans YH).thenS agj))) ⟨rl,c,YC.same agj⟩ (by rw[e];exact h5) (by rw[e,az,af];lia)
def V6(a:dj):Sp:=λvs H Q _=>∃p o i n tx b,vs=[.ref p,.int i,.int n,.ref tx]/\Tl a H p o/\H tx=some (.lst (dc b))/\b.length<=9000/\ui a H p o Q (iI o (.unpack i n b))
theorem Aa:iA P w base T.oG mg 8 (V6 a):=by
 specialize T.oG.fn.okN ["self","i","n","packed","refusal"];obtain⟨p,o,i,n,tx,b,rfl,hT,ht,hb,q⟩:=h;refine⟨_,(ad (dz 4 nd (dh (pv 0) T.dZ T.fj (fV T) hr ci (dg (pv 1) (pv 2)))) (ad (de (jw (pv 4) (dA T.eO)) (am (bi (dw (dq (pv 4))))) cZ) (ad (de (jw (fS T.d5 (pv 3)) (df T.qp (sk T) hr ci (dq (dh (da (pv 0)) T.iU T.fY (fO T) hr ci (dg (pv 1) (pv 2)))))) (am (bi (dw (dq (dA T.FC))))) cZ) (am (bi (dh (pv 0) T.dZ T.gO (iX T) hr ci (db (pv 1) (dg (pv 2) (df T.ip (xf T) hr ci (dq (pv 3))))))))))),?_⟩;obtain⟨dx,v,hp⟩:=hT.obj;left;refine xp (k:=.unpack i n b) (f:=λt s n=>if b.length≠Vasesq.widthAt t n s then refused (-7) else kf t s n (bytesNumber b:Nat)) hT (λt=>au (counted t i n) (funext λs=>funext λn=>au (λx=>if b.length≠Vasesq.widthAt t n s then refused (-7) else x) xq)) (λr H1 h0 k1 Xc e=>?_) (λrl c t H1 s m eo ei en hs hm hM k1 Xc e=>?_)
 .left;refine' gR h0 ?_;exact ret [r] q e k1 Xc (by simp)
 .subst eo ei en;obtain⟨Xq,Xh⟩:=Xc.1;obtain⟨XL,_,_,hc,_⟩:=id Xc.2;unfold kW at hc;have Ys:=Hn k1 ht;unfold Vasesq.widthAt at e;rw[ka] at e;left;refine' ls rfl ?_;refine⟨rl,c,t,s,m,rfl,Xc.2,hs,hm,λH2 kp XE=>?_⟩;have k2:=k1.trans (eK.kp kp);have XC:=Xc.kp kp XE;have YK:=Hn (eK.kp kp) Ys;obtain⟨ae2,XQ⟩:=XC.1;left;refine'⟨eD t m s,rfl,hM,?_⟩;rw[dD];by_cases hw:b.length=Vasesq.widthOf 420 0 (eD t m s)
  .rw[aa (λz=>z hw)] at e;refine' cX (λz=>absurd z (by simp[hw])) (λ_=>?_);refine'⟨tx,b,rfl,YK,hb,?_⟩;exact⟨rl,p,c,t,s,m,_,rfl,XC,hs,hm,hM,λl H3 YH YC hl hz=>q l H3 (k2.trans (eK.kp YH)) ⟨rl,c,YC⟩ (by rw[e];exact hl) (by rw[e];exact hz)⟩
  .rw[ae hw] at e;refine' cX (λ_=>?_) (λz=>absurd (by simp;lia) z);exact ret [-7] q e k2 ⟨rl,c,XC⟩ (by simp)
end
section
open Vasesq (Msg readCourse firstWrong rangesSize MOST showCourse courseAt Call Answer ofCourse counted refused index looked number numberBytes bytesNumber faulty)
open VasesqNeutral (encode)
theorem BE{n i:Nat}{H1:Hp}{dx x:cS}{xs:Array Value}{f:Fault}{Q:VK}(h1:H1 dx=some (XA dx [("code",.int f.code),("place",.int f.place)]))(hn:dx≠x)(hx:H1 x=none)(hi:i<n)(k:∀l H',bn H1 H'->H' l=some (.lst [.int 0,.int f.code,.int f.place])->Q (.ref l) H'):F6 (fF (tC (.int 0)) (fF (K1 a.du (gD i) "code") (fF (K1 a.du (gD i) "place") gv))) ((mO n).set i (some (.ref x))) (upd H1 x (XO x a.du (some dx) xs)) Q:=by
 have hv:((mO n).set i (some (V.ref x)))[i]?=some (some (V.ref x)):=by
  rw[cz];unfold mO;rw[List.length_replicate];exact hi
 have e1:upd H1 x (XO x a.du (some dx) xs) x=some (XO x a.du (some dx) xs):=bv;have e2:upd H1 x (XO x a.du (some dx) xs) dx=some (XA dx [("code",.int f.code),("place",.int f.place)]):=by rw[ap hn];exact h1
 have s1:bn H1 (upd H1 x (XO x a.du (some dx) xs)):=bn.upd hx;generalize upd H1 x (XO x a.du (some dx) xs)=H2 at e1 e2 s1;refine⟨V.ref x,hv,x,dx,xs,_,_,rfl,e1,e2,rfl,V.ref x,hv,x,dx,xs,_,_,rfl,e1,e2,rfl,?_⟩;exact⟨by(show 3<=sizeLine;decide),λq hq=>k q _ (s1.trans (bn.upd hq)) bv⟩
def V7(a:dj):Sp:=λvs H Q _=>∃p o i tx b,vs=[.ref p,.int i,.ref tx]/\Tl a H p o/\H tx=some (.lst (dc b))/\ui a H p o Q (iI o (.goes i b))
theorem QZ{t:cW}{i:Int}{b:Bytes}(h:¬(0<=i/\i<(t.states.length:Nat))):looked t (.goes i b)=refused (-2):=by
 show Vasesq.goesAnswer t i b=_;unfold Vasesq.goesAnswer index;rw[aa h]
theorem Q0(h:s<t.states.length):looked t (.goes (s:Nat) b)=match readCourse b with
  | .error f=>faulty f
  | .ok l=>match firstWrong t s 0 l with
   | some x=>{value:=2,rest:=[(x.1:Int),(x.2:Int)]}
   | none=>{value:=1,rest:=[(l.length:Int),(l.foldl (λq m=>Vasesq.target t q m) s:Nat)]}:=by
 show Vasesq.goesAnswer t (s:Nat) b=_;unfold Vasesq.goesAnswer index;rw[ae (by lia)];rfl
theorem NI(wf:qa t):∀{ms:List Msg} {s:Nat},s<t.states.length->j3 s (fh t s ms)<t.states.length
 | [],s,h=>h
 | m::r,s,h=>by
  by_cases h0:Vasesq.wrongAt t s m=0
  .obtain⟨b,hf,_⟩:=pi h0;rw[rp h0 hf,Bs];exact NI wf (wf.br s b (uJ hf).1).to_
  .rw[rq h0];exact h
theorem CT:iA P w base T.sS mg 11 (V7 a):=by
 specialize T.sS.fn.okN ["self","i","text","refusal","messages","fault","part","path","end"];obtain⟨p,o,i,tx,b,rfl,hT,ht,q⟩:=h;refine⟨_,(ad (dz 3 nd (dh (pv 0) T.dZ T.gd (gQ T) hr ci (dq (pv 1)))) (ad (de (jw (pv 3) (dA T.eO)) (am (bi (dw (dq (pv 3))))) cZ) (ad (Gq (i:=5) (tb:=(λE=>zN (ma (ST a) [] E (fF (gD 2) gv)) (jU 4))) T.dL rfl T.fL rfl rfl rfl nd rfl rfl (λpins D=>have th:=AU;(am (dz 4 nd (df T.nE (uh T) hr (th.passes rfl) (dq (pv 2)))))) (λpins x=>(am (bi (dw (db (cr) (dg (yg T.dL (by decide) (pv 5)) (yg T.dL (by decide) (pv 5))))))))) (ad (dz 6 nd (da (da (pv 0)))) (ad (dz 7 nd (df T.yA (Bt T) hr ci (db (pv 6) (dg (pv 1) (pv 4))))) (ad (dz 8 nd (df T.HP (NC T) hr ci (dg (pv 1) (pv 7)))) (ad (de (jW (fS T.d5 (pv 7)) (fS T.d5 (pv 4))) (am (bi (dw (db (cr) (dg (fS T.d5 (pv 7)) (df T.pC (vU T) hr ci (dg (eF (da (pv 6)) (pv 8)) (eF (pv 4) (fS T.d5 (pv 7)))))))))) cZ) (am (bi (dw (db (cr) (dg (fS T.d5 (pv 4)) (pv 8))))))))))))),?_⟩;have k0:eK H H:=eK.same (bn.refl _);cases o with
 | none=>
  obtain⟨dx,hp⟩:=id hT;left;refine'⟨p,i,rfl,.inl ⟨hT,?_⟩⟩;refine' gR (by decide) ?_;exact ret [-1] q rfl k0 hT (by decide)
 | some t=>
  obtain⟨rl,c,hT⟩:=hT;obtain⟨dx,hp⟩:=hT.1;have aan:Tl a H p (some t):=⟨rl,c,hT⟩;left;refine'⟨p,i,rfl,.inr ⟨rl,c,t,hT,?_⟩⟩;refine uW (λh0=>?_) (λh0=>?_)
  .have hi:¬(0<=i/\i<(t.states.length:Nat)):=λz=>h0 (ae z);have e:ny t i=-2:=aa hi;rw[e];left;exact ret [-2] q (by show encode (looked t _)=_;rw[QZ hi];rfl) k0 aan (by decide)
  .have hi:0<=i/\i<(t.states.length:Nat):=by
    apply bG;intro z;have e:ny t i=-2:=aa z;rw[e] at h0;cases h0
   obtain⟨sN,rfl⟩:=qd hi.1;have hs:sN<t.states.length:=by lia
   have el:iI (some t) (.goes (sN:Nat) b)=encode (looked t (.goes (sN:Nat) b)):=rfl;rw[Q0 hs] at el;left;refine' Ka ?_;refine⟨tx,b,rfl,ht,?_⟩;cases er:readCourse b with
   | error f=>
    rw[er] at el;dsimp only at el ⊢;intro Xq H1 b1 XR;refine⟨Xq,rfl,λx xs hx adj=>?_⟩;have s1:bn H H1:=λc' o e=>b1 c' o e (λz=>z);refine FT ?_;refine BE XR adj hx (by show 5<9;decide) λl H' s' hl=>?_;exact q l H' (eK.same (s1.trans s')) ⟨rl,c,hT.same (s1.trans s')⟩ (by rw[el];exact hl) (by rw[el];show 3<=20001;decide)
   | ok ms=>
    rw[er] at el;dsimp only at el ⊢;intro ml H1 s1 Y3 ack;have Xc:=hT.same s1;obtain⟨Xq,XL,pp,XG,pt,pw,Xi,Xk,fm,ps,Xh,hc,e1,e2,hE,e3,Xr⟩:=Xc.open;left;refine⟨pp,t,sN,ml,ms,rfl,Xr,hs,Y3,ack,λpl H2 s2 Xj=>?_⟩;have abJ:=IsList.same hX.mono s2 Y3;obtain⟨Zx,YG,hM⟩:=id abJ;obtain⟨pps,ag2,acm⟩:=id Xj;have ae5:=s1.trans s2;left;refine'⟨sN,pl,_,rfl,Xj,?_⟩;rw[af,af,hM.len,acm.len];rcases sw (t:=t) ms sN 0 with ⟨w1,w2,w3⟩|⟨m,w1,w2⟩
    .rw[w2] at el;dsimp only at el;rw[w3] at el;refine' cX (λz=>absurd (ai z) (by lia)) (λ_=>?_);rw[af,hM.len];exact ret [1,(ms.length:Nat),(j3 sN (fh t sN ms):Nat)] q (by rw[el];rfl) (eK.same ae5) ⟨rl,c,hT.same ae5⟩ (by simp)
    .rw[w2] at el;dsimp only at el;have Xg:=(ax.mp w1).1;refine cX (λ_=>?_) (λz=>absurd (ao (aY.mpr Xg)) z);have aaF:=NI hT.wf (ms:=ms) hs;obtain⟨pe,hpe,Xf⟩:=hE.get (aR aaF);obtain⟨pm,acj,Zm⟩:=hM.get w1;have af9:=s2 _ _ e1;have ace:=s2 _ _ e2;left;rw[af,acm.len];refine' eg ace rfl (by rw[ak,hpe];rfl) ?_;rw[af,acm.len];refine' eg YG rfl (by rw[ak,acj];rfl) ?_;refine⟨pe,pm,_,m,rfl,mU.mono _ _ _ _ s2 Xf,λb' Y9=>(hT.wf.br (j3 sN (fh t sN ms)) b' (by rw[je aaF];exact Y9)).hl,Zm,λH3 s3=>?_⟩;have ZX:=ae5.trans s3;left;have ew:Br (t.states[j3 sN (fh t sN ms)]).2.branches m=Vasesq.wrongAt t (j3 sN (fh t sN ms)) m:=(by rw[←je aaF];rfl);rw[ew];refine ret [2,((fh t sN ms).length:Nat),(Vasesq.wrongAt t (j3 sN (fh t sN ms)) m:Nat)] q ?_ (eK.same ZX) ⟨rl,c,hT.same ZX⟩ (by simp);rw[el,Nat.zero_add];rfl
theorem LJ(e:G p=some (.ins C dx fs))(h1:fs.length=1):jE G (upd G p o):=by
 have ne:∀{b:cS} {u:HO},G b=some u->(∀C dx fs,u=.ins C dx fs->fs.length≠1)->upd G p o b=some u:=λ{b u} eb hu=>by
  rw[ap (λz=>?_)]
  .exact eb
  .rw[z,e] at eb;cases eb;exact hu _ _ _ rfl h1
 exact⟨λb C dx fs eb h=>ne eb (λC' Yf YI z=>by cases z;have:=h.2;lia),λb xs eb=>ne eb (λ_ _ _ z=>by cases z),λb ps eb _=>ne eb (λ_ _ _ z=>by cases z),λb x xs eb _=>ne eb (λ_ _ _ z=>by cases z)⟩
noncomputable def BF(o:Option cW)(b:Bytes):Option cW:=match Vasesd.read b with
 | .ok t=>some t
 | .error _=>o
noncomputable def uj(b:Bytes):List Int:=match Vasesd.read b with
 | .ok _=>[1]
 | .error f=>[0,(f.code:Int),(f.place:Int)]
def V8(a:dj):Sp:=λvs H Q _=>∃p o tx b,vs=[.ref p,.ref tx]/\Tl a H p o/\H tx=some (.lst (dc b))/\∀l H',eK H H'->Tl a H' p (BF o b)->H' l=some (.lst ((uj b).map V.int))->(uj b).length<=20001->Q (.ref l) H'
theorem CU:iA P w base T.sW mg 15 (V8 a):=by
 specialize T.sW.fn.okN ["self","text","part","fault"];obtain⟨p,o,tx,b,rfl,hT,ht,q⟩:=h;refine⟨_,(ad (Gq (i:=3) (tb:=(λE=>zN (ma (SH a) [] E (fF (gD 1) gv)) (jU 2))) T.dL rfl T.fL rfl rfl rfl nd rfl rfl (λpins D=>have th:=AU;(am (dz 2 nd (df T.DO (LC T) hr (th.passes rfl) (dq (pv 1)))))) (λpins x=>(am (bi (dw (db (cr) (dg (yg T.dL (by decide) (pv 3)) (yg T.dL (by decide) (pv 3))))))))) (ad (fR (pv 0) (fQ T.iU T.sB (CL T) hr ci (dq (pv 2)))) (am (bi (dw (dq (cr))))))),?_⟩;unfold BF uj at q;left;refine' Ka ?_;refine⟨tx,b,rfl,ht,?_⟩;cases er:Vasesd.read b with
 | error f=>
  rw[er] at q;dsimp only at q ⊢;intro Xq H1 b1 XR;refine⟨Xq,rfl,λx xs hx adj=>?_⟩;have s1:bn H H1:=λc' o e=>b1 c' o e (λz=>z);refine FT ?_;refine BE XR adj hx (by show 3<4;decide) λl H' s' hl=>?_;exact q l H' (eK.same (s1.trans s')) (hT.same (s1.trans s')) hl (by show 3<=20001;decide)
 | ok t=>
  rw[er] at q;dsimp only at q ⊢;intro pp H1 s1 Xr;obtain⟨dx,v,hp⟩:=(hT.same s1).obj;left;intro x XL nx ab7 ne;have abU:(upd (upd H1 XL (.own x)) x (.ins a.fi XL [])) x=some (.ins a.fi XL []):=bv;have Yb:bn H1 (upd (upd H1 XL (.own x)) x (.ins a.fi XL [])):=bn.make nx ab7 rfl;generalize upd (upd H1 XL (.own x)) x (.ins a.fi XL [])=H2 at abU Yb;refine⟨x,XL,pp,t,rfl,abU,zz Yb Xr,λrl H3 k3 Xy=>⟨rfl,?_⟩⟩;have ZX:bn H1 H3:=λb' o' e=>k3 b' o' (Yb _ _ e) (ca e nx);have Yi:=ZX _ _ hp;have ac8:p≠x:=ca hp nx;left;refine⟨by(show 1<=sizeLine;decide),λl hl=>?_⟩;have sm:=s1.trans ZX;have aaN:upd H3 p (.ins a.dN dx [("counts",.ref x)]) p=some (.ins a.dN dx [("counts",.ref x)]):=bv;have kpt:eK H (upd H3 p (.ins a.dN dx [("counts",.ref x)])):=by
   refine⟨λb' C' Yf YI e' l'=>?_,λb' zs e'=>?_,λb' o' u' e'=>?_⟩
   .have e3:=sm _ _ e';rw[ap (λz=>?_)]
    .exact e3
    .rw[z,Yi] at e3;cases e3;cases l'
   .have e3:=sm _ _ e';rw[ap (λz=>by rw[z,Yi] at e3;cases e3)];exact e3
   .have e3:=sm _ _ e';rw[ap (λz=>by rw[z,Yi] at e3;cases e3)];exact e3
  have ZC:gN a rl (upd H3 p (.ins a.dN dx [("counts",.ref x)])) x t:=by
   obtain⟨dxq,pq,rs,c1,c2,c3⟩:=Xy;have ne:∀{b':cS} {u:HO},H3 b'=some u->(∀C' Yf YI,u=.ins C' Yf YI->YI.length≠1)->upd H3 p (.ins a.dN dx [("counts",.ref x)]) b'=some u:=λ{b' u} eb hu=>by
    rw[ap (λz=>?_)]
    .exact eb
    .rw[z,Yi] at eb;cases eb;exact hu _ _ _ rfl rfl
   refine⟨dxq,pq,rs,ne c1 (λ_ _ _ z=>by cases z;show 3≠1;decide),?_,⟨ne c3.lst (λ_ _ _ z=>by cases z),c3.ne,c3.len,λi r Xd=>ne (c3.row i r Xd) (λ_ _ _ z=>by cases z)⟩⟩;have hpo:=c2;obtain⟨_,XG,pt,pw,Xi,Xk,fm,q1,_⟩:=hpo;refine c2.keep (LJ Yi rfl) λo' e'=>?_;rw[ap (λz=>?_)]
   .exact e'
   .unfold pZ at q1;rw[z,Yi] at q1;injection q1 with q1;injection q1 with _ _ q1;cases q1
  have s5:=bn.upd (o:=.lst [.int 1]) hl;exact q l _ (kpt.trans (eK.same s5)) ⟨rl,x,⟨dx,s5 _ _ aaN⟩,lX ZC s5⟩ bv (by show 1<=20001;decide)
end
section
open Vasesq (Call)
open VasesqNeutral (encode)
def mz(a:dj)(H:Hp)(f dx cl:cS)(k:Nat):Prop:=H f=some (.ins a.ig dx [("calls",.ref cl),("at",.int (k:Nat))])/\H dx=some (.own f)
abbrev sy(f:cS)(H H':Hp):Prop:=∀b o,H b=some o->b≠f->H' b=some o
theorem yw(hf:H f=some (.ins C dx fs))(r:sy f H H')(h:dU K H cl xs):dU K H' cl xs:=by
 rcases h with (h|⟨o,h⟩)|h
 .exact .inl (.inl (r _ _ h λz=>by rw[z,hf] at h;cases h))
 .exact .inl (.inr ⟨o,r _ _ h λz=>by rw[z,hf] at h;cases h⟩)
 .exact .inr h
theorem Q2{l:List Int}{k:Nat}{x:Int}(h:l[k]?=some x):(l.map V.int)[k]?=some (.int x):=by rw[ak,h];rfl
def V9(a:dj):Sp:=λvs H Q _=>∃x dx c,vs=[.ref x,.ref c]/\H x=some (.ins a.ig dx [])/\Q .non (upd H x (.ins a.ig dx [("calls",.ref c),("at",.int (0:Nat))]))
theorem Hq:wD P w base T.xV mg 1 (V9 a):=by
 specialize T.xV.fn.okN ["self","calls"];obtain⟨x,dx,c,rfl,hx,q⟩:=h;refine'⟨_,(ad (fR (pv 0) (pv 1)) (am (fR (pv 0) (cr)))),?_⟩;rw[eq];exact q
def Wa(a:dj)(K:cV):Sp:=λvs H Q _=>∃f dx cl k,∃l:List Int,vs=[.ref f]/\mz a H f dx cl k/\dU K H cl (l.map V.int)/\Q (.bl (decide (l.length<=k))) H
theorem BG:iA P w base T.qv mg 1 (Wa a K):=by
 specialize T.qv.fn.okN ["self"];obtain⟨f,dx,cl,k,l,rfl,⟨hf,hd⟩,hS,q⟩:=h;refine'⟨_,(am (bi (iY Pq (da (pv 0)) (fS T.d5 (da (pv 0))) (gJ _)))),?_⟩;refine'⟨cl,_,rfl,.inl hS,?_⟩;rw[af];have e:decide (((l.length:Nat):Int)<=((k:Nat):Int))=decide (l.length<=k):=by simp
 rw[e];exact q
def Wb(a:dj)(K:cV):Sp:=λvs H Q _=>∃f dx cl k,∃l:List Int,∃x,vs=[.ref f]/\mz a H f dx cl k/\dU K H cl (l.map V.int)/\l[k]?=some x/\∀H',mz a H' f dx cl (k+1)->sy f H H'->Q (.int x) H'
theorem sA:iA P w base T.qk mg 1 (Wb a K):=by
 specialize T.qk.fn.okN ["self","taken"];obtain⟨f,dx,cl,k,l,x,rfl,⟨hf,hd⟩,hS,hx,q⟩:=h;refine'⟨_,(ad (dz 1 nd (eF (da (pv 0)) (da (pv 0)))) (ad (wn (pv 0) (cr) ij) (am (bi (pv 1))))),?_⟩;refine'⟨cl,_,_,_,rfl,rfl,hS,KS rfl (Q2 hx),?_⟩;refine⟨.ref f,rfl,f,a.ig,dx,_,_,rfl,hf,T.qo.cl,T.qo.na _ (by decide),rfl,_,_,rfl,rfl,dx,_,hf,by(show 2<1000;decide),?_⟩;show wg (gD 1) _ _ (upd H f (.ins a.ig dx [("calls",.ref cl),("at",.int (k+1))]));left;exact q _ ⟨bv,by rw[ap (λz=>by rw[z,hf] at hd;cases hd)];exact hd⟩ λb o e n=>by rw[ap n];exact e
def Wc(a:dj)(K:cV):Sp:=λvs H Q _=>∃f dx cl k,∃l:List Int,∃n:Nat,vs=[.ref f]/\mz a H f dx cl k/\dU K H cl (l.map V.int)/\l[k]?=some (n:Int)/\k+1+n<=l.length/\∀p H',mz a H' f dx cl (k+1+n)->sy f H H'->H p=none->H' p=some (.lst (((l.drop (k+1)).take n).map V.int))->Q (.ref p) H'
theorem IW:iA P w base T.Av mg 2 (Wc a K):=by
 specialize T.Av.fn.okN ["self","length","taken"];obtain⟨f,dx,cl,k,l,n,rfl,⟨hf,hd⟩,hS,hx,hn,q⟩:=h;refine'⟨_,(ad (dz 1 nd (d7 (pv 0) T.qo T.qk (sA T) hr ci)) (ad (dz 2 nd (uv ya (da (pv 0)) (lO (da (pv 0))) (lO (dF fw (da (pv 0)) (pv 1))))) (ad (wn (pv 0) (pv 1) ij) (am (bi (pv 2)))))),?_⟩;refine⟨f,dx,cl,k,l,n,rfl,⟨hf,hd⟩,hS,hx,λH1 ⟨abe,YX⟩ r1=>?_⟩;have ae6:=yw hf r1 hS;left;refine⟨cl,_,rfl,ae6,λp hp=>?_⟩;have e1:((k+1:Nat):Int)+(n:Nat)=((k+1+n:Nat):Int):=by lia
 rw[e1,Gu _ _ _ (by rw[af];exact hn)];rw[show k+1+n-(k+1)=n by lia];have aa6:f≠p:=ca abe hp;have ZI:upd H1 p (.lst (((l.map V.int).drop (k+1)).take n)) f=some (.ins a.ig dx [("calls",.ref cl),("at",.int ((k+1:Nat):Int))]):=by rw[ap aa6];exact abe
 have XQ:upd H1 p (.lst (((l.map V.int).drop (k+1)).take n)) p=some (.lst (((l.drop (k+1)).take n).map V.int)):=by rw[bv,←List.map_drop,←List.map_take]
 have r2:sy f H (upd H1 p (.lst (((l.map V.int).drop (k+1)).take n))):=λb o e ne=>by
  have:=r1 b o e ne;rw[ap (ca this hp)];exact this
 have Hp:H p=none:=by
  cases z:H p with
  | none=>rfl
  | some o=>have:=r1 p o z (λe=>aa6 e.symm);rw[hp] at this;cases this
 have hd2:upd H1 p (.lst (((l.map V.int).drop (k+1)).take n)) dx=some (.own f):=by rw[ap (ca YX hp)];exact YX
 generalize upd H1 p (.lst (((l.map V.int).drop (k+1)).take n))=H2 at ZI XQ r2 hd2;left;refine⟨.ref f,rfl,f,a.ig,dx,_,_,rfl,ZI,T.qo.cl,T.qo.na _ (by decide),rfl,.int (n:Nat),rfl,_,_,rfl,rfl,dx,_,ZI,by(show 2<1000;decide),?_⟩;show wg (gD 2) _ _ (upd H2 f (.ins a.ig dx [("calls",.ref cl),("at",.int (((k+1:Nat):Int)+(n:Nat)))]));rw[e1];left;refine q p _ ⟨bv,by rw[ap (λz=>by rw[z,ZI] at hd2;cases hd2)];exact hd2⟩ (λb o e n'=>by rw[ap n'];exact r2 b o e n') Hp ?_;rw[ap (λe=>aa6 e.symm)];exact XQ
def NJ:Call->Nat->List Int->List Bytes->Prop
 | .load b,n,zs,bs=>n=0/\zs=[]/\bs=[b]
 | .shown,n,zs,bs=>n=1/\zs=[]/\bs=[]
 | .size i j,n,zs,bs=>n=2/\zs=[i,j]/\bs=[]
 | .total i m,n,zs,bs=>n=3/\zs=[i,m]/\bs=[]
 | .rank i b,n,zs,bs=>n=4/\zs=[i]/\bs=[b]
 | .course i m r,n,zs,bs=>n=5/\zs=[i,m,r]/\bs=[]
 | .later i k b,n,zs,bs=>n=6/\zs=[i,k]/\bs=[b]
 | .compare i b d,n,zs,bs=>n=7/\zs=[i]/\bs=[b,d]
 | .share i m j,n,zs,bs=>n=8/\zs=[i,m,j]/\bs=[]
 | .width i m,n,zs,bs=>n=9/\zs=[i,m]/\bs=[]
 | .pack i b,n,zs,bs=>n=10/\zs=[i]/\bs=[b]
 | .unpack i m b,n,zs,bs=>n=11/\zs=[i,m]/\bs=[b]
 | .goes i b,n,zs,bs=>n=12/\zs=[i]/\bs=[b]
def yx(o:Option cW)(k:Call):Option cW:=(Vasesq.step ⟨o⟩ k).1.part
noncomputable def lu(o:Option cW)(k:Call):List Int:=encode (Vasesq.step ⟨o⟩ k).2
def FX(H:Hp)(p:cS)(b:Bytes):Prop:=H p=some (.lst (dc b))/\b.length<=9000
def SX(a:dj)(H:Hp)(p:cS)(o:Option cW)(k:Call)(Q:VK):Prop:=∀l H',eK H H'->Tl a H' p (yx o k)->H' l=some (.lst ((lu o k).map V.int))->(lu o k).length<=20001->Q (.ref l) H'
def SY(a:dj):Sp:=λvs H Q _=>∃p o nl ae7,∃n:Nat,∃zs:List Int,∃rs bs k,vs=[.ref p,.int (n:Nat),.ref nl,.ref ae7]/\Tl a H p o/\H nl=some (.lst (zs.map V.int))/\H ae7=some (.lst (rs.map V.ref))/\dX FX H rs bs/\NJ k n zs bs/\SX a H p o k Q
theorem jO{i j:Int}{A B:Prop}(h:i=j)(k:A):if decide (V.int i=V.int j)=true then A else B:=by
 rw[ae]
 .exact k
 .simp[h]
theorem lw{i j:Int}{A B:Prop}(h:i≠j)(k:B):if decide (V.int i=V.int j)=true then A else B:=by
 rw[aa]
 .exact k
 .simp[h]
theorem CV(h:dX FX H rs [b]):∃p,rs=[p]/\H p=some (.lst (dc b))/\b.length<=9000:=by
 unfold dX at h;cases h with
 | cons h1 h2=>cases h2;exact⟨_,rfl,h1⟩
theorem Wd(h:dX FX H rs [b,d]):∃p q,rs=[p,q]/\H p=some (.lst (dc b))/\H q=some (.lst (dc d)):=by
 unfold dX at h;cases h with
 | cons h1 h2=>cases h2 with
  | cons h3 h4=>cases h4;exact⟨_,_,rfl,h1.1,h3.1⟩
theorem EI:yx o (.load b)=BF o b/\lu o (.load b)=uj b:=by
 unfold yx lu BF uj Vasesq.step;dsimp only;cases Vasesd.read b<;>exact⟨rfl,rfl⟩
theorem Hr:fc P w base T.rG 16 (SY a):=by
 specialize T.rG.fn.okN ["teller","call","numbers","rows"];obtain⟨p,o,nl,ae7,n,zs,rs,bs,k,rfl,hT,Ye,XJ,hE,hk,q⟩:=h;refine⟨_,(ad (de (fM (pv 1) (dA T.Tc)) (am (bi (dh (pv 0) T.dZ T.sW (CU T) hr ci (dq (eF (pv 3) (cr)))))) cZ) (ad (de (fM (pv 1) (dA T.Ua)) (am (bi (d7 (pv 0) T.dZ T.qx (Bz T) hr ci))) cZ) (ad (de (fM (pv 1) (dA T.Wh)) (am (bi (dh (pv 0) T.dZ T.sR (CP T) hr ci (dg (eF (pv 2) (cr)) (eF (pv 2) (cr)))))) cZ) (ad (de (fM (pv 1) (dA T.T7)) (am (bi (dh (pv 0) T.dZ T.qy (BA T) hr ci (dg (eF (pv 2) (cr)) (eF (pv 2) (cr)))))) cZ) (ad (de (fM (pv 1) (dA T.Wg)) (am (bi (dh (pv 0) T.dZ T.sP (CQ T) hr ci (dg (eF (pv 2) (cr)) (eF (pv 3) (cr)))))) cZ) (ad (de (fM (pv 1) (dA T.Tf)) (am (bi (dh (pv 0) T.dZ T.oJ (z9 T) hr ci (db (eF (pv 2) (cr)) (dg (eF (pv 2) (cr)) (eF (pv 2) (cr))))))) cZ) (ad (de (fM (pv 1) (dA T.T8)) (am (bi (dh (pv 0) T.dZ T.qA (BB T) hr ci (db (eF (pv 2) (cr)) (dg (eF (pv 2) (cr)) (eF (pv 3) (cr))))))) cZ) (ad (de (fM (pv 1) (dA T.Rg)) (am (bi (dh (pv 0) T.dZ T.mZ (yC T) hr ci (db (eF (pv 2) (cr)) (dg (eF (pv 3) (cr)) (eF (pv 3) (cr))))))) cZ) (ad (de (fM (pv 1) (dA T.T9)) (am (bi (dh (pv 0) T.dZ T.qt (BC T) hr ci (db (eF (pv 2) (cr)) (dg (eF (pv 2) (cr)) (eF (pv 2) (cr))))))) cZ) (ad (de (fM (pv 1) (dA T.T6)) (am (bi (dh (pv 0) T.dZ T.qu (BD T) hr ci (dg (eF (pv 2) (cr)) (eF (pv 2) (cr)))))) cZ) (ad (de (fM (pv 1) (dA T.Wk)) (am (bi (dh (pv 0) T.dZ T.sU (CS T) hr ci (dg (eF (pv 2) (cr)) (eF (pv 3) (cr)))))) cZ) (ad (de (fM (pv 1) (dA T.Ta)) (am (bi (dh (pv 0) T.dZ T.oG (Aa T) hr ci (db (eF (pv 2) (cr)) (dg (eF (pv 2) (cr)) (eF (pv 3) (cr))))))) cZ) (am (bi (dh (pv 0) T.dZ T.sS (CT T) hr ci (dg (eF (pv 2) (cr)) (eF (pv 3) (cr)))))))))))))))))),?_⟩;obtain⟨dx,v,hp⟩:=hT.obj;cases k with
 | load b=>
  obtain⟨rfl,rfl,rfl⟩:=hk;obtain⟨tx,rfl,ht,_⟩:=CV hE;left;refine' jO rfl ?_;refine' eg (j:=0) XJ rfl rfl ?_;refine⟨p,o,tx,b,rfl,hT,ht,?_⟩;unfold SX at q;rw[EI.1,EI.2] at q;exact q
 | shown=>
  obtain⟨rfl,rfl,rfl⟩:=hk;left;refine' lw (by decide) ?_;refine' jO rfl ?_;exact⟨p,o,rfl,hT,by cases o<;>exact q⟩
 | size i j=>
  obtain⟨rfl,rfl,rfl⟩:=hk;left
  iterate 2 (refine lw (by decide) ?_;left)
  refine' jO rfl ?_;refine' eg (j:=0) Ye rfl rfl ?_;refine' eg (j:=1) Ye rfl rfl ?_;exact⟨p,o,i,j,rfl,hT,by cases o<;>exact q⟩
 | total i m=>
  obtain⟨rfl,rfl,rfl⟩:=hk;left
  iterate 3 (refine lw (by decide) ?_;left)
  refine' jO rfl ?_;refine' eg (j:=0) Ye rfl rfl ?_;refine' eg (j:=1) Ye rfl rfl ?_;exact⟨p,o,i,m,rfl,hT,by cases o<;>exact q⟩
 | rank i b=>
  obtain⟨rfl,rfl,rfl⟩:=hk;obtain⟨tx,rfl,ht,_⟩:=CV hE;left
  iterate 4 (refine lw (by decide) ?_;left)
  refine' jO rfl ?_;refine' eg (j:=0) Ye rfl rfl ?_;refine' eg (j:=0) XJ rfl rfl ?_;exact⟨p,o,i,tx,b,rfl,hT,ht,by cases o<;>exact q⟩
 | course i m r=>
  obtain⟨rfl,rfl,rfl⟩:=hk;left
  iterate 5 (refine lw (by decide) ?_;left)
  refine' jO rfl ?_;refine' eg (j:=0) Ye rfl rfl ?_;refine' eg (j:=1) Ye rfl rfl ?_;refine' eg (j:=2) Ye rfl rfl ?_;exact⟨p,o,i,m,r,rfl,hT,by cases o<;>exact q⟩
 | later i k b=>
  obtain⟨rfl,rfl,rfl⟩:=hk;obtain⟨tx,rfl,ht,_⟩:=CV hE;left
  iterate 6 (refine lw (by decide) ?_;left)
  refine' jO rfl ?_;refine' eg (j:=0) Ye rfl rfl ?_;refine' eg (j:=1) Ye rfl rfl ?_;refine' eg (j:=0) XJ rfl rfl ?_;exact⟨p,o,i,k,tx,b,rfl,hT,ht,by cases o<;>exact q⟩
 | compare i b d=>
  obtain⟨rfl,rfl,rfl⟩:=hk;obtain⟨tx,ty,rfl,ht,hy⟩:=Wd hE;left
  iterate 7 (refine lw (by decide) ?_;left)
  refine' jO rfl ?_;refine' eg (j:=0) Ye rfl rfl ?_;refine' eg (j:=0) XJ rfl rfl ?_;refine' eg (j:=1) XJ rfl rfl ?_;exact⟨p,o,i,tx,b,ty,d,rfl,hT,ht,hy,by cases o<;>exact q⟩
 | share i m j=>
  obtain⟨rfl,rfl,rfl⟩:=hk;left
  iterate 8 (refine lw (by decide) ?_;left)
  refine' jO rfl ?_;refine' eg (j:=0) Ye rfl rfl ?_;refine' eg (j:=1) Ye rfl rfl ?_;refine' eg (j:=2) Ye rfl rfl ?_;exact⟨p,o,i,m,j,rfl,hT,by cases o<;>exact q⟩
 | width i m=>
  obtain⟨rfl,rfl,rfl⟩:=hk;left
  iterate 9 (refine lw (by decide) ?_;left)
  refine' jO rfl ?_;refine' eg (j:=0) Ye rfl rfl ?_;refine' eg (j:=1) Ye rfl rfl ?_;exact⟨p,o,i,m,rfl,hT,by cases o<;>exact q⟩
 | pack i b=>
  obtain⟨rfl,rfl,rfl⟩:=hk;obtain⟨tx,rfl,ht,_⟩:=CV hE;left
  iterate 10 (refine lw (by decide) ?_;left)
  refine' jO rfl ?_;refine' eg (j:=0) Ye rfl rfl ?_;refine' eg (j:=0) XJ rfl rfl ?_;exact⟨p,o,i,tx,b,rfl,hT,ht,by cases o<;>exact q⟩
 | unpack i m b=>
  obtain⟨rfl,rfl,rfl⟩:=hk;obtain⟨tx,rfl,ht,hb⟩:=CV hE;left
  iterate 11 (refine lw (by decide) ?_;left)
  refine' jO rfl ?_;refine' eg (j:=0) Ye rfl rfl ?_;refine' eg (j:=1) Ye rfl rfl ?_;refine' eg (j:=0) XJ rfl rfl ?_;exact⟨p,o,i,m,tx,b,rfl,hT,ht,hb,by cases o<;>exact q⟩
 | goes i b=>
  obtain⟨rfl,rfl,rfl⟩:=hk;obtain⟨tx,rfl,ht,_⟩:=CV hE;left
  iterate 12 (refine lw (by decide) ?_;left)
  refine' eg (j:=0) Ye rfl rfl ?_;refine' eg (j:=0) XJ rfl rfl ?_;exact⟨p,o,i,tx,b,rfl,hT,ht,by cases o<;>exact q⟩
end
section
open Vasesq (Call)
open VasesqNeutral (encode callOf)
open PyVasesq (shape whole bound)
noncomputable def lY(r:List Int):Bytes:=r.map λz=>UInt8.ofNat z.toNat
theorem Ab(h:r.all (PyInside.within 0 255)=true):(lY r).map (λc=>(c.toNat:Int))=r:=by
 unfold lY;rw[aO]
 conv=>rhs;rw[←List.map_id r]
 apply cC;intro z hz;have:=cu.mp h z hz;unfold PyInside.within at this;rw[aS] at this;have h1:0<=z:=ai this.1;have h2:z<=255:=ai this.2;show(((UInt8.ofNat z.toNat).toNat:Nat):Int)=z;rw[UInt8.toNat_ofNat']
 lia
theorem xt(h:r.all (PyInside.within 0 255)=true):VasesqNeutral.bytes? r=some (lY r):=by
 unfold VasesqNeutral.bytes? lY;rw[ae];exact h
def BH(r:List Int):Prop:=(lY r).map (λc=>(c.toNat:Int))=r/\r.length<=8192
theorem uk(h:PyInside.lists [(0,255,0,8192)] [r]=true):BH r/\VasesqNeutral.bytes? r=some (lY r):=by
 change (decide (0<=r.length)&&decide (r.length<=8192)&&r.all (PyInside.within 0 255)&&true)=true at h;simp only[aS,decide_eq_true_eq] at h;exact⟨⟨Ab h.1.2,h.1.1.2⟩,xt h.1.2⟩
theorem SZ(h:PyInside.lists [(0,255,0,8192),(0,255,0,8192)] [r,q]=true):(BH r/\VasesqNeutral.bytes? r=some (lY r))/\BH q/\VasesqNeutral.bytes? q=some (lY q):=by
 change (decide (0<=r.length)&&decide (r.length<=8192)&&r.all (PyInside.within 0 255)&&(decide (0<=q.length)&&decide (q.length<=8192)&&q.all (PyInside.within 0 255)&&true))=true at h;simp only[aS,decide_eq_true_eq] at h;exact⟨⟨⟨Ab h.1.2,h.1.1.2⟩,xt h.1.2⟩,⟨Ab h.2.1.2,h.2.1.1.2⟩,xt h.2.1.2⟩
theorem IX(h:PyInside.call bound ((p::zs)::xs)=true):PyInside.lists (bound p).2 xs=true:=by
 change (PyInside.each (bound p).1 zs&&PyInside.lists (bound p).2 xs)=true at h;rw[aS] at h;exact h.2
noncomputable def jy:List Nat:=[0,0,2,2,1,3,2,1,3,2,1,2,1]
noncomputable def Hs:List Nat:=[1,0,0,0,1,0,1,2,0,0,1,1,1]
theorem O4(h:shape p=some (n,k)):∃c:Nat,p=(c:Nat)/\c<13/\jy[c]?=some n/\Hs[c]?=some k:=by
 unfold shape at h;by_cases h0:p=0
 .subst h0;cases h;exact⟨0,rfl,by decide,rfl,rfl⟩
 rw[aa h0] at h;by_cases h1:p=1
 .subst h1;cases h;exact⟨1,rfl,by decide,rfl,rfl⟩
 rw[aa h1] at h;by_cases h2:p=2
 .subst h2;cases h;exact⟨2,rfl,by decide,rfl,rfl⟩
 rw[aa h2] at h;by_cases h3:p=3
 .subst h3;cases h;exact⟨3,rfl,by decide,rfl,rfl⟩
 rw[aa h3] at h;by_cases h4:p=4
 .subst h4;cases h;exact⟨4,rfl,by decide,rfl,rfl⟩
 rw[aa h4] at h;by_cases h5:p=5
 .subst h5;cases h;exact⟨5,rfl,by decide,rfl,rfl⟩
 rw[aa h5] at h;by_cases h6:p=6
 .subst h6;cases h;exact⟨6,rfl,by decide,rfl,rfl⟩
 rw[aa h6] at h;by_cases h7:p=7
 .subst h7;cases h;exact⟨7,rfl,by decide,rfl,rfl⟩
 rw[aa h7] at h;by_cases h8:p=8
 .subst h8;cases h;exact⟨8,rfl,by decide,rfl,rfl⟩
 rw[aa h8] at h;by_cases h9:p=9
 .subst h9;cases h;exact⟨9,rfl,by decide,rfl,rfl⟩
 rw[aa h9] at h;by_cases agk:p=10
 .subst agk;cases h;exact⟨10,rfl,by decide,rfl,rfl⟩
 rw[aa agk] at h;by_cases agl:p=11
 .subst agl;cases h;exact⟨11,rfl,by decide,rfl,rfl⟩
 rw[aa agl] at h;by_cases agm:p=12
 .subst agm;cases h;exact⟨12,rfl,by decide,rfl,rfl⟩
 rw[aa agm] at h;cases h
theorem mX(h:l.length=1):∃a,l=[a]:=by
 match l,h with
 | [a],_=>exact⟨a,rfl⟩
theorem Q3(hc:c<13)(hn:jy[c]?=some n)(hk:Hs[c]?=some k)(hz:zs.length=n)(hx:xs.length=k)(hi:PyInside.call bound (((c:Nat)::zs)::xs)=true):∃kk,NJ kk c zs (xs.map lY)/\callOf (whole ((((c:Nat):Int)::zs)::xs))=some kk/\∀r∈xs,BH r:=by
 have hi:=IX hi
 match c,hc,hn,hk with
 | 0,_,hn,hk=>
  cases hn;cases hk;obtain rfl:=bz.mp hz;obtain⟨r,rfl⟩:=mX hx;obtain⟨h1,h2⟩:=uk hi;exact⟨.load (lY r),⟨rfl,rfl,rfl⟩,by show(VasesqNeutral.bytes? r).map _=_;rw[h2];rfl,by simpa using h1⟩
 | 1,_,hn,hk=>
  cases hn;cases hk;obtain rfl:=bz.mp hz;obtain rfl:=bz.mp hx;exact⟨.shown,⟨rfl,rfl,rfl⟩,rfl,by simp⟩
 | 2,_,hn,hk=>
  cases hn;cases hk;obtain⟨i,j,rfl⟩:=zU hz;obtain rfl:=bz.mp hx;exact⟨.size i j,⟨rfl,rfl,rfl⟩,rfl,by simp⟩
 | 3,_,hn,hk=>
  cases hn;cases hk;obtain⟨i,j,rfl⟩:=zU hz;obtain rfl:=bz.mp hx;exact⟨.total i j,⟨rfl,rfl,rfl⟩,rfl,by simp⟩
 | 4,_,hn,hk=>
  cases hn;cases hk;obtain⟨i,rfl⟩:=mX hz;obtain⟨r,rfl⟩:=mX hx;obtain⟨h1,h2⟩:=uk hi;exact⟨.rank i (lY r),⟨rfl,rfl,rfl⟩,by show(VasesqNeutral.bytes? r).map _=_;rw[h2];rfl,by simpa using h1⟩
 | 5,_,hn,hk=>
  cases hn;cases hk;obtain⟨i,j,m,rfl⟩:=Ct hz;obtain rfl:=bz.mp hx;exact⟨.course i j m,⟨rfl,rfl,rfl⟩,rfl,by simp⟩
 | 6,_,hn,hk=>
  cases hn;cases hk;obtain⟨i,j,rfl⟩:=zU hz;obtain⟨r,rfl⟩:=mX hx;obtain⟨h1,h2⟩:=uk hi;exact⟨.later i j (lY r),⟨rfl,rfl,rfl⟩,by show(VasesqNeutral.bytes? r).map _=_;rw[h2];rfl,by simpa using h1⟩
 | 7,_,hn,hk=>
  cases hn;cases hk;obtain⟨i,rfl⟩:=mX hz;obtain⟨r,q,rfl⟩:=zU hx;obtain⟨⟨h1,h2⟩,h3,h4⟩:=SZ hi;exact⟨.compare i (lY r) (lY q),⟨rfl,rfl,rfl⟩,by show(VasesqNeutral.bytes? r).bind _=_;rw[h2];show(VasesqNeutral.bytes? q).map _=_;rw[h4];rfl,by simpa using ⟨h1,h3⟩⟩
 | 8,_,hn,hk=>
  cases hn;cases hk;obtain⟨i,j,m,rfl⟩:=Ct hz;obtain rfl:=bz.mp hx;exact⟨.share i j m,⟨rfl,rfl,rfl⟩,rfl,by simp⟩
 | 9,_,hn,hk=>
  cases hn;cases hk;obtain⟨i,j,rfl⟩:=zU hz;obtain rfl:=bz.mp hx;exact⟨.width i j,⟨rfl,rfl,rfl⟩,rfl,by simp⟩
 | 10,_,hn,hk=>
  cases hn;cases hk;obtain⟨i,rfl⟩:=mX hz;obtain⟨r,rfl⟩:=mX hx;obtain⟨h1,h2⟩:=uk hi;exact⟨.pack i (lY r),⟨rfl,rfl,rfl⟩,by show(VasesqNeutral.bytes? r).map _=_;rw[h2];rfl,by simpa using h1⟩
 | 11,_,hn,hk=>
  cases hn;cases hk;obtain⟨i,j,rfl⟩:=zU hz;obtain⟨r,rfl⟩:=mX hx;obtain⟨h1,h2⟩:=uk hi;exact⟨.unpack i j (lY r),⟨rfl,rfl,rfl⟩,by show(VasesqNeutral.bytes? r).map _=_;rw[h2];rfl,by simpa using h1⟩
 | 12,_,hn,hk=>
  cases hn;cases hk;obtain⟨i,rfl⟩:=mX hz;obtain⟨r,rfl⟩:=mX hx;obtain⟨h1,h2⟩:=uk hi;exact⟨.goes i (lY r),⟨rfl,rfl,rfl⟩,by show(VasesqNeutral.bytes? r).map _=_;rw[h2];rfl,by simpa using h1⟩
theorem LK(h:PyFlat.call shape r=some (c,t)):∃p r' n k xs,r=p::r'/\shape p=some (n,k)/\n<=r'.length/\PyFlat.rows k (r'.drop n)=some (xs,t)/\c=(p::r'.take n)::xs:=by
 cases r with
 | nil=>cases h
 | cons p r'=>
  change (match shape p with|none=>none|some (n,k)=>if r'.length<n then none else match PyFlat.rows k (r'.drop n) with|none=>none|some (xs,t)=>some ((p::r'.take n)::xs,t))=some (c,t) at h;cases hs:shape p with
  | none=>rw[hs] at h;cases h
  | some x=>
   obtain⟨n,k⟩:=x;rw[hs] at h;dsimp only at h;by_cases hl:r'.length<n
   .rw[ae hl] at h;cases h
   .rw[aa hl] at h;cases hr:PyFlat.rows k (r'.drop n) with
    | none=>rw[hr] at h;cases h
    | some y=>
     obtain⟨xs,t'⟩:=y;rw[hr] at h;cases h;exact⟨p,r',n,k,xs,rfl,hs,by lia,hr,rfl⟩
theorem Ht:∀{k:Nat} {r:List Int} {xs:List (List Int)} {t:List Int},PyFlat.rows k r=some (xs,t)->xs.length=k
 | 0,r,xs,t,h=>by cases h;rfl
 | k+1,r,xs,t,h=>by
  unfold PyFlat.rows at h;split at h
  .cases h
  .split at h
   .cases h
   .rename_i e;cases h;simp[Ht e]
theorem LL(h:PyFlat.rows (k+1) r=some (xs,t)):∃n:Nat,∃r' ys,r=(n:Int)::r'/\n<=r'.length/\xs=r'.take n::ys/\PyFlat.rows k (r'.drop n)=some (ys,t):=by
 unfold PyFlat.rows at h;cases r with
 | nil=>cases h
 | cons m r'=>
  change (match (if 0<=m/\m.toNat<=r'.length then some (r'.take m.toNat,r'.drop m.toNat) else none) with|none=>none|some (x,s)=>match PyFlat.rows k s with|none=>none|some (xs,t)=>some (x::xs,t))=some (xs,t) at h;by_cases hm:0<=m/\m.toNat<=r'.length
  .rw[ae hm] at h;dsimp only at h;split at h
   .cases h
   .rename_i ys t' e;cases h;exact⟨m.toNat,r',ys,by rw[Int.toNat_of_nonneg hm.1],hm.2,rfl,e⟩
  .rw[aa hm] at h;cases h
theorem Kv{l r:List Int}{k:Nat}{p:Int}(h:l.drop k=p::r):l[k]?=some p/\l.drop (k+1)=r/\k<l.length:=by
 have hk:k<l.length:=by
  apply bI;intro z;rw[bD z] at h;cases h
 rw[cQ hk] at h;injection h with h1 h2;exact⟨by rw[aR hk,h1],h2,hk⟩
end
section
open Vasesq (Call)
open VasesqNeutral (encode callOf)
open PyVasesq (shape whole bound)
def WF(f dx:cS):cS->Prop:=λb=>b=f∨b=dx
theorem Hu(h:mz a H f dx cl k):m9 (WF f dx) H:=λb z=>by
 rcases z with rfl|rfl
 .exact .inr (.inl ⟨_,_,_,h.1,.inr rfl⟩)
 .exact .inr (.inr ⟨_,h.2,.inl rfl⟩)
theorem BI(h:mz a H f dx cl k)(e:H l=some (.lst xs)):¬WF f dx l:=λz=>by
 rcases z with rfl|rfl
 .rw[h.1] at e;cases e
 .rw[h.2] at e;cases e
theorem Hv(r:sy f H H'):bn (dv (WF f dx) H) (dv (WF f dx) H'):=λb o e=>by
 obtain⟨e,n⟩:=dW e;exact dQ (r b o e λz=>n (.inl z)) n
theorem Hw(s:bn H H'):bn (dv W H) (dv W H'):=d4 (bn.but s)
theorem Q4{H H':Hp}{cl:cS}{l:List Int}(k:eK H H')(h:dU K H cl (l.map V.int)):dU K H' cl (l.map V.int):=by
 rcases h with (h|⟨o,h⟩)|h
 .exact .inl (.inl (k.lst _ _ h))
 .exact .inl (.inr ⟨o,k.frz _ _ _ h⟩)
 .exact .inr h
theorem T3(h:mz a H f dx cl k)(hS:dU K H cl zs):dU K (dv (WF f dx) H) cl zs:=by
 rcases hS with (e|⟨o,e⟩)|e
 .exact .inl (.inl (dQ e (BI h e)))
 .refine .inl (.inr ⟨o,dQ e λz=>?_⟩);exact(Hu h).no_frz e z
 .exact .inr e
theorem Q5(g:∀b,W b->H' b=none):bn H' (dv W (Ex W H H')):=λb o e=>by
 have n:¬W b:=λz=>by rw[g b z] at e;cases e
 exact dQ (by rw[kl n];exact e) n
theorem Hx(g:∀b,W b->H' b=none):bn H' (Ex W H H'):=λb o e=>by
 have n:¬W b:=λz=>by rw[g b z] at e;cases e
 rw[kl n];exact e
def P7(a:dj)(K:cV):Sp:=λvs H Q _=>∃p o f dx cl k,∃l:List Int,∃c t,vs=[.ref p,.ref f]/\Tl a (dv (WF f dx) H) p o/\mz a H f dx cl k/\dU K H cl (l.map V.int)/\PyFlat.call shape (l.drop k)=some (c,t)/\PyInside.call bound c=true/\
 ∀lA H' kk k',callOf (whole c)=some kk->l.drop k'=t->mz a H' f dx cl k'->Tl a (dv (WF f dx) H') p (yx o kk)->dU K H' cl (l.map V.int)->H' lA=some (.lst ((lu o kk).map V.int))->(lu o kk).length<=20001->Q (.ref lA) H'
theorem E5:fc P w base T.rG 16 (Ld (SY a)):=frame (Hr T)
def xu(H:Hp)(p:cS)(r:List Int):Prop:=H p=some (.lst (r.map V.int))
theorem NK(hE:dX xu H qs xs)(ZW:∀z∈qs,z≠D)(k:∀b ys,H b=some (.lst ys)->b≠D->H' b=some (.lst ys)):dX xu H' qs xs:=by
 unfold dX at hE ⊢
 induction hE with
 | nil=>exact .nil
 | cons h1 h2 ih=>exact .cons (k _ _ h1 (ZW _ (by simp))) (ih λz hz=>ZW z (by simp[hz]))
theorem O5(hE:dX xu H qs xs)(hok:∀r∈xs,BH r)(k:∀b ys,H b=some (.lst ys)->¬W b):dX FX (dv W H) qs (xs.map lY):=by
 unfold dX at hE ⊢
 induction hE with
 | nil=>exact .nil
 | cons h1 h2 ih=>
  rename_i q1 x1 _ _;obtain⟨ro1,ro2⟩:=hok _ (aU ..);refine .cons ⟨?_,?_⟩ (ih λr hr=>hok r (by simp[hr]))
  .rw[mx,ro1];exact dQ h1 (k _ _ h1)
  .unfold lY;rw[af]
   lia
theorem We{c n:Nat}(h:jy[c]?=some n):([.int 0,.int 0,.int 2,.int 2,.int 1,.int 3,.int 2,.int 1,.int 3,.int 2,.int 1,.int 2,.int 1]:List V)[c]?=some (.int (n:Nat)):=by
 have e:([.int 0,.int 0,.int 2,.int 2,.int 1,.int 3,.int 2,.int 1,.int 3,.int 2,.int 1,.int 2,.int 1]:List V)=jy.map λn=>V.int (n:Nat):=rfl;rw[e,ak,h];rfl
theorem Wf{c n:Nat}(h:Hs[c]?=some n):([.int 1,.int 0,.int 0,.int 0,.int 1,.int 0,.int 1,.int 2,.int 0,.int 0,.int 1,.int 1,.int 1]:List V)[c]?=some (.int (n:Nat)):=by
 have e:([.int 1,.int 0,.int 0,.int 0,.int 1,.int 0,.int 1,.int 2,.int 0,.int 0,.int 1,.int 1,.int 1]:List V)=Hs.map λn=>V.int (n:Nat):=rfl;rw[e,ak,h];rfl
theorem Kw{c n:Nat}{l:List Nat}(hl:l.all (·<=3)=true)(h:l[c]?=some n):n<=3:=by
 have:=cu.mp hl n (aJ h);simpa using this
theorem Hy:fc P w base T.rD 17 (P7 a K):=by
 specialize T.rD.fn.okN ["teller","feed","call","numbers","rows","k"];obtain⟨p,o,f,dx,cl,k,l,c,t,rfl,hT,hF,hS,afp,aa8,q⟩:=h;refine⟨_,(ad (dz 2 nd (d7 (pv 1) T.qo T.qk (sA T) hr ci)) (ad (de (PW.pt (lc (jW (pv 2) (dA T.Tc)) (jM (wB (pv 2) (dA T.Wj))))) (am (N4)) cZ) (ad (Gc rfl nd (i:=3) rfl rfl (JV rfl rfl rfl rfl) (qK rfl T.uo (dq (qO Mz (PL T.Kx) (pv 2) (λ_ _=>rfl)))) (zQ (own:=[("k",5)]) rfl) (λ_ _ _ _ _=>(gh 5 nd)) (λ_ _ _ _ _=>Cg) (λ_ _ _ _ _=>by exact(d7 (pv 1) T.qo T.qk (sA T) hr ci))) (ad (Gc rfl nd (i:=4) rfl rfl (JV rfl rfl rfl rfl) (qK rfl T.uo (dq (qO Mz (PL T.S9) (pv 2) (λ_ _=>rfl)))) (zQ (own:=[("k",5)]) rfl) (λ_ _ _ _ _=>(gh 5 nd)) (λ_ _ _ _ _=>Cg) (λ_ _ _ _ _=>by exact(d7 (pv 1) T.qo T.Av (IW T) hr ci))) (am (bi (df T.rG (E5 T) hr ci (db (pv 0) (db (pv 2) (dg (pv 3) (pv 4))))))))))),?_⟩;obtain⟨p0,r',n,kr,xs,er,abn,hn,adn,rfl⟩:=LK afp;obtain⟨cN,rfl,ag5,XM,Z3⟩:=O4 abn;obtain⟨hx,hd,hk⟩:=Kv er;have hn3:n<=3:=Kw (l:=jy) (by decide) XM;have hk3:kr<=3:=Kw (l:=Hs) (by decide) Z3;have ae8:=Ht adn;obtain⟨kk,ae9,acl,hok⟩:=Q3 ag5 XM Z3 (by rw[aL];lia) ae8 aa8;have hf0:=hF.1;left;refine⟨f,dx,cl,k,l,_,rfl,hF,hS,hx,λH1 acp r1=>?_⟩;have ae6:=yw hf0 r1 hS;have abe:=acp.1;left;refine' cX (λz=>absurd (ai z) (by lia)) (λ_=>?_);refine' cX (λz=>absurd (ai z) (by lia)) (λ_=>?_);refine' P1 (T.Kx.sq _) rfl (We XM) ?_;rw[bM];intro D hD;have ado:∀{b:cS} {u:HO},H1 b=some u->b≠D:=λe=>ca e hD;have agn:∀{H':Hp},sy f H1 H'->dU K H' cl (l.map V.int):=λr=>yw abe r ae6;refine Gd (lo:=0) (n:=n) (λi H'=>mz a H' f dx cl (k+1+i)/\sy f H1 H'/\H' D=some (.lst ((r'.take i).map V.int))) ⟨⟨by rw[ap (ado acp.1)];exact acp.1,by rw[ap (ado acp.2)];exact acp.2⟩,λb u e _=>by rw[ap (ado e)];exact e,bv⟩ ?_ ?_
 .rintro i H' hi ⟨acq,r2,aao⟩;have aak:=acq.1;obtain⟨vi,ago⟩:∃vi,r'[i]?=some vi:=⟨_,aR (by lia)⟩;have hv:l[k+1+i]?=some vi:=by rw[←ago,←hd,List.getElem?_drop]
  left;refine'⟨rfl,?_⟩;refine' eU ?_;refine⟨f,dx,cl,k+1+i,l,_,rfl,acq,agn r2,hv,λH3 Yo r3=>?_⟩;have aaY:D≠f:=λz=>by rw[z,aak] at aao;cases aao
  have Yx:=r3 _ _ aao aaY;refine⟨_,Yx,by rw[af,aL,sizeLine_eq];lia,⟨?_,?_⟩,λb u e ne=>?_,?_⟩
  .rw[ap (λz=>aaY z.symm)];exact Yo.1
  .rw[ap (λz=>by rw[←z] at Yx;rw[Yo.2] at Yx;cases Yx)];exact Yo.2
  .rw[ap (ado e)];exact r3 _ _ (r2 _ _ e ne) ne
  .rw[bv,eP ago,aD];rfl
 .rintro H2 ⟨ZZ,r2,YZ⟩;have ZI:=ZZ.1;have hS2:=agn r2;have hd2:l.drop (k+1+n)=r'.drop n:=by rw[←hd,bQ]
  have r02:sy f H H2:=λb u e ne=>r2 _ _ (r1 _ _ e ne) ne;left;refine' P1 (T.S9.sq _) rfl (Wf Z3) ?_;rw[bM];intro D2 adD;have abL:∀{b:cS} {u:HO},H2 b=some u->b≠D2:=λe=>ca e adD;have agp:∀{H':Hp},sy f H2 H'->dU K H' cl (l.map V.int):=λr=>yw ZI r hS2;refine Gd (lo:=0) (n:=kr) (λi H'=>sy f H2 H'/\∃qs pos,mz a H' f dx cl pos/\H' D2=some (.lst (qs.map V.ref))/\(∀z∈qs,z≠D2)/\dX xu H' qs (xs.take i)/\PyFlat.rows (kr-i) (l.drop pos)=some (xs.drop i,t))
   ⟨λb u e _=>by rw[ap (abL e)];exact e,[],k+1+n,⟨by rw[ap (abL ZZ.1)];exact ZZ.1,by rw[ap (abL ZZ.2)];exact ZZ.2⟩,bv,by simp,.nil,by rw[hd2];exact adn⟩ ?_ ?_
  .rintro i H' hi ⟨r3,qs,pos,acq,aao,ZW,hE,XJ⟩;have aak:=acq.1;rw[show kr-i=(kr-(i+1))+1 by lia] at XJ;obtain⟨m,s1,ys,e1,hm,e2,ag6⟩:=LL XJ;obtain⟨v1,v2,v3⟩:=Kv e1;have acT:pos+1+m<=l.length:=by
    have:=au List.length v2;rw[aT] at this
    lia
   left;refine'⟨rfl,?_⟩;refine' eU ?_;refine⟨f,dx,cl,pos,l,m,rfl,acq,agp r3,v1,acT,λq1 H3 Yo r4 aet Zy=>?_⟩;have aaY:D2≠f:=λz=>by rw[z,aak] at aao;cases aao
   have Yx:=r4 _ _ aao aaY;have nq:q1≠D2:=λz=>by rw[z,aao] at aet;cases aet
   have hxi:xs[i]?=some (s1.take m):=by
    have:=au List.head? e2;rw[List.head?_drop] at this;exact this
   refine⟨_,Yx,by rw[af,hE.len,aL,sizeLine_eq];lia,λb u e ne=>?_,qs++[q1],pos+1+m,⟨?_,?_⟩,by rw[bv,aD];rfl,?_,?_,?_⟩
   .rw[ap (abL e)];exact r4 _ _ (r3 _ _ e ne) ne
   .rw[ap (λz=>aaY z.symm)];exact Yo.1
   .rw[ap (λz=>by rw[←z] at Yx;rw[Yo.2] at Yx;cases Yx)];exact Yo.2
   .intro z hz;rcases bq.mp hz with hz|hz
    .exact ZW z hz
    .simp at hz;rw[hz];exact nq
   .rw[eP hxi];refine dX.snoc (P:=xu) ?_ ?_
    .exact NK hE ZW λb ys e ne=>by
      rw[ap ne];exact r4 _ _ e λz=>by rw[z,aak] at e;cases e
    .show upd H3 D2 _ q1=_;rw[ap nq,Zy,v2]
   .rw[show xs.drop (i+1)=ys by rw[←bQ,e2];rfl];rw[show l.drop (pos+1+m)=s1.drop m by rw[←v2,bQ]];exact ag6
  .rintro H3 ⟨r3,qs,pos,Yo,Yx,_,hE,XJ⟩;rw[Nat.sub_self,←ae8,bg] at XJ;rw[←ae8,aQ] at hE;have ag7:l.drop pos=t:=by cases XJ;rfl
   have aaY:D≠f:=λz=>by rw[z,ZI] at YZ;cases YZ
   have afa:=r3 _ _ YZ aaY;have YC:Tl a (dv (WF f dx) H3) p o:=hT.same ((Hv r02).trans (Hv r3));have afb:=agp r3;left;refine⟨WF f dx,Hu Yo,p,o,D,D2,cN,r'.take n,qs,xs.map lY,kk,rfl,YC,dQ afa (BI Yo afa),dQ Yx (BI Yo Yx),?_,ae9,?_⟩
   .exact O5 hE hok λb ys e=>BI Yo e
   .intro lA H' kp aan hl hz g;have sm:=Hx (W:=WF f dx) (H:=H3) g;refine q lA _ kk pos acl ag7 ⟨?_,?_⟩ (aan.same (Q5 g)) ?_ (sm _ _ hl) hz
    .rw[wS (.inl rfl)];exact Yo.1
    .rw[wS (.inr rfl)];exact Yo.2
    .exact bn.seq sm (Q4 kp (T3 Yo afb))
end
section
open Vasesq (Call)
open VasesqNeutral (encode callOf)
open PyVasesq (shape whole bound)
theorem E6:fc P w base T.rD 17 (Ld (P7 a K)):=frame (Hy T)
noncomputable def rA(o:Option cW)(cs:List (List (List Int))):List Int:=PyFlat.told (PyFlat.played VasesqNeutral.step ⟨o⟩ (cs.map whole))
theorem NL(h:callOf (whole c)=some k):rA o (c::cs)=(((lu o k).length:Nat):Int)::lu o k++rA (yx o k) cs:=by
 unfold rA;rw[ay];show PyFlat.told ((VasesqNeutral.step ⟨o⟩ (whole c)).2::PyFlat.played VasesqNeutral.step (VasesqNeutral.step ⟨o⟩ (whole c)).1 (cs.map whole))=_;have e:VasesqNeutral.step ⟨o⟩ (whole c)=((Vasesq.step ⟨o⟩ k).1,encode (Vasesq.step ⟨o⟩ k).2):=by
  unfold VasesqNeutral.step;rw[h]
 rw[e];unfold PyFlat.told;rw[bP];rfl
theorem LM(h:PyFlat.calls shape fu r=some cs)(hr:r≠[]):∃afc c t aap,PyFlat.call shape r=some (c,t)/\PyFlat.calls shape afc t=some aap/\cs=c::aap:=by
 cases r with
 | nil=>exact absurd rfl hr
 | cons p r=>
  cases fu with
  | zero=>cases h
  | succ fu=>
   unfold PyFlat.calls at h;split at h
   .cases h
   .rename_i c t e;split at h
    .cases h
    .rename_i aap e2;cases h;exact⟨fu,c,t,aap,e,e2,rfl⟩
theorem NM(h:PyFlat.calls shape fu []=some cs):cs=[]:=by
 cases fu<;>(cases h;rfl)
def P8(K:cV):Sp:=λvs H Q _=>∃cl,∃l:List Int,vs=[.ref cl]/\dU K H cl (l.map V.int)/\PyVasesq.answers_asked l=true/\∀p H',H' p=some (.lst ((PyVasesq.answers l).map V.int))->Q (.ref p) H'
theorem O6(h:PyVasesq.answers_asked l=true):∃cs,PyFlat.calls shape l.length l=some cs/\cs.length<=400/\(∀c∈cs,PyInside.call bound c=true)/\PyVasesq.answers l=rA none cs:=by
 unfold PyVasesq.answers_asked at h;unfold PyVasesq.answers PyVasesq.calls;cases e:PyFlat.calls shape l.length l with
 | none=>rw[e] at h;cases h
 | some cs=>
  rw[e] at h;dsimp only at h;simp only[aS] at h;refine⟨cs,rfl,ai h.1.1.2,λc hc=>cu.mp h.1.2 c hc,rfl⟩
theorem LN:fc P w base T.pF 18 (P8 K):=by
 specialize T.pF.fn.okN ["calls","teller","feed","told"];obtain⟨cl,l,rfl,hS,acJ,q⟩:=h;refine⟨_,(ad (dz 1 nd (RY T.dZ T.sJ (CO T) hr ci)) (ad (dz 2 nd (fQ T.qo T.xV (Hq T) hr ci (dq (pv 0)))) (ad (dz 3 nd (dw eA)) (ad (gI PassesOwn.never (j6 (gm (d7 (pv 2) T.qo T.qv (BG T) hr ci))) (am (dB (Gv (pv 3) (df T.gC (pk T) hr ci (dq (df T.rD (E6 T) hr ci (dg (pv 1) (pv 2))))))))) (am (bi (pv 3))))))),?_⟩;obtain⟨acr,afd,h400,aa8,ag8⟩:=O6 acJ;rw[ag8] at q;left;intro p XG np ndp nep;refine⟨p,XG,rfl,bv,rfl,?_⟩;rw[eq];have s1:bn H (upd (upd H XG (.own p)) p (.ins a.dN XG [("counts",.non)])):=bn.make np ndp rfl;have Xh:upd (upd H XG (.own p)) p (.ins a.dN XG [("counts",.non)]) p=some (.ins a.dN XG [("counts",.non)]):=bv;generalize upd (upd H XG (.own p)) p (.ins a.dN XG [("counts",.non)])=H1 at s1 Xh;left;intro f dx nf agq nef;refine⟨f,dx,cl,rfl,bv,rfl,?_⟩;rw[eq];have s2:bn H1 (upd (upd H1 dx (.own f)) f (.ins a.ig dx [("calls",.ref cl),("at",.int (0:Nat))])):=bn.make nf agq rfl;have ZZ:mz a (upd (upd H1 dx (.own f)) f (.ins a.ig dx [("calls",.ref cl),("at",.int (0:Nat))])) f dx cl 0:=⟨bv,by rw[ap nef,bv]⟩;have agr:bn H1 (dv (WF f dx) (upd (upd H1 dx (.own f)) f (.ins a.ig dx [("calls",.ref cl),("at",.int (0:Nat))]))):=λb u e=>by
  refine dQ (s2 _ _ e) λz=>?_;rcases z with rfl|rfl
  .rw[nf] at e;cases e
  .rw[agq] at e;cases e
 generalize upd (upd H1 dx (.own f)) f (.ins a.ig dx [("calls",.ref cl),("at",.int (0:Nat))])=H2 at s2 ZZ agr;left;refine⟨by(show 0<=sizeLine;decide),λtl Xv=>?_⟩;have ag9:∀{G G':Hp},G tl=none->(∀b u,G b=some u->G' b=some u)->bn G (dv (·=tl) G'):=λ{G G'} g s b u e=>dQ (s _ _ e) λz=>by rw[z,g] at e;cases e
 have s3:bn H2 (dv (·=tl) (upd H2 tl (.lst []))):=ag9 Xv (bn.upd Xv);left
 refine iQ (λm U H'=>∃k o cs out fu,m=cs.length/\U=[some (.ref cl),some (.ref p),some (.ref f),some (.ref tl)]/\H' tl=some (.lst (out.map V.int))/\Tl a (dv (WF f dx) (dv (·=tl) H')) p o/\mz a (dv (·=tl) H') f dx cl k/\dU K (dv (·=tl) H') cl (l.map V.int)/\
   PyFlat.calls shape fu (l.drop k)=some cs/\(∀c∈cs,PyInside.call bound c=true)/\out++rA o cs=rA none acr/\out.length+cs.length*20002<=8000800)
  (λU H'=>U=[some (.ref cl),some (.ref p),some (.ref f),some (.ref tl)]/\H' tl=some (.lst ((rA none acr).map V.int))) acr.length
  ⟨0,none,acr,[],l.length,rfl,rfl,bv,?_,⟨s3 _ _ ZZ.1,s3 _ _ ZZ.2⟩,bn.seq s3 (bn.seq (s1.trans s2) hS),afd,aa8,rfl,by simp;lia⟩ ?_ ?_
 .refine Tl.same (o:=none) (H:=H1) ⟨XG,Xh⟩ (agr.trans (Hw s3))
 .rintro U H' ⟨rfl,ZA⟩;left;exact q tl H' ZA
 .rintro abF m U H' ⟨k,o,cs,out,fu,rfl,rfl,ZA,hT,hF,aac,aam,afe,aby,hlen⟩;have aak:=(dW hF.1).1;left;refine'⟨f,dx,cl,k,l,rfl,⟨aak,(dW hF.2).1⟩,bn.seq jn aac,?_⟩;by_cases X1:l.length<=k
  .refine cX (λz=>absurd z (by simp;exact X1)) (λ_=>?_);rw[bD X1] at aam;obtain rfl:=NM aam;refine abF _ _ ⟨rfl,?_⟩;have e:out=rA none acr:=by rw[←aby];exact(aZ _).symm
   rw[←e];exact ZA
  .refine cX (λ_=>?_) (λz=>absurd (by simp;lia) z);refine⟨_,λ_ _ z=>z,?_⟩;have XV:l.drop k≠[]:=λz=>by
    have:=au List.length z;rw[aT,bc] at this
    lia
   obtain⟨afc,c,t,aap,h1,h2,rfl⟩:=LM aam XV;left;refine' ik ZA ?_;refine⟨(·=tl),λb z=>.inl ⟨out.map V.int,(show b=tl from z)▸ZA⟩,p,o,f,dx,cl,k,l,c,t,rfl,hT,hF,aac,h1,afe c (by simp),λlA H3 kk k' ae9 X9 Yo YC afb hlA hz g=>?_⟩;have g3:H3 tl=none:=g tl rfl;have YY:=Hx (W:=(·=tl)) (H:=H') g;have Y2:=YY _ _ hlA;have ab6:Ex (·=tl) H' H3 tl=some (.lst (out.map V.int)):=(wS (W:=(·=tl)) (b:=tl) rfl).trans ZA;generalize Ex (·=tl) H' H3=H4 at YY Y2 ab6;left;refine⟨lA,_,rfl,Y2,by lia,λl5 H5 s5 _ h5=>?_⟩;have ai5:out.length+(aap.length+1)*20002<=8000800:=hlen;left;refine yi (s5 _ _ ab6) h5 (by rw[af,af,az,sizeLine_eq];lia) ?_;have s6:bn H3 (dv (·=tl) (upd H5 tl (.lst (out.map V.int++((((lu o kk).length:Nat):Int)::lu o kk).map V.int)))):=λb u e=>by
    have nb:b≠tl:=λz=>(by rw[z,g3] at e;cases e);exact dQ (by rw[ap nb];exact s5 _ _ (YY _ _ e)) nb
   refine⟨aap.length,bj _,k',yx o kk,aap,out++((((lu o kk).length:Nat):Int)::lu o kk),afc,rfl,rfl,by rw[bv,aD],YC.same (Hw s6),⟨s6 _ _ Yo.1,s6 _ _ Yo.2⟩,bn.seq s6 afb,by rw[X9];exact h2,λc' XZ=>afe c' (by simp[XZ]),?_,?_⟩
   .rw[←aby,NL ae9,List.append_assoc]
   .rw[aC,az]
    lia
end
end CN
namespace CN
open PySem PySem.Spec PyProof.Rows L2
section
variable{K:cV}{h:Heap}{mg:Str->Option Value}{x m qual:Str}{st:Stmt}{ps fs:List Str}{f C fI:cS}{oc:Value}{od an:Option cS}{XU:Array (Option Value)}{kV doc pm W8 ct:Value}
abbrev FB(x qual:Str)(st:Stmt)(ps:List Str):Prop:=∀(kV doc pm:Value)(an:Option cS)(W8 ct:Value)(us:List Value),us.length=ps.length->bindArgs (PySem.W.fnOf x qual (gA st) (fA st) (dr st) .none kV doc pm an W8 ct) ⟨us,[]⟩=pure (ps.zip us)
theorem NN(X:K.In h)(G:h.Ns mainGlobals mg)(b:FB x x st ps)(n:PySem.W.nsIn K mainGlobals x=some (some (.ref f)))(l:K.lookup f=some ⟨oc,od,.func (PySem.W.fnOf x x (gA st) (fA st) (dr st) .none kV doc pm an W8 ct),XU⟩)(c:PySem.W.codeIn K W8 x=true)(k:PySem.W.keepIn K (.ref f)=true):di K mg x st ps f (PySem.W.fnOf x x (gA st) (fA st) (dr st) .none kV doc pm an W8 ct):=⟨bJ X G n,nN l c k,(nN l c k).binds b⟩
theorem S0(_:K.In h)(b:FB m qual st ps)(n:PySem.W.findIn K (.ref C) m=some (some (.ref f)))(i:PySem.W.isFn K (.ref f)=true)(l:K.lookup f=some ⟨oc,od,.func (PySem.W.fnOf m qual (gA st) (fA st) (dr st) .none kV doc pm an W8 ct),XU⟩)(c:PySem.W.codeIn K W8 qual=true)(k:PySem.W.keepIn K (.ref f)=true):d6 K C m qual st ps f (PySem.W.fnOf m qual (gA st) (fA st) (dr st) .none kV doc pm an W8 ct):=⟨⟨n,i,k⟩,nN l c k,(nN l c k).binds b⟩
theorem S1(_:K.In h)(b:FB "__init__" qual st ps)(mk:PySem.W.makesIn K C=true)(n:PySem.W.findIn K (.ref C) "__init__"=some (some (.ref f)))(i:PySem.W.isFn K (.ref f)=true)(kc:PySem.W.keepIn K (.ref C)=true)(l:K.lookup f=some ⟨oc,od,.func (PySem.W.fnOf "__init__" qual (gA st) (fA st) (dr st) .none kV doc pm an W8 ct),XU⟩)(c:PySem.W.codeIn K W8 qual=true)(k:PySem.W.keepIn K (.ref f)=true):iF K C qual st ps f (PySem.W.fnOf "__init__" qual (gA st) (fA st) (dr st) .none kV doc pm an W8 ct):=⟨⟨mk,n,i,kc⟩,nN l c k,(nN l c k).binds b⟩
theorem S2(X:K.In h)(G:h.Ns mainGlobals mg)(n:PySem.W.nsIn K mainGlobals x=some (some (.ref C)))(pg:PySem.W.plainGet K C Str.empty=true)(hd:PySem.W.hasDictIn K C=true)(po:PySem.W.plainOver K C=true)(sa:PySem.W.findIn K (.ref C) "__setattr__"=some (some (.builtin "object.__setattr__")))(na:∀f∈fs,iy K C f):gX K mg C x fs:=⟨bJ X G n,⟨pg,hd,po,sa⟩,na⟩
theorem P9{P:Str->Prop}:∀f∈([]:List Str),P f:=λ_ h=>nomatch h
theorem BJ{P:Str->Prop}(h1:P x)(h2:∀f∈fs,P f):∀f∈x::fs,P f:=λf h=>by
 rcases aw.mp h with rfl|h
 .exact h1
 .exact h2 f h
theorem S3(h1:PySem.W.findIn K (.ref C) x=some none)(h2:∀f∈fs,iy K C f):∀f∈x::fs,iy K C f:=BJ (P:=iy K C) h1 h2
theorem gli{i:Int}{t:Nat}(e:mg x=some (.int i t)):eB mg x i:=⟨t,e⟩
theorem gls{y:Str}{t:Nat}(e:mg x=some (.str y t)):tD mg x y:=⟨t,e⟩
def vE(x:V)(u:Value):Bool:=
 match u with
 | .int j _=>decide (x=.int j)
 | .str j _=>decide (x=.str j)
 | _=>false
noncomputable def Qa:List V->List Value->Bool
 | [],[]=>true
 | x::xs,u::us=>vE x u&&Qa xs us
 | _,_=>false
theorem Q6:∀{xs:List V} {us:List Value},Qa xs us=true->dM xs us:=by
 intro xs
 induction xs with
 | nil=>
  intro us h;cases us with
  | nil=>exact .nil
  | cons=>cases h
 | cons x xs ih=>
  intro us h;cases us with
  | nil=>cases h
  | cons u us=>
   have h:(vE x u&&Qa xs us)=true:=h;rw[aS] at h;refine .cons ?_ (ih h.2);have h:=h.1;cases u with
   | int j t=>rw[ai h];exact⟨t,rfl⟩
   | str j t=>rw[ai h];exact⟨t,rfl⟩
   | _=>cases h
theorem BK{k:cS}{xs:List V}{Xa:Array Value}{n:Nat}(X:K.In h)(G:h.Ns mainGlobals mg)(e:PySem.W.nsIn K mainGlobals x=some (some (.ref k)))(l:K.lookup k=some ⟨.type "tuple",od,.seq Xa n,XU⟩)(z:decide (Xa.size<=100)=true)(v:Qa xs Xa.toList=true):lm K mg x k xs:=
 ⟨bJ X G e,_,Xa,n,l,rfl,rfl,aA (ai z) (by rw[sizeLine_eq];decide),Q6 v⟩
noncomputable def LO(z:Str):Value->Bool
 | .str y _=>decide (z=y)
 | _=>false
def dK:fb×V->DictEntry->Bool
 | (.inl i,.str z),e=>Value.isInt i e.key&&decide (e.hash=hashInt i)&&LO z e.val
 | _,_=>false
noncomputable def Qb:List (fb×V)->List DictEntry->Bool
 | [],[]=>true
 | p::kvs,e::es=>dK p e&&Qb kvs es
 | _,_=>false
theorem O7{z:Str}{v:Value}(h:LO z v=true):∃t,v=.str z t:=by
 cases v with
 | str y t=>exact⟨t,by rw[ai h]⟩
 | _=>cases h
theorem T4{p:fb×V}{e:DictEntry}(h:dK p e=true):∃i z,p=(.inl i,.str z)/\Value.isInt i e.key=true/\e.hash=hashInt i/\∃t,e.val=.str z t:=by
 obtain⟨k,v⟩:=p;cases k with
 | inr s=>cases h
 | inl i=>
  cases v with
  | str z=>
   have h:(Value.isInt i e.key&&decide (e.hash=hashInt i)&&LO z e.val)=true:=h;rw[aS,aS] at h;exact⟨i,z,rfl,h.1.1,ai h.1.2,O7 h.2⟩
  | _=>cases h
theorem Q7{x qual:Str}(_:K.In h)(l:K.lookup f=some ⟨oc,od,.func (PySem.W.fnOf x qual (gA st) (fA st) (dr st) .none kV doc pm an W8 ct),XU⟩)(c:PySem.W.codeIn K W8 qual=true)(k:PySem.W.keepIn K (.ref f)=true)(b:FB x qual st ps):L2.md K x qual st f (PySem.W.fnOf x qual (gA st) (fA st) (dr st) .none kV doc pm an W8 ct)/\gW K (PySem.W.fnOf x qual (gA st) (fA st) (dr st) .none kV doc pm an W8 ct) ps []:=⟨nN l c k,(nN l c k).binds b⟩
theorem S4{P:Program}{w:World}:∀{kvs:List (fb×V)} {es:List DictEntry},Qb kvs es=true->∃vs,KV kvs vs/\(∀e∈es,∃k,(fZ P w).is k e.key=true/\e.hash=(fZ P w).hash k)/\Pairs (fZ P w) es vs/\vs.map (·.1)=kvs.map (·.1):=by
 intro kvs
 induction kvs with
 | nil=>
  intro es h;cases es with
  | nil=>exact⟨[],.nil,(λ_ h=>nomatch h),.nil,rfl⟩
  | cons=>cases h
 | cons p kvs ih=>
  intro es h;cases es with
  | nil=>cases h
  | cons e es=>
   have h:(dK p e&&Qb kvs es)=true:=h;rw[aS] at h;obtain⟨i,z,rfl,h1,h2,u,h3⟩:=T4 h.1;obtain⟨vs,a1,a2,a3,a4⟩:=ih h.2;refine⟨(Sum.inl i,e.val)::vs,.cons ⟨rfl,u,h3⟩ a1,λe' he=>?_,.cons h1 rfl a3,by rw[ay,ay,a4]⟩;rcases aw.mp he with rfl|he
   .exact⟨Sum.inl i,h1,h2⟩
   .exact a2 e' he
theorem Q8{k:cS}{kvs:List (fb×V)}{es:Array DictEntry}{n:Nat}(X:K.In h)(G:h.Ns mainGlobals mg)(e:PySem.W.nsIn K mainGlobals x=some (some (.ref k)))(l:K.lookup k=some ⟨.type "dict",none,.dict es n,#[]⟩)(s:(k==sysModules)=false)(v:Qb kvs es.toList=true)(nd:(kvs.map (·.1)).Nodup):Gr K mg x k kvs:=
 ⟨bJ X G e,s,λP w h' X'=>by
  obtain⟨vs,a1,a2,a3,a4⟩:=S4 (P:=P) (w:=w) v
  exact⟨vs,a1,_,es,n,X' _ _ l,⟨rfl,rfl,rfl⟩,rfl,(λe he=>a2 e (Array.mem_toList_iff.mpr he)),a3,by rw[a4];exact nd⟩⟩
theorem Q9{k k1 k2:cS}{a b c d:Int}{y z:Str}{h1 h2:Int}{t1 t2 t3 t4 t5 t6 n n1 n2:Nat}{o1 o2:Option cS}{s1 s2:Array (Option Value)}(X:K.In h)(G:h.Ns mainGlobals mg)(e:PySem.W.nsIn K mainGlobals x=some (some (.ref k)))(l:K.lookup k=some ⟨.type "dict",none,.dict #[⟨h1,.ref k1,.str y t1⟩,⟨h2,.ref k2,.str z t2⟩] n,#[]⟩)(s:(k==sysModules)=false)(l1:K.lookup k1=some ⟨.type "tuple",o1,.seq #[.int a t3,.int b t4] n1,s1⟩)(l2:K.lookup k2=some ⟨.type "tuple",o2,.seq #[.int c t5,.int d t6] n2,s2⟩)(q1:decide (reduceHash (Builtin.Tuple.tupleHashOf [hashInt a,hashInt b])=h1)=true)(q2:decide (reduceHash (Builtin.Tuple.tupleHashOf [hashInt c,hashInt d])=h2)=true)(ne:decide (a=c)=false):Gs K mg x k [([.inl a,.inl b],.str y),([.inl c,.inl d],.str z)]:=by
 refine⟨bJ X G e,s,λP w h' X'=>⟨[([.inl a,.inl b],k1,.str y t1),([.inl c,.inl d],k2,.str z t2)],⟨_,_,n,X' _ _ l,⟨rfl,rfl,rfl⟩,rfl,?_,?_,?_⟩,.cons ⟨rfl,t1,rfl⟩ (.cons ⟨rfl,t2,rfl⟩ .nil)⟩⟩
 .have e1:=ai q1;have e2:=ai q2;subst e1 e2;rfl
 .have is:∀(i:Int)(t:Nat),(fZ P w).is (Sum.inl i) (.int i t)=true:=λi t=>by
   show Value.isInt i (.int i t)=true;simp[Value.isInt]
  intro x hx;simp at hx;rcases hx with rfl|rfl
  .exact⟨_,_,n1,X' _ _ l1,rfl,rfl,.cons (is _ _) (.cons (is _ _) .nil)⟩
  .exact⟨_,_,n2,X' _ _ l2,rfl,rfl,.cons (is _ _) (.cons (is _ _) .nil)⟩
 .have:=of_decide_eq_false ne;simp[this]
theorem Ra{nm q:Str}{N:cS}{bs:List Value}{sn:List Str}{sub:List Value}{ab:Bool}{col:Option Bool}{dd:Option cS}{k0 k1 k2 k3 k5:Option Value}{f1 f2:Str}(_:K.In h)(l:K.lookup C=some (excClassObj nm q C N bs [.type "Exception",.type "BaseException",.type "object"] true sn sub ab col dd k0 k1 k2 k3 k5 "Exception.__new__"))(o:PySem.W.nsOkIn K N=true)(i1:PySem.W.nsIn K N "__init__"=some (some (.ref fI)))(i2:PySem.W.nsIn K N "__setattr__"=some none)(i3:PySem.W.nsIn K N f1=some none)(i4:PySem.W.nsIn K N f2=some none)(fn:PySem.W.isFn K (.ref fI)=true)(kp:PySem.W.keepIn K (.ref C)=true)(ga:PySem.W.findIn K (.ref C) "__getattribute__"=some (some (.builtin "BaseException.__getattribute__")))(gr:PySem.W.findIn K (.ref C) "__getattr__"=some none)(hd:PySem.W.hasDictIn K C=true)(n1:PySem.W.findIn K (.ref C) f1=some none)(n2:PySem.W.findIn K (.ref C) f2=some none)(b1:typeLookup (.type "Exception") f1=pure none)(b2:typeLookup (.type "Exception") f2=pure none):rS K C fI [f1,f2]:=
 ⟨⟨nm,q,N,bs,sn,sub,ab,col,dd,k0,k1,k2,k3,k5,l,o,i1,i2,BJ i3 (BJ i4 P9)⟩,fn,kp,ga,gr,hd,S3 n1 (S3 n2 P9),BJ b1 (BJ b2 P9)⟩
theorem fb0{Q:List Value->Prop}(h:Q []):∀us:List Value,us.length=0->Q us:=λ_ l=>List.eq_nil_of_length_eq_zero l▸h
theorem Hz{Q:List Value->Prop}{n:Nat}(h:∀a (us:List Value),us.length=n->Q (a::us))(us:List Value)(l:us.length=n+1):Q us:=by
 cases us with
 | nil=>exact absurd l (Nat.succ_ne_zero n).symm
 | cons a us=>exact h a us (Nat.succ.inj l)
theorem fb1{Q:List Value->Prop}(h:∀a,Q [a]):∀us:List Value,us.length=1->Q us:=Hz λa=>fb0 (h a)
theorem fb2{Q:List Value->Prop}(h:∀a b,Q [a,b]):∀us:List Value,us.length=2->Q us:=Hz λa=>fb1 (h a)
theorem fb3{Q:List Value->Prop}(h:∀a b c,Q [a,b,c]):∀us:List Value,us.length=3->Q us:=Hz λa=>fb2 (h a)
theorem fb4{Q:List Value->Prop}(h:∀a b c d,Q [a,b,c,d]):∀us:List Value,us.length=4->Q us:=Hz λa=>fb3 (h a)
theorem fb5{Q:List Value->Prop}(h:∀a b c d e,Q [a,b,c,d,e]):∀us:List Value,us.length=5->Q us:=Hz λa=>fb4 (h a)
theorem fb6{Q:List Value->Prop}(h:∀a b c d e f,Q [a,b,c,d,e,f]):∀us:List Value,us.length=6->Q us:=Hz λa=>fb5 (h a)
theorem fb7{Q:List Value->Prop}(h:∀a b c d e f g,Q [a,b,c,d,e,f,g]):∀us:List Value,us.length=7->Q us:=Hz λa=>fb6 (h a)
theorem dE(x:Str)(st:Stmt)(ps:List Str)(X:K.In h)(G:h.Ns mainGlobals mg)(n:PySem.W.nsIn K mainGlobals x=some (some (.ref f)):=by symm)(l:K.lookup f=some ⟨oc,od,.func (PySem.W.fnOf x x (gA st) (fA st) (dr st) .none kV doc pm an W8 ct),XU⟩:=by symm)(c:PySem.W.codeIn K W8 x=true:=by symm)(k:PySem.W.keepIn K (.ref f)=true:=by symm)(b:FB x x st ps:=by ac_rfl):∃f g,di K mg x st ps f g:=⟨_,_,NN X G b n l c k⟩
theorem mE(C:cS)(m qual:Str)(st:Stmt)(ps:List Str)(X:K.In h)(n:PySem.W.findIn K (.ref C) m=some (some (.ref f)):=by symm)(i:PySem.W.isFn K (.ref f)=true:=by symm)(l:K.lookup f=some ⟨oc,od,.func (PySem.W.fnOf m qual (gA st) (fA st) (dr st) .none kV doc pm an W8 ct),XU⟩:=by symm)(c:PySem.W.codeIn K W8 qual=true:=by symm)(k:PySem.W.keepIn K (.ref f)=true:=by symm)(b:FB m qual st ps:=by ac_rfl):∃f g,d6 K C m qual st ps f g:=⟨_,_,S0 X b n i l c k⟩
theorem iE(C:cS)(qual:Str)(st:Stmt)(ps:List Str)(X:K.In h)(mk:PySem.W.makesIn K C=true:=by symm)(n:PySem.W.findIn K (.ref C) "__init__"=some (some (.ref f)):=by symm)(i:PySem.W.isFn K (.ref f)=true:=by symm)(kc:PySem.W.keepIn K (.ref C)=true:=by symm)(l:K.lookup f=some ⟨oc,od,.func (PySem.W.fnOf "__init__" qual (gA st) (fA st) (dr st) .none kV doc pm an W8 ct),XU⟩:=by symm)(c:PySem.W.codeIn K W8 qual=true:=by symm)(k:PySem.W.keepIn K (.ref f)=true:=by symm)(b:FB "__init__" qual st ps:=by ac_rfl):∃f g,iF K C qual st ps f g:=⟨_,_,S1 X b mk n i kc l c k⟩
theorem cE(C:cS)(x:Str)(fs:List Str)(X:K.In h)(G:h.Ns mainGlobals mg)(n:PySem.W.nsIn K mainGlobals x=some (some (.ref C)):=by symm)(pg:PySem.W.plainGet K C Str.empty=true:=by symm)(hd:PySem.W.hasDictIn K C=true:=by symm)(po:PySem.W.plainOver K C=true:=by symm)(sa:PySem.W.findIn K (.ref C) "__setattr__"=some (some (.builtin "object.__setattr__")):=by symm)(na:∀f∈fs,iy K C f:=by repeat first|exact P9|refine S3 (by symm) ?_):gX K mg C x fs:=S2 X G n pg hd po sa na
theorem gE{i:Int}{t:Nat}(X:K.In h)(G:h.Ns mainGlobals mg)(n:PySem.W.nsIn K mainGlobals x=some (some (.int i t)):=by symm):eB mg x i:=⟨t,bJ X G n⟩
theorem sE{y:Str}{t:Nat}(X:K.In h)(G:h.Ns mainGlobals mg)(n:PySem.W.nsIn K mainGlobals x=some (some (.str y t)):=by symm):tD mg x y:=⟨t,bJ X G n⟩
theorem bE(X:K.In h)(G:h.Ns mainGlobals mg)(n:PySem.W.nsIn K mainGlobals x=some none:=by symm):mg x=none:=PySem.W.mg_none_of X G n
end
end CN
open PySem PySem.W PyProof.Rows CN L2
set_option maxHeartbeats 0 in
theorem PySem.Challenge.cw_coursenumbers_s01_answers_holds : PySem.Challenge.rw_coursenumbers_s01_answers.Holds := by
 refine HH.hd.2 ?_;unfold HH.hd;dsimp only
 k_fillS
 refine L2.KW (r:=PySem.Challenge.rw_coursenumbers_s01_answers) (k:=18) (CX:=L2.lP) (ps:=["calls"]) (sp:=CN.P8) HH.sd rfl rfl ⟨rfl,by decide,by decide⟩ (λw h Y=>PySem.W.kIn_of Y) ?F ?S (λ_ _ _ _ z=>z)
 case F=>
  intro w mg fa h Y KX G adJ;obtain⟨f1,g1,t1⟩:=dE "limit_of_totals" oS [] KX G;obtain⟨f2,g2,t2⟩:=dE "tokens_of" yU ["text"] KX G;obtain⟨f3,g3,t3⟩:=dE "past_blanks" vm ["text","place"] KX G;obtain⟨f4,g4,t4⟩:=dE "line_end" A0 ["text","place"] KX G;obtain⟨f5,g5,t5⟩:=dE "token_at" A1 ["text","place"] KX G;obtain⟨f6,g6,t6⟩:=dE "is_letter" rX ["byte"] KX G;obtain⟨f7,g7,t7⟩:=dE "is_digit" uK ["byte"] KX G;obtain⟨f8,g8,t8⟩:=dE "word_at" nQ ["text","place"] KX G;obtain⟨f9,g9,t9⟩:=dE "character_of" tK ["byte"] KX G;obtain⟨f10,g10,t10⟩:=dE "number_at" yV ["text","place","first_digit"] KX G;obtain⟨f11,g11,t11⟩:=dE "is_number" yW ["digits","negative"] KX G;obtain⟨f12,g12,t12⟩:=dE "amount_of" yX ["digits"] KX G;obtain⟨f13,g13,t13⟩:=dE "quoted_at" yY ["text","place"] KX G;obtain⟨f14,g14,t14⟩:=dE "quoted_byte" vn ["text","place"] KX G;obtain⟨f15,g15,t15⟩:=dE "hex_byte" A2 ["first","second"] KX G;obtain⟨f16,g16,t16⟩:=dE "hex_digit" yZ ["byte"] KX G;obtain⟨f17,g17,t17⟩:=dE "quoted_width" tL ["text","place"] KX G;obtain⟨f18,g18,t18⟩:=dE "sign_at" Eo ["text","place"] KX G;obtain⟨f19,g19,t19⟩:=dE "read_row" A3 ["reader","sign","read_one"] KX G;obtain⟨f20,g20,t20⟩:=dE "read_bracketed" pQ ["reader","read_one"] KX G;obtain⟨f21,g21,t21⟩:=dE "read_handed" vo ["reader"] KX G;obtain⟨f22,g22,t22⟩:=dE "read_seat" y4 ["reader","count"] KX G;obtain⟨f23,g23,t23⟩:=dE "width_of" A4 ["total"] KX G;obtain⟨f24,g24,t24⟩:=dE "packed_number" qV ["number","width"] KX G;obtain⟨f25,g25,t25⟩:=dE "unpacked_number" oU ["packed"] KX G;obtain⟨f26,g26,t26⟩:=dE "fits" Ng ["span","value"] KX G;obtain⟨f27,g27,t27⟩:=dE "value_count" vp ["span"] KX G;obtain⟨f28,g28,t28⟩:=dE "text_count" wH ["longest"] KX G;obtain⟨f29,g29,t29⟩:=dE "message_count" qW ["spans"] KX G;obtain⟨f30,g30,t30⟩:=dE "value_place" vq ["span","value"] KX G;obtain⟨f31,g31,t31⟩:=dE "text_place" wI ["content"] KX G;obtain⟨f32,g32,t32⟩:=dE "value_at" A5 ["span","place"] KX G;obtain⟨f33,g33,t33⟩:=dE "text_at" Ep ["place"] KX G;obtain⟨f34,g34,t34⟩:=dE "read_part" y6 ["text"] KX G;obtain⟨f35,g35,t35⟩:=dE "read_state" wJ ["reader","count"] KX G;obtain⟨f36,g36,t36⟩:=dE "arrow_of" A6 ["deed"] KX G;obtain⟨f37,g37,t37⟩:=dE "read_branches" qX ["reader"] KX G;obtain⟨f38,g38,t38⟩:=dE "read_branch" vt ["reader","count"] KX G;obtain⟨f39,g39,t39⟩:=dE "read_span" y8 ["reader","count"] KX G;obtain⟨f40,g40,ad1⟩:=dE "read_num" A7 ["reader"] KX G;obtain⟨f41,g41,ab1⟩:=dE "read_text" y9 ["reader"] KX G;obtain⟨f42,g42,t42⟩:=dE "read_course" vw ["text"] KX G;obtain⟨f43,g43,t43⟩:=dE "read_message" tM ["reader","count"] KX G;obtain⟨f44,g44,t44⟩:=dE "read_value" wK ["reader","count"] KX G;obtain⟨f45,g45,t45⟩:=dE "path_of" Er ["part","number","messages"] KX G;obtain⟨f46,g46,t46⟩:=dE "end_of" GC ["number","path"] KX G;obtain⟨f47,g47,t47⟩:=dE "wrong_with" wL ["state","message"] KX G;obtain⟨f48,g48,t48⟩:=dE "branch_of" za ["state","label"] KX G;obtain⟨f49,g49,t49⟩:=dE "all_fit" Es ["spans","given"] KX G;obtain⟨f50,g50,t50⟩:=dE "bytes_of" A8 ["text"] KX G;obtain⟨f51,g51,t51⟩:=dE "part_form" zb ["part"] KX G;obtain⟨f52,g52,t52⟩:=dE "state_form" wM ["state"] KX G;obtain⟨f53,g53,t53⟩:=dE "branch_form" vx ["branch"] KX G;obtain⟨f54,g54,t54⟩:=dE "span_form" zc ["span"] KX G;obtain⟨f55,g55,t55⟩:=dE "handed_form" vy ["seats"] KX G;obtain⟨f56,g56,t56⟩:=dE "course_form" vz ["messages"] KX G;obtain⟨f57,g57,t57⟩:=dE "message_form" tN ["message"] KX G;obtain⟨f58,g58,t58⟩:=dE "value_form" wN ["value"] KX G;obtain⟨f59,g59,ae0⟩:=dE "quoted_form" vA ["content"] KX G;obtain⟨f60,g60,t60⟩:=dE "quoted_byte_form" nR ["byte"] KX G;obtain⟨f61,g61,ad5⟩:=dE "part_of" Et ["text"] KX G;obtain⟨f62,g62,t62⟩:=dE "state_numbers" qY ["part"] KX G;obtain⟨f63,g63,t63⟩:=dE "check_names" vB ["part","numbers"] KX G;obtain⟨f64,g64,t64⟩:=dE "check_state_name" nS ["name","numbers"] KX G;obtain⟨f65,g65,t65⟩:=dE "check_new" zd ["name","earlier"] KX G;obtain⟨f66,g66,t66⟩:=dE "check_seats" vC ["state"] KX G;obtain⟨f67,g67,t67⟩:=dE "check_branches" pR ["state","worker","numbers"] KX G;obtain⟨f68,g68,t68⟩:=dE "check_handed" tO ["seats","worker"] KX G;obtain⟨f69,g69,t69⟩:=dE "link" Nh ["state","numbers"] KX G;obtain⟨f70,g70,t70⟩:=dE "label_of" A9 ["branch"] KX G;obtain⟨f71,g71,t71⟩:=dE "rank_of" Eu ["counts","number","messages","path"] KX G;obtain⟨f72,g72,t72⟩:=dE "courses_before" pS ["counts","number","branch","left"] KX G;obtain⟨f73,g73,t73⟩:=dE "message_place" qZ ["branch","message"] KX G;obtain⟨f74,g74,t74⟩:=dE "course_of" ze ["counts","number","length","rank"] KX G;obtain⟨f75,g75,t75⟩:=dE "branch_at" zf ["counts","number","left","rank"] KX G;obtain⟨f76,g76,t76⟩:=dE "message_at" wO ["branch","place"] KX G;obtain⟨f77,g77,t77⟩:=dE "order_of" Ba ["first_rank","second_rank"] KX G;obtain⟨f78,g78,t78⟩:=dE "counted" Ev ["told"] KX G;obtain⟨f79,g79,t79,bb⟩:∃f g,di _ mg "answers" Ew ["calls"] f g/\∀(s:cU)(us:List Value),us.length=(["calls"]:List Str).length->BindsTo s g ⟨us,[]⟩ ((["calls"]:List Str).zip us):=⟨_,_,NN KX G (λ_ _ _ _ _ _=>fb1 λ_=>rfl) (by symm) (by symm) (by symm) (by symm),λs=>fb1 λ_=>.of_eq rfl⟩;obtain⟨f80,g80,t80⟩:=dE "answer_of" zg ["teller","feed"] KX G;obtain⟨f81,g81,t81⟩:=dE "answer_to" zh ["teller","call","numbers","rows"] KX G;obtain⟨f82,g82,t82⟩:=iE 55 "Counts.__init__" vD ["self","part"] KX;obtain⟨f83,g83,t83⟩:=mE 55 "total" "Counts.total" tQ ["self","number","length"] KX;obtain⟨f84,g84,t84⟩:=mE 55 "total_behind" "Counts.total_behind" lQ ["self","state","last"] KX;obtain⟨f85,g85,t85⟩:=mE 55 "courses_by" "Counts.courses_by" mG ["self","branch","left"] KX;obtain⟨f86,g86,t86⟩:=iE 101 "Token.__init__" wP ["self","kind","content","place","behind"] KX;obtain⟨f87,g87,t87⟩:=iE 317 "Reader.__init__" vF ["self","text"] KX;obtain⟨f88,g88,t88⟩:=mE 317 "token" "Reader.token" tR ["self"] KX;obtain⟨f89,g89,t89⟩:=mE 317 "sees_end" "Reader.sees_end" oV ["self"] KX;obtain⟨f90,g90,t90⟩:=mE 317 "sees" "Reader.sees" vI ["self","content"] KX;obtain⟨f91,g91,ad2⟩:=mE 317 "sees_name" "Reader.sees_name" nU ["self"] KX;obtain⟨f92,g92,t92⟩:=mE 317 "demand" "Reader.demand" ra ["self","allowed"] KX;obtain⟨f93,g93,ad3⟩:=mE 317 "demand_room" "Reader.demand_room" mm ["self","count","most"] KX;obtain⟨f94,g94,t94⟩:=mE 317 "take" "Reader.take" vJ ["self"] KX;obtain⟨f95,g95,t95⟩:=mE 317 "take_this" "Reader.take_this" nV ["self","content"] KX;obtain⟨f96,g96,t96⟩:=mE 317 "take_name" "Reader.take_name" nX ["self"] KX;obtain⟨f97,g97,t97⟩:=mE 317 "take_name_within" "Reader.take_name_within" jY ["self","count","most"] KX;obtain⟨f98,g98,t98⟩:=mE 317 "take_number" "Reader.take_number" mn ["self"] KX;obtain⟨f99,g99,t99⟩:=iE 387 "Span.__init__" zi ["self","kind","least","most"] KX;obtain⟨aha,ahb,ahc⟩:=iE 408 "Value.__init__" wQ ["self","kind","content"] KX;obtain⟨ahd,ahe,ahf⟩:=iE 485 "Branch.__init__" vG ["self","label","spans","handed","target"] KX;obtain⟨ahg,ahh,ahi⟩:=iE 506 "State.__init__" wR ["self","name","deed","first","second","branches"] KX;obtain⟨ahj,ahk,ahl⟩:=iE 527 "Part.__init__" zj ["self","title","worker","start","states"] KX;obtain⟨ahm,ahn,aho⟩:=iE 604 "Message.__init__" tP ["self","label","given","handed"] KX;obtain⟨ahp,ahq,ahr⟩:=iE 871 "Told.__init__" rY ["self","refusal","messages","path"] KX;obtain⟨ahs,aht,ahu⟩:=iE 1046 "Teller.__init__" vH ["self"] KX;obtain⟨ahv,ahw,ahx⟩:=mE 1046 "load" "Teller.load" vK ["self","text"] KX;obtain⟨ahy,ahz,ahA⟩:=mE 1046 "shown" "Teller.shown" tS ["self"] KX;obtain⟨ahB,ahC,ahD⟩:=mE 1046 "size" "Teller.size" vL ["self","i","j"] KX;obtain⟨ahE,ahF,ahG⟩:=mE 1046 "total" "Teller.total" tT ["self","i","n"] KX;obtain⟨ahH,ahI,ahJ⟩:=mE 1046 "rank" "Teller.rank" vM ["self","i","text"] KX;obtain⟨ahK,ahL,ahM⟩:=mE 1046 "course" "Teller.course" rb ["self","i","n","r"] KX;obtain⟨ahN,ahO,ahP⟩:=mE 1046 "later" "Teller.later" tU ["self","i","k","text"] KX;obtain⟨ahQ,ahR,ahS⟩:=mE 1046 "compare" "Teller.compare" pT ["self","i","first_text","second_text"] KX;obtain⟨ahT,ahU,ahV⟩:=mE 1046 "share" "Teller.share" tV ["self","i","n","j"] KX;obtain⟨ahW,ahX,ahY⟩:=mE 1046 "width" "Teller.width" tW ["self","i","n"] KX;obtain⟨ahZ,ah0,ah1⟩:=mE 1046 "pack" "Teller.pack" vN ["self","i","text"] KX;obtain⟨ah2,ah3,ah4⟩:=mE 1046 "unpack" "Teller.unpack" rc ["self","i","n","packed"] KX;obtain⟨ah5,ah6,ah7⟩:=mE 1046 "goes" "Teller.goes" vO ["self","i","text"] KX;obtain⟨ah8,ah9,aia⟩:=mE 1046 "has_branch" "Teller.has_branch" mH ["self","i","j"] KX;obtain⟨aib,aic,aid⟩:=mE 1046 "branch" "Teller.branch" re ["self","i","j"] KX;obtain⟨aie,aif,aig⟩:=mE 1046 "rank_told" "Teller.rank_told" nY ["self","i","told"] KX;obtain⟨aih,aii,acy⟩:=mE 1046 "course_answer" "Teller.course_answer" kP ["self","i","n","r"] KX;obtain⟨aij,aik,ail⟩:=mE 1046 "state_refusal" "Teller.state_refusal" kQ ["self","i"] KX;obtain⟨aim,ain,acz⟩:=mE 1046 "number_refusal" "Teller.number_refusal" kI ["self","i","n"] KX;obtain⟨aio,aip,aiq⟩:=mE 1046 "total_refusal" "Teller.total_refusal" kR ["self","i","n"] KX;obtain⟨air,ais,ait⟩:=mE 1046 "told_course" "Teller.told_course" mq ["self","i","text"] KX;obtain⟨aiu,aiv,aiw⟩:=mE 1046 "told_way" "Teller.told_way" oW ["self","i","text","no_course","goes_not"] KX;obtain⟨aix,aiy,aiz⟩:=iE 1102 "Feed.__init__" zk ["self","calls"] KX;obtain⟨aiA,aiB,aiC⟩:=mE 1102 "is_done" "Feed.is_done" tX ["self"] KX;obtain⟨aiD,aiE,aiF⟩:=mE 1102 "one" "Feed.one" Bb ["self"] KX;obtain⟨aiG,aiH,aiI⟩:=mE 1102 "row" "Feed.row" Bc ["self"] KX;obtain⟨aiJ,aiK,aiL,aiM,aiN,⟨aiO,aiP⟩⟩:∃c f g,mg "Fault"=some (.ref c)/\rS _ c f ["code","place"]/\(L2.md _ "__init__" "Fault.__init__" mr f g/\gW _ g ["self","code","place"] []):=⟨_,_,_,bJ KX G (by symm),Ra KX (by symm) (by kernel_rfl) (by symm) (by symm) (by symm) (by symm) (by symm) (by symm) (by symm) (by symm) (by symm) (by symm) (by symm) rfl rfl,Q7 KX (by symm) (by symm) (by symm) (λ_ _ _ _ _ _=>fb3 λ_ _ _=>rfl)⟩;obtain⟨aiQ,aiR⟩:∃k,lm _ mg "BLANKS" k [.int (32),.int (9),.int (10)]:=⟨_,BK KX G (by symm) (by symm) (by kernel_rfl) (by kernel_rfl)⟩;obtain⟨aiS,aiT⟩:∃k,Gr _ mg "ONE_BYTE_SIGNS" k [(.inl 61,.str "="),(.inl 123,.str "{"),(.inl 125,.str "}"),(.inl 40,.str "("),(.inl 41,.str ")"),(.inl 91,.str "["),(.inl 93,.str "]"),(.inl 44,.str ","),(.inl 59,.str ";"),(.inl 58,.str ":"),(.inl 33,.str "!"),(.inl 63,.str "?"),(.inl 124,.str "|")]:=⟨_,Q8 KX G (by symm) (by symm) (by kernel_rfl) (by kernel_rfl) (by rfl')⟩;obtain⟨aiU,aiV⟩:∃k,Gs _ mg "TWO_BYTE_SIGNS" k [([.inl 45,.inl 62],.str "->"),([.inl 60,.inl 45],.str "<-")]:=⟨_,Q9 KX G (by symm) (by symm) (by kernel_rfl) (by symm) (by symm) (by kernel_rfl) (by kernel_rfl) rfl⟩;obtain⟨aiW,aiX⟩:∃k,lm _ mg "RESERVED" k [.str "script",.str "parties",.str "seat",.str "of",.str "start",.str "end",.str "both",.str "flag",.str "num",.str "text",.str "part",.str "stop",.str "send",.str "recv",.str "program",.str "for",.str "def",.str "if",.str "pick",.str "any",.str "set",.str "go",.str "true",.str "false"]:=⟨_,BK KX G (by symm) (by symm) (by kernel_rfl) (by kernel_rfl)⟩;obtain⟨aiY,aiZ⟩:∃k,lm _ mg "NUMBERS" k [.int (0),.int (0),.int (2),.int (2),.int (1),.int (3),.int (2),.int (1),.int (3),.int (2),.int (1),.int (2),.int (1)]:=⟨_,BK KX G (by symm) (by symm) (by kernel_rfl) (by kernel_rfl)⟩;obtain⟨ai0,ai1⟩:∃k,lm _ mg "ROWS" k [.int (1),.int (0),.int (0),.int (0),.int (1),.int (0),.int (1),.int (2),.int (0),.int (0),.int (1),.int (1),.int (1)]:=⟨_,BK KX G (by symm) (by symm) (by kernel_rfl) (by kernel_rfl)⟩;have T:Txt _ mg ⟨f1,g1,f2,g2,f3,g3,f4,g4,f5,g5,f6,g6,f7,g7,f8,g8,f9,g9,f10,g10,f11,g11,f12,g12,f13,g13,f14,g14,f15,g15,f16,g16,f17,g17,f18,g18,f19,g19,f20,g20,f21,g21,f22,g22,f23,g23,f24,g24,f25,g25,f26,g26,f27,g27,f28,g28,f29,g29,f30,g30,f31,g31,f32,g32,f33,g33,f34,g34,f35,g35,f36,g36,f37,g37,f38,g38,f39,g39,f40,g40,f41,g41,f42,g42,f43,g43,f44,g44,f45,g45,f46,g46,f47,g47,f48,g48,f49,g49,f50,g50,f51,g51,f52,g52,f53,g53,f54,g54,f55,g55,f56,g56,f57,g57,f58,g58,f59,g59,f60,g60,f61,g61,f62,g62,f63,g63,f64,g64,f65,g65,f66,g66,f67,g67,f68,g68,f69,g69,f70,g70,f71,g71,f72,g72,f73,g73,f74,g74,f75,g75,f76,g76,f77,g77,f78,g78,f79,g79,f80,g80,f81,g81,55,101,317,387,408,485,506,527,604,871,1046,1102,f82,g82,f86,g86,f87,g87,f99,g99,aha,ahb,ahd,ahe,ahg,ahh,ahj,ahk,ahm,ahn,ahp,ahq,ahs,aht,aix,aiy,f83,g83,f84,g84,f85,g85,f88,g88,f89,g89,f90,g90,f91,g91,f92,g92,f93,g93,f94,g94,f95,g95,f96,g96,f97,g97,f98,g98,ahv,ahw,ahy,ahz,ahB,ahC,ahE,ahF,ahH,ahI,ahK,ahL,ahN,ahO,ahQ,ahR,ahT,ahU,ahW,ahX,ahZ,ah0,ah2,ah3,ah5,ah6,ah8,ah9,aib,aic,aie,aif,aih,aii,aij,aik,aim,ain,aio,aip,air,ais,aiu,aiv,aiA,aiB,aiD,aiE,aiG,aiH,aiJ,aiK,aiL,aiQ,aiS,aiU,aiW,aiY,ai0⟩:=⟨t1,t2,t3,t4,t5,t6,t7,t8,t9,t10,t11,t12,t13,t14,t15,t16,t17,t18,t19,t20,t21,t22,t23,t24,t25,t26,t27,t28,t29,t30,t31,t32,t33,t34,t35,t36,t37,t38,t39,ad1,ab1,t42,t43,t44,t45,t46,t47,t48,t49,t50,t51,t52,t53,t54,t55,t56,t57,t58,ae0,t60,ad5,t62,t63,t64,t65,t66,t67,t68,t69,t70,t71,t72,t73,t74,t75,t76,t77,t78,t79,t80,t81,(cE 55 "Counts" ["part","limit","rows"] KX G),(cE 101 "Token" ["kind","content","place","behind"] KX G),(cE 317 "Reader" ["tokens","at"] KX G),(cE 387 "Span" ["kind","least","most"] KX G),(cE 408 "Value" ["kind","content"] KX G),(cE 485 "Branch" ["label","spans","handed","target","many","goal"] KX G),(cE 506 "State" ["name","deed","first","second","branches","by_label"] KX G),(cE 527 "Part" ["title","worker","start","states","form"] KX G),(cE 604 "Message" ["label","given","handed"] KX G),(cE 871 "Told" ["refusal","messages","path"] KX G),(cE 1046 "Teller" ["counts"] KX G),(cE 1102 "Feed" ["calls","at"] KX G),t82,t86,t87,t99,ahc,ahf,ahi,ahl,aho,ahr,ahu,aiz,t83,t84,t85,t88,t89,t90,ad2,t92,ad3,t94,t95,t96,t97,t98,ahx,ahA,ahD,ahG,ahJ,ahM,ahP,ahS,ahV,ahY,ah1,ah4,ah7,aia,aid,aig,acy,ail,acz,aiq,ait,aiw,aiC,aiF,aiI,aiN,aiM,aiO,aiP,aiR,aiT,aiV,aiX,aiZ,ai1,gE KX G,gE KX G,gE KX G,gE KX G,gE KX G,gE KX G,gE KX G,gE KX G,gE KX G,gE KX G,gE KX G,gE KX G,gE KX G,gE KX G,gE KX G,gE KX G,gE KX G,gE KX G,gE KX G,gE KX G,gE KX G,gE KX G,gE KX G,gE KX G,gE KX G,gE KX G,gE KX G,gE KX G,gE KX G,gE KX G,gE KX G,gE KX G,gE KX G,gE KX G,gE KX G,gE KX G,gE KX G,gE KX G,gE KX G,gE KX G,gE KX G,gE KX G,gE KX G,gE KX G,gE KX G,gE KX G,gE KX G,gE KX G,gE KX G,gE KX G,gE KX G,gE KX G,gE KX G,gE KX G,gE KX G,gE KX G,gE KX G,gE KX G,gE KX G,gE KX G,gE KX G,gE KX G,gE KX G,gE KX G,gE KX G,gE KX G,gE KX G,gE KX G,sE KX G,sE KX G,sE KX G,sE KX G,sE KX G,sE KX G,sE KX G,sE KX G,sE KX G,sE KX G,bE KX G,bE KX G,bE KX G,bE KX G,bE KX G,bE KX G,bE KX G,bE KX G,bE KX G,bE KX G,bE KX G⟩;have e:=adJ.symm.trans T.pF.mg_;cases e;exact⟨_,bb,λbase _ _=>LN T⟩
 case S=>
  intro K H xs a hO adK acJ hx;cases hx with
  | cons h1 h2=>
   cases h2;cases h1 with
   | lst hs ha=>
    have e:=L2.J4 a.1 _ ha;subst e;exact⟨_,a.1,rfl,hs,acJ,λp H1 hp=>.lst (L2.dU.of hp) (L2.J3 _)⟩
