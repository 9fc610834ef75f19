import PyProof.Rows.All
import Wide.All
import OpenK.AllK
import Wide.FinOn
import Lean
import PyProof.EqAt
import PyProof.EqKinds
import PyProof.TupleCall
import PySem.Challenge.RW_oncenames_k18_whole_unwanted_is_unneeded
set_option hygiene false
local macro_rules
| `(tactic|walk_at "a")=>`(tactic|(first|exact Loc.yC (wb (by decide +kernel))|exact dC (by decide +kernel)|exact dD (by decide +kernel)))
| `(tactic|walk_at "b")=>`(tactic|(first|exact wV (by decide +kernel)|exact fb (by decide +kernel)))
| `(tactic|walk_at "c")=>`(tactic|(first|exact Nb (by decide +kernel)|exact Nc (by decide +kernel)))
| `(tactic|walk_at "d")=>`(tactic|(first|exact wb (by decide +kernel)|exact kX (by decide +kernel)))
| `(tactic|walk_at "e")=>`(tactic|(first|assumption|exact dS.mono (by assumption) (by decide)))
set_option hygiene true
set_option Elab.async false
set_option linter.all false
set_option maxRecDepth 100000
namespace L2
open PySem PySem.Spec PyProof.Rows
abbrev Key:=Sum Int Str
def pI:Key->Value->Bool
 | .inl k,v=>Value.isInt k v
 | .inr x,v=>Value.isStrOf x v
def S_(w:World):Key->Int
 | .inl k=>hashInt k
 | .inr x=>hashStr w x
theorem cK:∀{k:Key}{v:Value},pI k v=true->(∃i t,k=Sum.inl i/\v=Value.int i t)\/(∃x t,k=Sum.inr x/\v=Value.str x t)
 | .inl i,v,h=>by
  obtain⟨t,e⟩:=Value.isInt_shape (k:=i) (v:=v) h
  exact .inl ⟨i,t,rfl,e⟩
 | .inr x,v,h=>by
  obtain⟨t,e⟩:=Value.isStrOf_shape (x:=x) (v:=v) h
  exact .inr ⟨x,t,rfl,e⟩
theorem Ct(i:Int)(t:Tok):pI (.inl i) (.int i t)=true:=by simp[pI,Value.isInt]
theorem oW(x:Str)(t:Tok):pI (.inr x) (.str x t)=true:=by simp[pI,Value.isStrOf]
theorem LN(a b:Int):decide ((Sum.inl a:Key)=Sum.inl b)=(a==b):=by
 by_cases e:a=b
 ·subst e;simp
 ·have h:¬(Sum.inl a:Key)=Sum.inl b:=fun q=>e (Sum.inl.inj q)
  rw[decide_eq_false h]
  exact(beq_eq_false_iff_ne.mpr e).symm
theorem LK(a b:Str):decide ((Sum.inr a:Key)=Sum.inr b)=decide (a=b):=by
 by_cases e:a=b
 ·subst e;simp
 ·have h:¬(Sum.inr a:Key)=Sum.inr b:=fun q=>e (Sum.inr.inj q)
  rw[decide_eq_false h,decide_eq_false e]
theorem LM(a:Int)(b:Str):decide ((Sum.inl a:Key)=Sum.inr b)=false:=decide_eq_false (fun q=>nomatch q)
theorem LL(a:Str)(b:Int):decide ((Sum.inr a:Key)=Sum.inl b)=false:=decide_eq_false (fun q=>nomatch q)
def br(prog:Program)(w:World):PySem.KeyKind prog w Key where
 is:=pI
 hash:=S_ w
 inj:=fun v a b ha hb=>by
  rcases cK ha with⟨i,t,rfl,rfl⟩|⟨x,t,rfl,rfl⟩
  ·rcases cK hb with⟨j,u,rfl,e⟩|⟨y,u,rfl,e⟩
   ·injection e with e1 _;rw[e1]
   ·exact nomatch e
  ·rcases cK hb with⟨j,u,rfl,e⟩|⟨y,u,rfl,e⟩
   ·exact nomatch e
   ·injection e with e1 _;rw[e1]
 byValue:=fun k v h=>by
  rcases cK h with⟨i,t,rfl,rfl⟩|⟨x,t,rfl,rfl⟩<;>rfl
 pyHash:=fun hv h=>by
  rcases cK hv with⟨i,t,rfl,rfl⟩|⟨x,t,rfl,rfl⟩
  ·exact wpAny_pyHash_int h
  ·exact wpAny_pyHash_str h
 eqBool:=fun hu hv h=>by
  rcases cK hu with⟨i,t,rfl,rfl⟩|⟨x,t,rfl,rfl⟩
  ·rcases cK hv with⟨j,u,rfl,rfl⟩|⟨y,u,rfl,rfl⟩
   ·rw[LN] at h;exact wpAny_eqBool_int h
   ·rw[LM] at h;exact SeqAt.EqAt.int_str i t y u _ _ _ _ h
  ·rcases cK hv with⟨j,u,rfl,rfl⟩|⟨y,u,rfl,rfl⟩
   ·rw[LL] at h;exact SeqAt.EqAt.str_int x t j u _ _ _ _ h
   ·rw[LK] at h;exact wpAny_eqBool_str h
 «strs»:=fun k x t v h=>by
  rcases cK h with⟨i,u,rfl,e⟩|⟨y,u,rfl,e⟩
  ·exact nomatch e
  ·injection e with e1 _
   subst e1
   cases v<;>rfl
theorem xW(prog:Program)(w:World)(i:Int)(t:Tok):(br prog w).is (.inl i) (.int i t)=true:=Ct i t
theorem xV(prog:Program)(w:World)(x:Str)(t:Tok):(br prog w).is (.inr x) (.str x t)=true:=oW x t
end L2
namespace L2
open PySem PySem.Spec PyProof.Rows
inductive V where
 |bH|bl (b:Bool)|int (i:Int)|str (x:Str)|wH (b:Array UInt8)|Gp (b:UInt64)|ref (a:Addr)|ty (n:String)
 deriving DecidableEq
def RelV:V->Value->Prop
 | .bH,u=>u=Value.none
 | .bl b,u=>u=Value.bool b
 | .int i,u=>∃t,u=Value.int i t
 | .str x,u=>∃t,u=Value.str x t
 | .wH b,u=>∃t,u=Value.bytes b t
 | .Gp b,u=>∃t,u=Value.float b t
 | .ref a,u=>u=Value.ref a
 | .ty n,u=>u=Value.type n
abbrev Vals:List V->List Value->Prop:=Paired RelV
theorem Vals.length{xs:List V}{us:List Value}(r:Vals xs us):xs.length=us.length:=Paired.length r
theorem Vals.get:∀{xs:List V}{us:List Value}{i:Nat}{x:V},Vals xs us->xs[i]? = some x->∃u,us[i]? = some u/\RelV x u
 |_,_,_,_,.nil,e=>by simp at e
 |_,_,0,_,.cons r _,e=>by simp at e;subst e;exact⟨_,rfl,r⟩
 |_,_,i+1,x,.cons _ t,e=>by
  obtain⟨u,h1,h2⟩:=Vals.get (i:=i) (x:=x) t (by simpa using e)
  exact⟨u,by simpa using h1,h2⟩
theorem Vals.set{x:V}{u:Value}(r:RelV x u):∀{xs:List V}{us:List Value} (i:Nat),Vals xs us->Vals (xs.set i x) (us.set i u)
 |_,_,_,.nil=>.nil
 |_,_,0,.cons _ t=>.cons r t
 |_,_,i+1,.cons q t=>.cons q (Vals.set r i t)
theorem Vals.append:∀{xs ys:List V}{us ws:List Value},Vals xs us->Vals ys ws->Vals (xs++ys) (us++ws)
 |_,_,_,_,.nil,s=>s
 |_,_,_,_,.cons r t,s=>.cons r (Vals.append t s)
theorem Vals.take:∀{xs:List V}{us:List Value} (n:Nat),Vals xs us->Vals (xs.take n) (us.take n)
 |_,_,0,_=>.nil
 |_,_,_+1,.nil=>.nil
 |_,_,n+1,.cons r t=>.cons r (Vals.take n t)
theorem Vals.drop:∀{xs:List V}{us:List Value} (n:Nat),Vals xs us->Vals (xs.drop n) (us.drop n)
 |_,_,0,r=>r
 |_,_,_+1,.nil=>.nil
 |_,_,n+1,.cons _ t=>Vals.drop n t
theorem Vals.none_of:∀{xs:List V}{us:List Value}{i:Nat},Vals xs us->xs[i]? = none->us[i]? = none:=fun{xs us i} r e=>by
 have h1:=r.length
 have h2:xs.length<=i:=List.getElem?_eq_none_iff.mp e
 exact List.getElem?_eq_none_iff.mpr (by omega)
def lQ:Option V->Option Value->Prop
 |some v,some u=>RelV v u
 |none,none=>True
 |_,_=>False
def KV{κ:Type}:List (κ×V)->List (κ×Value)->Prop:=Paired fun(p:κ×V) (q:κ×Value)=>p.1=q.1/\RelV p.2 q.2
def kV:Key->V
 | .inl i=>.int i
 | .inr x=>.str x
inductive HO where
 |lst (xs:List V)
 |tup (xs:List V)
 |dK (av:List (Key×V))|dT (av:List (List Key×V))
 |set (S:Int->Bool) (n:Nat)
 |ins (C dx:Addr) (fs:List (Str×V))
 |own (x:Addr)
 |xd (fs:List (Str×V))
 |met (f x:Addr)
 |Na (lo hi:Int)
 |aU (o:Obj) (u:HO)
 |Kq (ps:Array Value)
 |ext (φ:Heap->Prop)
abbrev Hp:=Addr->Option HO
def upd(H:Hp)(a:Addr)(o:HO):Hp:=fun b=>if b=a then some o else H b
theorem aB{H:Hp}{a:Addr}{o:HO}:upd H a o a=some o:=by unfold upd;rw[if_pos rfl]
theorem aE{H:Hp}{a b:Addr}{o:HO}(h:b≠a):upd H a o b=H b:=by unfold upd;rw[if_neg h]
theorem EW{H:Hp}{a b:Addr}{o u:HO}(h:H a=some o)(h':H b=some u)(d:o≠u):a≠b:=by
 intro e;subst e;rw[h] at h';exact d (Option.some.inj h')
theorem cP{H:Hp}{a b:Addr}{o:HO}(h:H a=some o)(h':H b=none):a≠b:=by
 intro e;subst e;rw[h] at h';cases h'
section
variable (P:Program) (w:World)
def ez(H:Hp)(h:Heap)(a:Addr):HO->Prop
 | .lst xs=>xs.length<=sizeLine/\∃(its:List Value) (n:Nat),Vals xs its/\h.get? a=some {cls:=.type "list",data:=.seq its.toArray n}
 | .tup xs=>xs.length<=sizeLine/\∃its:List Value,Vals xs its/\IsTup h a its.toArray
 | .dK av=>av.length<=sizeLine/\(a==sysModules)=false/\∃vs,KV av vs/\h.DictOf (br P w) a vs
 | .dT av=>av.length<=sizeLine/\(a==sysModules)=false/\∃xs:List (List Key×Addr×Value),
   Paired (fun(p:List Key×V) (q:List Key×Addr×Value)=>p.1=q.1/\H q.2.1=some (.tup (p.1.map kV))/\RelV p.2 q.2.2) av xs /\
   ∃o es ep,h.get? a=some o/\o.ExactDict/\o.data=.dict es ep/\es.toList=xs.map (entryOfKey (tupleKind (br P w)))/\(xs.map (·.1)).Nodup
 | .set S n=>h.SetOf (intKind P w) a S n
 | .ins C dx fs=>H dx=some (.own a)/\fs.length<=1000/\dx≠a/\h.get? a=some (PySem.W.instObj C dx) /\
   ∃mA,h.Ns1 dx mA/\(∀f,lQ (fs.lookup f) (mA f))/\PySem.Within mA (fs.map (·.1))
 | .own _=>∃o,h.get? a=some o
 | .xd fs=>∃mA,h.Ns1 a mA/\∀f,lQ (fs.lookup f) (mA f)
 | .Na lo hi=>∃t u v,h.get? a=some {cls:=.type "range",data:=.fields #[.int lo t,.int hi u,.int 1 v]}
 | .aU o u=>h.get? a=some o/\ez H h a u
 | .Kq ps=>h.get? a=some {cls:=.none,data:=.fields ps}
 | .met f x=>h.get? a=some (PySem.W.methodObj (.ref f) (.ref x))
 | .ext φ=>φ h/\(∃o,h.get? a=some o)/\∀h1 h2:Heap,φ h1->(∀o,h1.get? a=some o->h2.get? a=some o)->φ h2
def l4(H:Hp)(h:Heap):Prop:=∀a o,H a=some o->ez P w H h a o
end
section
variable {P:Program}{w:World}{H H':Hp}{h h':Heap}{a:Addr}{o:HO}
theorem ez.lt(x:ez P w H h a o):a<h.objs.size:=by
 cases o with
 |lst xs=>obtain⟨_,_,_,_,e⟩:=x;exact Heap.lt_size e
 |tup xs=>obtain⟨_,_,_,p⟩:=x;exact p.lt
 |dK av=>obtain⟨_,_,_,_,o,_,_,e,_⟩:=x;exact Heap.lt_size e
 |dT av=>obtain⟨_,_,_,_,o,_,_,e,_⟩:=x;exact Heap.lt_size e
 |set S n=>obtain⟨o,_,_,_,e,_⟩:=x;exact Heap.lt_size e
 |ins C dx fs=>obtain⟨_,_,_,e,_⟩:=x;exact Heap.lt_size e
 |own y=>obtain⟨_,e⟩:=x;exact Heap.lt_size e
 |xd fs=>obtain⟨_,⟨_,_,_,e,_⟩,_⟩:=x;exact Heap.lt_size e
 |Na lo hi=>obtain⟨_,_,_,e⟩:=x;exact Heap.lt_size e
 |aU ob u=>obtain⟨e,_⟩:=x;exact Heap.lt_size e
 |Kq ps=>exact Heap.lt_size (show h.get? a=some _ from x)
 |met f y=>exact Heap.lt_size (show h.get? a=some _ from x)
 |ext φ=>obtain⟨_,⟨_,e⟩,_⟩:=x;exact Heap.lt_size e
theorem Paired.LG{α β:Type}{F G:α->β->Prop}:∀{E1:List α}{EZ:List β},Paired F E1 EZ->(∀a b,F a b->G a b)->Paired G E1 EZ
 |_,_,.nil,_=>.nil
 |_,_,.cons r t,f=>.cons (f _ _ r) (Paired.LG t f)
theorem ez.xg(x:ez P w H h a o)(k:∀b u,(b=a\/H b=some (.own a))->h.get? b=some u->h'.get? b=some u)
  (ho:∀b,H b=some (.own a)->H' b=some (.own a)) (ht:∀b xs,H b=some (.tup xs)->H' b=some (.tup xs)):ez P w H' h' a o:=by
 induction o with
 |lst xs=>obtain⟨z,its,n,r,e⟩:=x;exact⟨z,its,n,r,k _ _ (.inl rfl) e⟩
 |tup xs=>obtain⟨z,its,r,ob,e,c⟩:=x;exact⟨z,its,r,ob,k _ _ (.inl rfl) e,c⟩
 |dK av=>obtain⟨z,y,vs,r,ob,es,ep,e,c⟩:=x;exact⟨z,y,vs,r,ob,es,ep,k _ _ (.inl rfl) e,c⟩
 |dT av=>
  obtain⟨z,y,xs,r,ob,es,ep,e,c⟩:=x
  exact⟨z,y,xs,Paired.LG r fun p q z=>⟨z.1,ht _ _ z.2.1,z.2.2⟩,ob,es,ep,k _ _ (.inl rfl) e,c⟩
 |set S n=>obtain⟨ob,es,ep,t,e,c⟩:=x;exact⟨ob,es,ep,t,k _ _ (.inl rfl) e,c⟩
 |ins C dx fs=>
  obtain⟨d,z,ne,e,mA,⟨od,es,ep,e2,c⟩,r⟩:=x
  exact⟨ho _ d,z,ne,k _ _ (.inl rfl) e,mA,⟨od,es,ep,k _ _ (.inr d) e2,c⟩,r⟩
 |own y=>obtain⟨ob,e⟩:=x;exact⟨ob,k _ _ (.inl rfl) e⟩
 |xd fs=>obtain⟨mA,⟨od,es,ep,e,c⟩,r⟩:=x;exact⟨mA,⟨od,es,ep,k _ _ (.inl rfl) e,c⟩,r⟩
 |Na lo hi=>obtain⟨t,u,v,e⟩:=x;exact⟨t,u,v,k _ _ (.inl rfl) e⟩
 |aU ob u ih=>obtain⟨e,q⟩:=x;exact⟨k _ _ (.inl rfl) e,ih q⟩
 |Kq ps=>
  have e:h.get? a=some {cls:=.none,data:=.fields ps}:=x
  show h'.get? a=some {cls:=.none,data:=.fields ps}
  exact k a _ (.inl rfl) e
 |met f y=>
  have e:h.get? a=some (PySem.W.methodObj (.ref f) (.ref y)):=x
  show h'.get? a=some (PySem.W.methodObj (.ref f) (.ref y))
  exact k a _ (.inl rfl) e
 |ext φ=>obtain⟨p,⟨o,e⟩,st⟩:=x;exact⟨st _ _ p fun o q=>k _ _ (.inl rfl) q,⟨o,k _ _ (.inl rfl) e⟩,st⟩
theorem l4.lt(x:l4 P w H h)(e:H a=some o):a<h.objs.size:=(x a o e).lt
theorem l4.fresh(x:l4 P w H h)(e:h.objs.size<=a):H a=none:=by
 cases q:H a with
 |none=>rfl
 |some u=>exact absurd (Nat.lt_of_lt_of_le (x.lt q) e) (Nat.lt_irrefl _)
theorem l4.kept(x:l4 P w H h)(k:∀b u,h.get? b=some u->h'.get? b=some u):l4 P w H h':=fun a o e=>
 (x a o e).xg (fun b u _ q=>k b u q) (fun _ q=>q) fun _ _ q=>q
theorem l4.laid(x:l4 P w H h)(k:∀b u,h.get? b=some u->h'.get? b=some u)(hp:h.objs.size<=a)(new:ez P w (upd H a o) h' a o):l4 P w (upd H a o) h':=fun b u e=>by
 have hn:=x.fresh hp
 by_cases hb:b=a
 ·subst hb;rw[aB] at e;cases e;exact new
 ·rw[aE hb] at e
  exact(x b u e).xg (fun c v _ q=>k c v q) (fun c q=>by rw[aE (cP q hn)];exact q) fun c xs q=>by rw[aE (cP q hn)];exact q
end
def Rd(H:Hp)(a:Addr)(u:HO):Prop:=H a=some u\/∃o,H a=some (.aU o u)
theorem Rd.of{H:Hp}{a:Addr}{u:HO}(h:H a=some u):Rd H a u:=.inl h
theorem Rd.ok{P:Program}{w:World}{H:Hp}{h:Heap}{a:Addr}{u:HO}(r:Rd H a u)(x:l4 P w H h):ez P w H h a u:=by
 rcases r with r|⟨o,r⟩
 ·exact x a u r
 ·obtain⟨_,q⟩:=x a _ r
  exact q
def Qj:Option HO->Prop
 |some (.lst _)=>True
 |some (.dK _)=>True
 |some (.dT _)=>True
 |some (.set _ _)=>True
 |some (.ins _ _ _)=>True
 |some (.ext _)=>True
 |_=>False
section
variable {P:Program}{w:World}{H:Hp}{h h':Heap}{x e:Addr}{o':HO}
theorem l4.write(ok:l4 P w H h)(mu:Qj (H x))(he:e=x\/H e=some (.own x))(k:∀b u,b≠e->h.get? b=some u->h'.get? b=some u)(Nl:∃u,h'.get? e=some u)
  (new:ez P w (upd H x o') h' x o'):l4 P w (upd H x o') h':=fun b u q=>by
 have Oz:∀c y,H c=some (.own y)->c≠x:=fun c y r z=>by subst z;rw[r] at mu;exact mu
 have S0:∀c xs,H c=some (.tup xs)->c≠x:=fun c xs r z=>by subst z;rw[r] at mu;exact mu
 by_cases hb:b=x
 ·subst hb;rw[aB] at q;cases q;exact new
 ·rw[aE hb] at q
  by_cases Ml:b=e
  ·have q':H b=some (.own x):=by
    rcases he with z|z
    ·exact absurd (Ml.trans z) hb
    ·rw[Ml];exact z
   rw[q] at q';cases q'
   obtain⟨v,hv⟩:=Nl
   exact⟨v,by rw[Ml];exact hv⟩
  ·refine(ok b u q).xg (fun c v hc r=>k c v ?_ r) (fun c r=>by rw[aE (Oz c b r)];exact r) fun c xs r=>by rw[aE (S0 c xs r)];exact r
   rcases hc with rfl|hc
   ·exact Ml
   ·rintro rfl
    rcases he with z|z
    ·exact Oz c b hc z
    ·rw[hc] at z;cases z;exact hb rfl
end
structure Un(fs ex:List Addr)(H H':Hp)(h h':Heap):Prop where
 keep:∀b o,h.get? b=some o->H b=none->b∉fs->b∉ex->h'.get? b=some o
 slot:∀b o,h.get? b=some o->H b=none->b∈fs->b∉ex->∃sl,h'.get? b=some {o with slots:=sl}
 free:∀b o,h.get? b=some o->H b=none->b∉ex->H' b=none
 there:∀b o,h.get? b=some o->b∉ex->∃o',h'.get? b=some o'
 om:∀b xs,H b=some (.tup xs)->H' b=some (.tup xs)
 mB:∀b o u,H b=some (.aU o u)->H' b=some (.aU o u)
 ou:∀b ps,H b=some (.Kq ps)->∃more,H' b=some (.Kq (ps++more))
section
variable {fs Mo ex Xl:List Addr}{H H1 H2:Hp}{h h1 h2 h':Heap}{a x e:Addr}{o:HO}
theorem Un.any(u:Un fs ex H H1 h h1){b:Addr}{ob:Obj}(q:h.get? b=some ob)(n:H b=none)(hx:b∉ex):∃sl,h1.get? b=some {ob with slots:=sl}:=by
 by_cases hb:b∈fs
 ·exact u.slot b ob q n hb hx
 ·exact⟨ob.slots,u.keep b ob q n hb hx⟩
theorem Un.trans(a:Un fs ex H H1 h h1)(b:Un fs ex H1 H2 h1 h2):Un fs ex H H2 h h2 where
 keep:=fun c ob q n hc hx=>b.keep c ob (a.keep c ob q n hc hx) (a.free c ob q n hx) hc hx
 slot:=fun c ob q n hc hx=>by
  obtain⟨sl,e1⟩:=a.slot c ob q n hc hx
  obtain⟨Sy,e2⟩:=b.slot c _ e1 (a.free c ob q n hx) hc hx
  exact⟨Sy,e2⟩
 free:=fun c ob q n hx=>by
  obtain⟨o',e1⟩:=a.there c ob q hx
  exact b.free c o' e1 (a.free c ob q n hx) hx
 there:=fun c ob q hx=>by
  obtain⟨o',e1⟩:=a.there c ob q hx
  exact b.there c o' e1 hx
 om:=fun c xs q=>b.om c xs (a.om c xs q)
 mB:=fun c ob xs q=>b.mB c ob xs (a.mB c ob xs q)
 ou:=fun c ps q=>by
  obtain⟨m1,e1⟩:=a.ou c ps q
  obtain⟨m2,e2⟩:=b.ou c _ e1
  exact⟨m1++m2,by rw[e2,Array.append_assoc]⟩
theorem Un.kept(k:∀b u,h.get? b=some u->h'.get? b=some u):Un fs ex H H h h':=
 ⟨fun b ob q _ _ _=>k b ob q,fun b ob q _ _ _=>⟨ob.slots,k b ob q⟩,fun _ _ _ n _=>n,fun b ob q _=>⟨ob,k b ob q⟩,fun _ _ q=>q,fun _ _ _ q=>q,fun _ ps q=>⟨#[],by rw[q];simp⟩⟩
theorem Un.refl:Un fs ex H H h h:=Un.kept fun _ _ q=>q
theorem Un.laid(k:∀b u,h.get? b=some u->h'.get? b=some u)(hp:h.objs.size<=a)(hn:H a=none):Un fs ex H (upd H a o) h h' where
 keep:=fun b u q _ _ _=>k b u q
 slot:=fun b u q _ _ _=>⟨u.slots,k b u q⟩
 free:=fun b u q n _=>by rw[aE (Nat.ne_of_lt (Nat.lt_of_lt_of_le (Heap.lt_size q) hp))];exact n
 there:=fun b u q _=>⟨u,k b u q⟩
 om:=fun b xs q=>by rw[aE (cP q hn)];exact q
 mB:=fun b u xs q=>by rw[aE (cP q hn)];exact q
 ou:=fun b ps q=>⟨#[],by rw[aE (cP q hn),q];simp⟩
theorem Un.write(mu:Qj (H x))(he:e=x\/H e=some (.own x))(k:∀b u,b≠e->h.get? b=some u->h'.get? b=some u)(Nl:∃u,h'.get? e=some u):Un fs ex H (upd H x o) h h':=by
 have hx:∀b,H b=none->b≠x:=fun b n z=>by subst z;rw[n] at mu;exact mu
 have hb:∀b,H b=none->b≠e:=fun b n z=>by
  subst z
  rcases he with r|r
  ·exact hx b n r
  ·rw[n] at r;cases r
 have hm:∀b u,H b=some u->¬Qj (some u)->b≠x:=fun b u q nm z=>by subst z;rw[q] at mu;exact nm mu
 refine⟨fun b u q n _ _=>k b u (hb b n) q,fun b u q n _ _=>⟨u.slots,k b u (hb b n) q⟩,fun b u q n _=>by rw[aE (hx b n)];exact n,fun b u q _=>?_,
  fun b xs q=>by rw[aE (hm b _ q fun z=>z)];exact q,fun b u xs q=>by rw[aE (hm b _ q fun z=>z)];exact q,fun b ps q=>⟨#[],by rw[aE (hm b _ q fun z=>z),q];simp⟩⟩
 by_cases Ml:b=e
 ·subst Ml;exact Nl
 ·exact⟨u,k b u Ml q⟩
theorem Un.mono(u:Un fs ex H H1 h h1)(hs:∀b∈fs,b∈Mo)(hx:∀b∈ex,b∈Xl):Un Mo Xl H H1 h h1:=
 ⟨fun b ob q n hb he=>u.keep b ob q n (fun z=>hb (hs b z)) fun z=>he (hx b z),fun _ _ q n _ he=>u.any q n fun z=>he (hx _ z),fun b ob q n he=>u.free b ob q n fun z=>he (hx b z),fun b ob q he=>u.there b ob q fun z=>he (hx b z),u.om,u.mB,u.ou⟩
end
def Q6(h:Heap)(H:Hp):List Addr:=(List.range h.objs.size).filter fun a=>(H a).isSome
def wg(h:Heap)(H:Hp):Heap:=PySem.W.hideAll h (Q6 h H)
theorem CC(h:Heap)(H:Hp):(wg h H).objs.size=h.objs.size:=PySem.W.hideAll_size _ _
theorem Fn{h:Heap}{H:Hp}{b:Addr}{o:Obj}(e:h.get? b=some o)(n:H b=none):(wg h H).get? b=some o:=
 PySem.W.hideAll_get _ e fun hm=>by
  have q:(H b).isSome=true:=(List.mem_filter.mp hm).2
  rw[n] at q;simp at q
theorem Iu{h:Heap}{H:Hp}{b:Addr}{o:Obj}(e:(wg h H).get? b=some o):h.get? b=some o/\H b=none:=by
 have e':h.get? b=some o:=PySem.W.of_hideAll (Q6 h H) e
 refine⟨e',?_⟩
 cases q:H b with
 |none=>rfl
 |some x=>
  have hm:b∈Q6 h H:=List.mem_filter.mpr ⟨List.mem_range.mpr (Heap.lt_size e'),by simp[q]⟩
  have z:(wg h H).get? b=none:=PySem.W.hideAll_none (Q6 h H) hm
  rw[z] at e;cases e
def Jf(g h:Heap)(L:Addr):List (Addr×Obj):=(List.range h.objs.size).filterMap fun a=>if a=L\/(g.get? a).isSome=true then none else(h.get? a).map fun o=>(a,o)
def rest(g h:Heap)(L d:Addr):List (Addr×Obj):=(Jf g h L).filter fun p=>decide (p.1≠d)
end L2
namespace L2
open PySem PySem.Spec PyProof.Rows
structure Mod(K:PySem.W.Frag)(mg:Str->Option Value)(base:Heap):Prop where
 Rm:K.In base
 glob:base.Ns mainGlobals mg
 blt:∃mb,base.Ns builtinsNs mb/\∀x:Str,x≠"__name__"->mb x=bootBuiltins x
 nolimit:base.NoLimit
structure Cx where
 prog:Program
 w:World
 K:PySem.W.Frag
 mg:Str->Option Value
 base:Heap
 A:Around
 N:List Str
 h_:Shared
 CQ:Hp
 env:Env
 outer:List Env
 stack:List Env
 ex:List Addr
 fn:Str->Bool
 calm:Bool
 pn:List (Addr×Obj)
 xe:Value->Shared->Prop
def FA(l:List Env):List Addr:=l.filterMap (·.frame)
abbrev Cx.fs(X:Cx):List Addr:=FA X.outer
def km(sc:Scope)(x:Str):Prop:=sc.names.lookup x=some .local\/sc.names.lookup x=some .cell\/sc.names.lookup x=some .free
def Loc(sc:Scope)(x:Str):Prop:=sc.names.lookup x=some .local\/sc.names.lookup x=some .cell
def Look(env:Env)(h:Heap)(m:Str->Option Value)(x:Str)(u:Value):Prop:=
 (env.kindOf x=some .local/\m x=some u)\/((env.kindOf x=some .cell\/env.kindOf x=some .free)/\∃c,env.cells.lookup x=some c/\h.IsCell c (some u))
structure Cx.Ok(X:Cx):Prop where
 mod:Mod X.K X.mg X.base
 kind:X.env.scope.kind=.function
 glob:X.env.globals=mainGlobals
 blt:X.env.builtins=builtinsNs
 above:X.h_.heap.objs.size<=X.env.locals
 inj:∀x y c,X.env.cells.lookup x=some c->X.env.cells.lookup y=some c->x=y
 has:∀x,(X.env.kindOf x=some .cell\/X.env.kindOf x=some .free)->∃c,X.env.cells.lookup x=some c
 PZ:∀x c,X.fn x=true->X.env.cells.lookup x=some c->X.h_.heap.objs.size<=c
 hd:X.calm=true->X.A.handled=none
 frames:X.A.frames=some X.stack
 Q_:X.stack=X.outer\/(X.stack=X.env::X.outer/\X.env.frame=some X.env.locals)
 Xk:∀b∈X.ex,b≠X.env.locals/\∀x c,X.env.cells.lookup x=some c->c≠b
 bs:∀b o,X.base.get? b=some o->X.h_.heap.get? b=some o/\X.CQ b=none
 FU:X.base.objs.size<=X.h_.heap.objs.size
 ET:∀b o,X.base.get? b=some o->b∉X.ex
 Ja:∀b∈X.ex,b∉X.fs
 pd:X.h_.heap.FunFrames X.base X.outer
 JU:∀b∈X.fs,X.CQ b=none
structure Inv(X:Cx)(pins:List (Addr×Obj))(σ:List (Option V))(H:Hp)(s:Shared):Prop where
 ok:X.Ok
 os:s.os=X.h_.os
 bare:AllBare s.gens
 base:Un X.fs X.ex X.CQ H X.h_.heap s.heap
 loc:∃m,s.heap.Ns X.env.locals m/\∀(i:Nat) (x:Str) (v:V),X.N[i]? = some x->σ[i]? = some (some v)->km X.env.scope x->∃u,RelV v u/\Look X.env s.heap m x u
 cell:∀x c,X.env.cells.lookup x=some c->∃v,s.heap.IsCell c v
 free:H X.env.locals=none
 j_:∀x c,X.env.cells.lookup x=some c->H c=none
 pin:∀p∈X.pn++pins,s.heap.get? p.1=some p.2/\H p.1=none/\p.1≠X.env.locals/\p.1∉X.fs/\∀v,p.2.data≠.cell v
 cg:l4 X.prog X.w H s.heap
 len:σ.length=X.N.length
section
variable {X:Cx}{pins:List (Addr×Obj)}{σ:List (Option V)}{H H':Hp}{s:Shared}{h':Heap}
theorem Cx.Ok.S1(ok:X.Ok){b:Addr}{o:Obj}(e:X.base.get? b=some o):b∉X.fs:=fun hb=>by
 have:=(ok.pd.mem hb).1
 rw[e] at this;cases this
theorem Inv.bs(I:Inv X pins σ H s):∀b o,X.base.get? b=some o->s.heap.get? b=some o/\H b=none:=fun b o e=>
 ⟨I.base.keep b o (I.ok.bs b o e).1 (I.ok.bs b o e).2 (I.ok.S1 e) (I.ok.ET b o e),I.base.free b o (I.ok.bs b o e).1 (I.ok.bs b o e).2 (I.ok.ET b o e)⟩
theorem Inv.bk(I:Inv X pins σ H s):∀b o,X.base.get? b=some o->s.heap.get? b=some o:=fun b o e=>(I.bs b o e).1
theorem Inv.mod(I:Inv X pins σ H s):Mod X.K X.mg X.base:=I.ok.mod
theorem Inv.LO(I:Inv X pins σ H s):X.K.In s.heap:=I.ok.mod.Rm.keeps I.bk
theorem Inv.nolimit(I:Inv X pins σ H s):s.heap.NoLimit:=I.ok.mod.nolimit.keeps I.bk
theorem Inv.fr(I:Inv X pins σ H s):∃m,Fr X.base X.env.locals s.heap m:=
 let ⟨m,hn,_⟩:=I.loc
 ⟨m,hn,I.bk,Nat.le_trans I.ok.FU I.ok.above⟩
theorem Inv.lt(I:Inv X pins σ H s):X.env.locals<s.heap.objs.size:=let ⟨_,hn,_⟩:=I.loc;hn.lt
theorem Inv.sz(I:Inv X pins σ H s):X.h_.heap.objs.size<=s.heap.objs.size:=Nat.le_trans I.ok.above (Nat.le_of_lt I.lt)
theorem Inv.OA(I:Inv X pins σ H s){a:Addr}(h:s.heap.objs.size<=a):a∉X.fs:=fun hb=>by
 obtain⟨_,o,ho,_⟩:=I.ok.pd.mem hb
 exact absurd (Nat.lt_of_lt_of_le (Heap.lt_size ho) (Nat.le_trans I.sz h)) (Nat.lt_irrefl _)
theorem Inv.MH(I:Inv X pins σ H s):∀x c,X.env.cells.lookup x=some c->c≠X.env.locals:=fun x c e z=>by
 obtain⟨v,o,ho,hd⟩:=I.cell x c e
 obtain⟨m,⟨o',es,ep,gH,qt,_⟩,_⟩:=I.loc
 rw[z,gH] at ho;cases ho;rw[qt] at hd;cases hd
theorem Inv.pd(I:Inv X pins σ H s):s.heap.FunFrames X.base X.outer:=by
 have all:∀(l:List Env),(∀b∈FA l,b∈X.fs)->X.h_.heap.FunFrames X.base l->s.heap.FunFrames X.base l:=by
  intro l
  induction l with
  |nil=>intro _ _;trivial
  |cons env r ih=>
   intro hs hl
   obtain⟨hk,⟨L,o,hf,hn,ho,hd⟩,hr⟩:=hl
   have hL:L∈X.fs:=hs L (by unfold FA;rw[List.filterMap_cons,hf];exact List.mem_cons_self)
   obtain⟨sl,e⟩:=I.base.slot L o ho (I.ok.JU L hL) hL fun z=>I.ok.Ja L z hL
   exact⟨hk,⟨L,_,hf,hn,e,hd⟩,ih (fun b hb=>hs b (by unfold FA;rw[List.filterMap_cons,hf];exact List.mem_cons_of_mem _ hb)) hr⟩
 exact all X.outer (fun _ hb=>hb) I.ok.pd
theorem Inv.stack(I:Inv X pins σ H s):s.heap.FunFrames X.base X.stack:=by
 rcases I.ok.Q_ with e|⟨e,hf⟩
 ·rw[e];exact I.pd
 ·rw[e]
  obtain⟨m,hn,_⟩:=I.loc
  refine .cons (by rw[I.ok.kind];decide) hf hn ?_ I.pd
  exact Heap.get?_none_of_le (Nat.le_trans I.ok.FU I.ok.above)
theorem Inv.qJ(I:Inv X pins σ H s):∀b∈FA X.stack,b∈X.env.locals::X.fs:=fun b hb=>by
 rcases I.ok.Q_ with e|⟨e,hf⟩
 ·rw[e] at hb;exact List.mem_cons_of_mem _ hb
 ·rw[e] at hb
  unfold FA at hb
  rw[List.filterMap_cons,hf] at hb
  exact hb
theorem Inv.Aw(I:Inv X pins σ H s):∀b∈FA X.stack,H b=none:=fun b hb=>by
 rcases List.mem_cons.mp (I.qJ b hb) with e|hb
 ·rw[e];exact I.free
 ·obtain⟨_,o,ho,_⟩:=I.ok.pd.mem hb
  exact I.base.free b o ho (I.ok.JU b hb) fun z=>I.ok.Ja b z hb
theorem Inv.step{g':Array GenState}{t':Nat}{d':Drawn}{ch:List Addr}(I:Inv X pins σ H s)
  (Gm:∀b∈ch,(b∈X.ex\/X.h_.heap.objs.size<=b)/\b≠X.env.locals/\(∀x c,X.env.cells.lookup x=some c->c≠b)/\∀p∈X.pn++pins,p.1≠b)
  (keep:∀b o,b≠X.env.locals->b∉X.fs->b∉ch->s.heap.get? b=some o->H b=none->h'.get? b=some o)
  (slot:∀b o,b≠X.env.locals->b∈X.fs->b∉ch->s.heap.get? b=some o->H b=none->∃sl,h'.get? b=some {o with slots:=sl}) (free:∀b o,b∉ch->s.heap.get? b=some o->H b=none->H' b=none)
  (there:∀b o,b∉ch->s.heap.get? b=some o->∃o',h'.get? b=some o')
  (om:∀b xs,H b=some (.tup xs)->H' b=some (.tup xs)) (mB:∀b o u,H b=some (.aU o u)->H' b=some (.aU o u)) (ou:∀b ps,H b=some (.Kq ps)->∃more,H' b=some (.Kq (ps++more)))
  (ns:∀m,s.heap.Ns X.env.locals m->h'.Ns X.env.locals m) (cg:l4 X.prog X.w H' h') (hg:AllBare g') :
  Inv X pins σ H' {s with heap:=h',gens:=g',drawn:=d',toks:=t'}:=by
 have Wo:∀b o,X.h_.heap.get? b=some o->b≠X.env.locals:=fun b o e=>Nat.ne_of_lt (Nat.lt_of_lt_of_le (Heap.lt_size e) I.ok.above)
 have LB:∀b o,X.h_.heap.get? b=some o->b∉X.ex->b∉ch:=fun b o e hx hb=>by
  rcases(Gm b hb).1 with z|z
  ·exact hx z
  ·exact absurd (Nat.lt_of_lt_of_le (Heap.lt_size e) z) (Nat.lt_irrefl _)
 have cellK:∀x c,X.env.cells.lookup x=some c->∀v,s.heap.IsCell c v->h'.IsCell c v:=fun x c e v ⟨o,ho,hd⟩=>by
  have OD:c∉ch:=fun z=>(Gm c z).2.2.1 x c e rfl
  by_cases hc:c∈X.fs
  ·obtain⟨sl,q⟩:=slot c o (I.MH x c e) hc OD ho (I.j_ x c e)
   exact⟨_,q,hd⟩
  ·exact⟨o,keep c o (I.MH x c e) hc OD ho (I.j_ x c e),hd⟩
 refine⟨I.ok,I.os,hg,⟨fun b o e n hb hx=>?_,fun b o e n hb hx=>?_,fun b o e n hx=>?_,fun b o e hx=>?_,fun b xs e=>om b xs (I.base.om b xs e),fun b o xs e=>mB b o xs (I.base.mB b o xs e),fun b ps e=>?_⟩,?_,fun x c e=>?_,?_,fun x c e=>?_,fun p hp=>?_,cg,I.len⟩
 ·exact keep b o (Wo b o e) hb (LB b o e hx) (I.base.keep b o e n hb hx) (I.base.free b o e n hx)
 ·obtain⟨sl,e1⟩:=I.base.slot b o e n hb hx
  obtain⟨Sy,e2⟩:=slot b _ (Wo b o e) hb (LB b o e hx) e1 (I.base.free b o e n hx)
  exact⟨Sy,e2⟩
 ·obtain⟨o',e1⟩:=I.base.there b o e hx
  exact free b o' (LB b o e hx) e1 (I.base.free b o e n hx)
 ·obtain⟨o',e1⟩:=I.base.there b o e hx
  exact there b o' (LB b o e hx) e1
 ·obtain⟨m1,e1⟩:=I.base.ou b ps e
  obtain⟨m2,e2⟩:=ou b _ e1
  exact⟨m1++m2,by rw[e2,Array.append_assoc]⟩
 ·obtain⟨m,hn,hl⟩:=I.loc
  refine⟨m,ns m hn,fun i x v e1 e2 e3=>?_⟩
  obtain⟨u,r,l⟩:=hl i x v e1 e2 e3
  refine⟨u,r,?_⟩
  rcases l with l|⟨k,c,e,z⟩
  ·exact .inl l
  ·exact .inr ⟨k,c,e,cellK x c e _ z⟩
 ·obtain⟨v,z⟩:=I.cell x c e
  exact⟨v,cellK x c e v z⟩
 ·obtain⟨m,⟨o,_,_,ho,_⟩,_⟩:=I.loc
  exact free _ o (fun z=>(Gm _ z).2.1 rfl) ho I.free
 ·obtain⟨v,o,ho,hd⟩:=I.cell x c e
  exact free c o (fun z=>(Gm c z).2.2.1 x c e rfl) ho (I.j_ x c e)
 ·obtain⟨e,n,ne,nf,d⟩:=I.pin p hp
  have OD:p.1∉ch:=fun z=>(Gm p.1 z).2.2.2 p hp rfl
  exact⟨keep p.1 p.2 ne nf OD e n,free p.1 p.2 OD e n,ne,nf,d⟩
theorem Inv.un{t':Nat}(I:Inv X pins σ H s)(u:Un X.fs [] H H' s.heap h')(cg:l4 X.prog X.w H' h'):Inv X pins σ H' {s with heap:=h',toks:=t'}:=by
 obtain⟨m,⟨o,es,ep,ho,r⟩,_⟩:=id I.loc
 obtain⟨sl,hL⟩:=u.any ho I.free (by simp)
 exact I.step (g':=s.gens) (d':=s.drawn) (ch:=[]) (fun _ z=>nomatch z) (fun b o _ hb _ e n=>u.keep b o e n hb (by simp)) (fun b o _ hb _ e n=>u.slot b o e n hb (by simp)) (fun b o _ e n=>u.free b o e n (by simp)) (fun b o _ e=>u.there b o e (by simp)) u.om u.mB u.ou (fun m' hm=>by
  obtain⟨o',qh,JW,gH,r'⟩:=hm
  rw[ho] at gH;cases gH
  exact⟨_,qh,JW,hL,r'⟩) cg I.bare
theorem Inv.call{g':Array GenState}{t':Nat}{d':Drawn}{ch:List Addr}(I:Inv X pins σ H s)(u:Un (FA X.stack) ch H H' s.heap h')(cg:l4 X.prog X.w H' h')(hg:AllBare g')
  (Gm:∀b∈ch,(b∈X.ex\/X.h_.heap.objs.size<=b)/\b≠X.env.locals/\(∀x c,X.env.cells.lookup x=some c->c≠b)/\∀p∈X.pn++pins,p.1≠b) :
  Inv X pins σ H' {s with heap:=h',gens:=g',drawn:=d',toks:=t'}:=by
 obtain⟨m,⟨o,es,ep,ho,r⟩,_⟩:=id I.loc
 obtain⟨sl,hL⟩:=u.any ho I.free fun z=>(Gm _ z).2.1 rfl
 exact I.step (ch:=ch) Gm (fun b o hL hb hc e n=>u.keep b o e n (fun z=>(List.mem_cons.mp (I.qJ b z)).elim hL hb) hc) (fun b o _ _ hc e n=>u.any e n hc) (fun b o hc e n=>u.free b o e n hc) (fun b o hc e=>u.there b o e hc) u.om u.mB u.ou (fun m' hm=>by
  obtain⟨o',qh,JW,gH,r'⟩:=hm
  rw[ho] at gH;cases gH
  exact⟨_,qh,JW,hL,r'⟩) cg hg
theorem Inv.turned{t':Nat}{it:Addr}(I:Inv X pins σ H s)(k:∀b o,b≠it->s.heap.get? b=some o->h'.get? b=some o)(hn:H it=none)(hL:it≠X.env.locals)
  (h1:it∈X.ex\/X.h_.heap.objs.size<=it) (h2:∀x c,X.env.cells.lookup x=some c->c≠it) (h3:∀p∈X.pn++pins,p.1≠it):Inv X pins σ H {s with heap:=h',toks:=t'}:=by
 have Wm:∀b u,H b=some u->b≠it:=fun b u e z=>by rw[z,hn] at e;cases e
 refine I.step (g':=s.gens) (d':=s.drawn) (ch:=[it]) (fun b hb=>?_) (fun b o _ _ hc e _=>k b o (fun z=>hc (by simp[z])) e) (fun b o _ _ hc e _=>⟨o.slots,k b o (fun z=>hc (by simp[z])) e⟩) (fun _ _ _ _ n=>n)
  (fun b o hc e=>⟨o,k b o (fun z=>hc (by simp[z])) e⟩) (fun _ _ e=>e) (fun _ _ _ e=>e) (fun b ps e=>⟨#[],by rw[e];simp⟩) (fun m hm=>?_) (fun b u e=>?_) I.bare
 ·have e:b=it:=by simpa using hb
  subst e
  exact⟨h1,hL,h2,h3⟩
 ·obtain⟨o,es,ep,ho,r⟩:=hm
  exact⟨o,es,ep,k _ o (Ne.symm hL) ho,r⟩
 ·refine(I.cg b u e).xg (fun c v hc q=>k c v ?_ q) (fun _ q=>q) fun _ _ q=>q
  rcases hc with z|z
  ·rw[z];exact Wm b u e
  ·exact Wm c _ z
theorem Inv.tok(I:Inv X pins σ H s)(t:Nat):Inv X pins σ H {s with toks:=t}:=I.un (h':=s.heap) (t':=t) Un.refl I.cg
theorem Inv.kept{t':Nat}(I:Inv X pins σ H s)(k:∀b u,s.heap.get? b=some u->h'.get? b=some u):Inv X pins σ H {s with heap:=h',toks:=t'}:=I.un (Un.kept k) (I.cg.kept k)
theorem Inv.laid{a:Addr}{o:HO}{t':Nat}(I:Inv X pins σ H s)(k:∀b u,s.heap.get? b=some u->h'.get? b=some u)(hp:s.heap.objs.size<=a)(new:ez X.prog X.w (upd H a o) h' a o) :
  Inv X pins σ (upd H a o) {s with heap:=h',toks:=t'}:=I.un (Un.laid k hp (I.cg.fresh hp)) (I.cg.laid k hp new)
theorem Inv.write{x e:Addr}{o:HO}{t':Nat}(I:Inv X pins σ H s)(mu:Qj (H x))(he:e=x\/H e=some (.own x))(k:∀b u,b≠e->s.heap.get? b=some u->h'.get? b=some u)(Nl:∃u,h'.get? e=some u)
  (new:ez X.prog X.w (upd H x o) h' x o):Inv X pins σ (upd H x o) {s with heap:=h',toks:=t'}:=I.un (Un.write mu he k Nl) (I.cg.write mu he k Nl new)
theorem Inv.vQ{Jz:List (Addr×Obj)}(I:Inv X pins σ H s)(h:∀p∈Jz,s.heap.get? p.1=some p.2/\H p.1=none/\p.1≠X.env.locals/\p.1∉X.fs/\∀v,p.2.data≠.cell v):Inv X Jz σ H s:=
 ⟨I.ok,I.os,I.bare,I.base,I.loc,I.cell,I.free,I.j_,fun p hp=>(List.mem_append.mp hp).elim (fun z=>I.pin p (List.mem_append_left _ z)) (h p),I.cg,I.len⟩
theorem xS{N:List Str}(hN:N.Nodup){i j:Nat}{x:Str}(a:N[i]? = some x)(b:N[j]? = some x):i=j:=by
 obtain⟨h1,e1⟩:=List.getElem?_eq_some_iff.mp a
 obtain⟨h2,e2⟩:=List.getElem?_eq_some_iff.mp b
 exact(List.getElem_inj hN).mp (e1.trans e2.symm)
theorem BH{M:Model}{A:Around}{E:Value->Shared->Prop}{i:Nat}{x:Str}{v:V}{u:Value}{Q:Unit->Shared->Prop}(I:Inv X pins σ H s)(hN:X.N.Nodup)(hi:X.N[i]? = some x)(hx:Loc X.env.scope x)(r:RelV v u)
  (h:∀s',Inv X pins (σ.set i (some v)) H s'->(∃a,Heap.SameBut a s.heap s'.heap/\(a=X.env.locals\/X.env.cells.lookup x=some a))->Q () s') (hf:X.fn x=true\/X.env.scope.names.lookup x=some .local:=by first|exact .inl rfl|exact .inr rfl|assumption):wpAny M A (storeName X.env x u) Q E s:=by
 obtain⟨m,hn,hl⟩:=id I.loc
 have Ug:(X.env.scope.kind==.class||(X.env.scope.kind==.module&&X.env.locals != X.env.globals))=false:=by rw[I.ok.kind];rfl
 have Pk:i<σ.length:=by rw[I.len];exact(List.getElem?_eq_some_iff.mp hi).1
 have MH:=I.MH
 have tracked:∀{a:Addr}{h':Heap},(∃o,s.heap.get? a=some o/\H a=none)->Heap.SameBut a s.heap h'->l4 X.prog X.w H h':=fun{a h'} ha hs b ob e=>by
  obtain⟨_,_,JQ⟩:=ha
  refine(I.cg b ob e).xg (fun c w' hc q=>(hs.2 c ?_).trans q) (fun _ q=>q) fun _ _ q=>q
  rintro rfl
  rcases hc with rfl|hc
  ·rw[JQ] at e;cases e
  ·rw[JQ] at hc;cases hc
 rcases hx with hk|hk
 ·refine wpAny_storeName_local hk hn (fun h' RB hs=>?_) Ug
  obtain⟨oL,_,_,Pc,_⟩:=id hn
  refine h _ ⟨I.ok,I.os,I.bare,⟨fun b o e n hb hx=>?_,fun b o e n hb hx=>?_,I.base.free,fun b o e hx=>?_,I.base.om,I.base.mB,I.base.ou⟩,⟨_,RB,fun j y v' e1 e2 e3=>?_⟩,fun y c e=>?_,I.free,I.j_,fun p hp=>?_,tracked ⟨oL,Pc,I.free⟩ hs,by simpa using I.len⟩ ⟨_,hs,.inl rfl⟩
  ·exact(hs.2 b (Nat.ne_of_lt (Nat.lt_of_lt_of_le (Heap.lt_size e) I.ok.above))).trans (I.base.keep b o e n hb hx)
  ·obtain⟨sl,e1⟩:=I.base.slot b o e n hb hx
   exact⟨sl,(hs.2 b (Nat.ne_of_lt (Nat.lt_of_lt_of_le (Heap.lt_size e) I.ok.above))).trans e1⟩
  ·obtain⟨o',e1⟩:=I.base.there b o e hx
   exact⟨o',(hs.2 b (Nat.ne_of_lt (Nat.lt_of_lt_of_le (Heap.lt_size e) I.ok.above))).trans e1⟩
  ·by_cases hj:j=i
   ·subst hj
    rw[hi] at e1;cases e1
    rw[List.getElem?_set_self Pk] at e2
    cases e2
    exact⟨u,r,.inl ⟨hk,by simp⟩⟩
   ·rw[List.getElem?_set_ne (Ne.symm hj)] at e2
    obtain⟨u',r',q⟩:=hl j y v' e1 e2 e3
    refine⟨u',r',?_⟩
    rcases q with⟨k,e⟩|⟨k,c,e,z⟩
    ·refine .inl ⟨k,?_⟩
     have:y≠x:=fun e=>hj (xS hN e1 (e ▸ hi))
     simp[this,e]
    ·exact .inr ⟨k,c,e,z.sameBut hs (MH y c e)⟩
  ·obtain⟨w',z⟩:=I.cell y c e
   exact⟨w',z.sameBut hs (MH y c e)⟩
  ·obtain⟨e,n,ne,nf,d⟩:=I.pin p hp
   exact⟨(hs.2 p.1 ne).trans e,n,ne,nf,d⟩
 ·have T_:X.fn x=true:=by
   rcases hf with z|z
   ·exact z
   ·rw[z] at hk;cases hk
  obtain⟨c,hc⟩:=I.ok.has x (.inl hk)
  obtain⟨w',z⟩:=I.cell x c hc
  refine wpAny_storeName_cell I.ok.kind hk hc z (fun h' Gn hs=>?_)
  obtain⟨oc,Fl,TQ⟩:=id z
  refine h {s with heap:=h'} ⟨I.ok,I.os,I.bare,⟨fun b o e n hb hx=>?_,fun b o e n hb hx=>?_,I.base.free,fun b o e hx=>?_,I.base.om,I.base.mB,I.base.ou⟩,⟨m,hn.sameBut hs (Ne.symm (MH x c hc)),fun j y v' e1 e2 e3=>?_⟩,fun y c' e=>?_,I.free,I.j_,fun p hp=>?_,tracked ⟨oc,Fl,I.j_ x c hc⟩ hs,by simpa using I.len⟩ ⟨c,hs,.inr hc⟩
  ·exact(hs.2 b (Nat.ne_of_lt (Nat.lt_of_lt_of_le (Heap.lt_size e) (I.ok.PZ x c T_ hc)))).trans (I.base.keep b o e n hb hx)
  ·obtain⟨sl,e1⟩:=I.base.slot b o e n hb hx
   exact⟨sl,(hs.2 b (Nat.ne_of_lt (Nat.lt_of_lt_of_le (Heap.lt_size e) (I.ok.PZ x c T_ hc)))).trans e1⟩
  ·obtain⟨o',e1⟩:=I.base.there b o e hx
   exact⟨o',(hs.2 b (Nat.ne_of_lt (Nat.lt_of_lt_of_le (Heap.lt_size e) (I.ok.PZ x c T_ hc)))).trans e1⟩
  ·by_cases hj:j=i
   ·subst hj
    rw[hi] at e1;cases e1
    rw[List.getElem?_set_self Pk] at e2
    cases e2
    exact⟨u,r,.inr ⟨.inl hk,c,hc,Gn⟩⟩
   ·rw[List.getElem?_set_ne (Ne.symm hj)] at e2
    obtain⟨u',r',q⟩:=hl j y v' e1 e2 e3
    refine⟨u',r',?_⟩
    rcases q with q|⟨k,c',e,z'⟩
    ·exact .inl q
    ·refine .inr ⟨k,c',e,z'.sameBut hs ?_⟩
     rintro rfl
     exact hj (xS hN e1 (I.ok.inj _ _ _ e hc ▸ hi))
  ·by_cases W6:c'=c
   ·subst W6;exact⟨_,Gn⟩
   ·obtain⟨w2,z2⟩:=I.cell y c' e
    exact⟨w2,z2.sameBut hs W6⟩
  ·obtain⟨e,n,ne,nf,d⟩:=I.pin p hp
   refine⟨(hs.2 p.1 ?_).trans e,n,ne,nf,d⟩
   intro q
   rw[q,Fl] at e
   have q':oc=p.2:=Option.some.inj e
   exact d w' (by rw[<-q'];exact TQ)
theorem kz{M:Model}{A:Around}{E:Value->Shared->Prop}{i:Nat}{x:Str}{v:V}{u:Value}{Q:Unit->Shared->Prop}(I:Inv X pins σ H s)(hN:X.N.Nodup)(hi:X.N[i]? = some x)(hx:Loc X.env.scope x)(r:RelV v u)
  (h:∀s',Inv X pins (σ.set i (some v)) H s'->Q () s') (hf:X.fn x=true\/X.env.scope.names.lookup x=some .local:=by first|exact .inl rfl|exact .inr rfl|assumption):wpAny M A (storeName X.env x u) Q E s:=
 BH I hN hi hx r (fun s' I' _=>h s' I') hf
theorem Inv.PY{s':Shared}{ch:List Addr}(I:Inv X pins σ H s)(ho:s'.os=s.os)(u:Un (FA X.stack) ch H H' s.heap s'.heap)(cg:l4 X.prog X.w H' s'.heap)(hg:AllBare s'.gens)
  (Gm:∀b∈ch,(b∈X.ex\/X.h_.heap.objs.size<=b)/\b≠X.env.locals/\(∀x c,X.env.cells.lookup x=some c->c≠b)/\∀p∈X.pn++pins,p.1≠b):Inv X pins σ H' s':=by
 obtain⟨h',g',d',t',o'⟩:=s'
 have e:o'=s.os:=ho
 subst e
 exact I.call (g':=g') (t':=t') (d':=d') u cg hg Gm
end
abbrev XK:=Value->Option Addr->Hp->Prop
abbrev St:=List (Option V)
abbrev VK:=V->Hp->Prop
abbrev TE:=St->Hp->VK->Prop
abbrev TT:=St->Hp->(Bool->Hp->Prop)->Prop
abbrev TA:=St->Hp->(List V->Hp->Prop)->Prop
structure Ends where
 nx:St->Hp->Prop
 rt:VK
 bk:St->Hp->Prop:=fun _ _=>False
 ct:St->Hp->Prop:=fun _ _=>False
abbrev TS:=Ends->St->Hp->Prop
def EP(X:Cx)(pins:List (Addr×Obj))(σ:St)(Q:VK)(u:Value)(s':Shared):Prop:=∃v H',Inv X pins σ H' s'/\RelV v u/\Q v H'
def TP(X:Cx)(pins:List (Addr×Obj))(σ:St)(Q:Bool->Hp->Prop)(b:Bool)(s':Shared):Prop:=∃H',Inv X pins σ H' s'/\Q b H'
def AP(X:Cx)(pins:List (Addr×Obj))(σ:St)(Q:List V->Hp->Prop)(us:List Value)(s':Shared):Prop:=∃vs H',Inv X pins σ H' s'/\Vals vs us/\Q vs H'
def SP(X:Cx)(pins:List (Addr×Obj))(D:Ends)(f:Flow)(s':Shared):Prop:=
 match f with
 | .next=>∃bR H',Inv X pins bR H' s'/\D.nx bR H'
 | .brk=>∃bR H',Inv X pins bR H' s'/\D.bk bR H'
 | .cont=>∃bR H',Inv X pins bR H' s'/\D.ct bR H'
 | .ret u=>∃v bR H',Inv X pins bR H' s'/\RelV v u/\D.rt v H'
def PE(X:Cx)(e:Expr)(t:TE):Prop:=
 ∀(pins:List (Addr×Obj)) (s:Shared) (σ:St) (H:Hp) (Q:VK),Inv X pins σ H s->t σ H Q->wpAny (model X.prog X.w) X.A (eval e X.env) (EP X pins σ Q) X.xe s
def PT(X:Cx)(e:Expr)(t:TT):Prop:=
 ∀(pins:List (Addr×Obj)) (s:Shared) (σ:St) (H:Hp) (Q:Bool->Hp->Prop),Inv X pins σ H s->t σ H Q->wpAny (model X.prog X.w) X.A (isTrue e X.env (eval e X.env)) (TP X pins σ Q) X.xe s
def PW(X:Cx)(e:Expr)(t:TT):Prop:=
 ∀(whole:Sem Value) (pins:List (Addr×Obj)) (s:Shared) (σ:St) (H:Hp) (Q:Bool->Hp->Prop),Inv X pins σ H s->t σ H Q->wpAny (model X.prog X.w) X.A (isTrue e X.env whole) (TP X pins σ Q) X.xe s
theorem PW.pt{X:Cx}{e:Expr}{t:TT}(h:PW X e t):PT X e t:=h _
def PA(X:Cx)(es:List Expr)(t:TA):Prop:=
 ∀(pos:Pos) (pins:List (Addr×Obj)) (s:Shared) (σ:St) (H:Hp) (Q:List V->Hp->Prop),Inv X pins σ H s->t σ H Q->wpAny (model X.prog X.w) X.A (spliced (backTo pos (starEach es X.env))) (AP X pins σ Q) X.xe s
def PS(X:Cx)(st:Stmt)(t:TS):Prop:=
 ∀(pins:List (Addr×Obj)) (s:Shared) (σ:St) (H:Hp) (D:Ends),Inv X pins σ H s->t D σ H->wpAny (model X.prog X.w) X.A (exec st X.env) (SP X pins D) X.xe s
def Ad(X:Cx)(st:List Stmt)(t:TS):Prop:=
 ∀(pins:List (Addr×Obj)) (s:Shared) (σ:St) (H:Hp) (D:Ends),Inv X pins σ H s->t D σ H->wpAny (model X.prog X.w) X.A (execs st X.env) (SP X pins D) X.xe s
theorem cn{α:Type}{t:Sem α}{Q Q':α->Shared->Prop}{M:Model}{A:Around}{E:Value->Shared->Prop}{s:Shared}(h:wpAny M A t Q E s)(hQ:∀a s,Q a s->Q' a s):wpAny M A t Q' E s:=wpAny_mono h hQ fun _ _ x=>x
end L2
namespace L2
open PySem PySem.Spec PyProof.Rows
section
variable {X:Cx}
def jz(i:Nat):TE:=fun σ H Q=>∃v,σ[i]? = some (some v)/\Q v H
def tC(v:V):TE:=fun _ H Q=>Q v H
theorem gh{i:Nat}{x:Str}{pos:Pos}(hN:X.N[i]? = some x)(hv:km X.env.scope x)(hd:(x==("__debug__":Str))=false:=by decide)(fu:(x==("__classdict__":Str))=false:=by decide):PE X (.Name x pos) (jz i):=by
 intro pins s σ H Q I h
 obtain⟨v,e,h⟩:=h
 obtain⟨m,hn,hl⟩:=I.loc
 obtain⟨u,r,l⟩:=hl i x v hN e hv
 have fin:EP X pins σ Q u s:=⟨v,H,I,r,h⟩
 rcases l with⟨hk,hm⟩|⟨hk,c,hc,A1⟩
 ·exact wpAny_Name (wpAny_loadName_local I.ok.kind hk hn hm fin) hd
 ·rcases hk with hk|hk
  ·exact wpAny_Name (wpAny_loadName_cell I.ok.kind hk hc A1 fin) hd
  ·exact wpAny_Name (wpAny_loadName_free I.ok.kind hk hc A1 fin fu) hd
theorem Lg{i j pos}:PE X (.Constant (.int i) j pos) (tC (.int i)):=fun _ _ _ H _ I h=>wpAny_Constant_int ⟨.int i,H,I.tok _,⟨_,rfl⟩,h⟩
theorem JB{b j pos}:PE X (.Constant (.bool b) j pos) (tC (.bl b)):=fun _ _ _ H _ I h=>Constant_bool ⟨.bl b,H,I,rfl,h⟩
theorem Lf{j pos}:PE X (.Constant .none j pos) (tC .bH):=fun _ _ _ H _ I h=>Constant_none ⟨.bH,H,I,rfl,h⟩
theorem Lc{x j pos}:PE X (.Constant (.str x) j pos) (tC (.str x)):=fun _ _ _ H _ I h=>Calls.Constant_str ⟨.str x,H,I.tok _,⟨_,rfl⟩,h⟩
def Gl(X:Cx)(x:Str):Prop:=X.env.kindOf x=some .globalImplicit
theorem AV{E:Value->Shared->Prop}{pins:List (Addr×Obj)}{s:Shared}{σ:St}{H:Hp}{x:Str}{u:Value}{pos:Pos}{Q:Value->Shared->Prop}(I:Inv X pins σ H s)(hg:Gl X x)(hm:X.mg x=some u)(h:Q u s)
  (hd:(x==("__debug__":Str))=false:=by decide):wpAny (model X.prog X.w) X.A (eval (.Name x pos) X.env) Q E s:=
 Calls.Name_function_global I.ok.kind hg (Calls.loadGlobal_global (by rw[I.ok.glob];exact I.mod.glob.keeps I.bk) hm h) hd
theorem rK{E:Value->Shared->Prop}{pins:List (Addr×Obj)}{s:Shared}{σ:St}{H:Hp}{x:Str}{u:Value}{pos:Pos}{Q:Value->Shared->Prop}(I:Inv X pins σ H s)(hg:Gl X x)(hm:X.mg x=none)(hv:bootBuiltins x=some u)(h:Q u s)
  (hn:x≠"__name__":=by decide) (hd:(x==("__debug__":Str))=false:=by decide):wpAny (model X.prog X.w) X.A (eval (.Name x pos) X.env) Q E s:=by
 obtain⟨mb,h1,h2⟩:=I.mod.blt
 exact Calls.Name_function_global I.ok.kind hg (Calls.loadGlobal_builtin (by rw[I.ok.glob];exact I.mod.glob.keeps I.bk) hm (by rw[I.ok.blt];exact h1.keeps I.bk) ((h2 x hn).trans hv) h) hd
theorem AI{x:Str}{v:V}{u:Value}{pos:Pos}(hg:Gl X x)(hm:X.mg x=some u)(r:RelV v u)(hd:(x==("__debug__":Str))=false:=by decide):PE X (.Name x pos) (tC v):=
 fun _ _ _ H _ I h=>AV I hg hm ⟨v,H,I,r,h⟩ hd
theorem Ij{x:Str}{v:V}{u:Value}{pos:Pos}(hg:Gl X x)(hm:X.mg x=none)(hv:bootBuiltins x=some u)(r:RelV v u)(hn:x≠"__name__":=by decide)(hd:(x==("__debug__":Str))=false:=by decide):PE X (.Name x pos) (tC v):=
 fun _ _ _ H _ I h=>rK I hg hm hv ⟨v,H,I,r,h⟩ hn hd
def Q9(ta tb:TE)(k:Int->Int->Hp->Prop):St->Hp->Prop:=fun σ H=>ta σ H fun x H1=>tb σ H1 fun y H2=>∃i j,x=.int i/\y=.int j/\k i j H2
def YU(ta tb:TE):TE:=fun σ H Q=>Q9 ta tb (fun i j H2=>Q (.int (i+j)) H2) σ H
def YK(ta tb:TE):TE:=fun σ H Q=>Q9 ta tb (fun i j H2=>Q (.int (i-j)) H2) σ H
def YN(ta tb:TE):TE:=fun σ H Q=>Q9 ta tb (fun i j H2=>(-(2 ^ 64)<i/\i<2 ^ 64)/\Q (.int (i * j)) H2) σ H
variable {a b:Expr}{ta tb:TE}{pos:Pos}
def PC(X:Cx)(op:CmpOp)(a b:Expr)(t:TE):Prop:=
 ∀(pins:List (Addr×Obj)) (s:Shared) (σ:St) (H:Hp) (Q:VK),Inv X pins σ H s->t σ H Q ->
  wpAny (model X.prog X.w) X.A (eval a X.env) (fun v cJ=>wpAny (model X.prog X.w) X.A (eval b X.env) (fun u ow=>wpAny (model X.prog X.w) X.A (compareOp op v u) (EP X pins σ Q) X.xe ow) X.xe cJ) X.xe s
theorem nq(b:Expr){op:CmpOp}(h:op≠.In)(h2:op≠.NotIn):behindInMarks op b=false:=by
 have e1:(op==CmpOp.In)=false:=by cases op<;>first|rfl|exact absurd rfl h
 have e2:(op==CmpOp.NotIn)=false:=by cases op<;>first|rfl|exact absurd rfl h2
 cases b<;>simp[behindInMarks,e1,e2]
def BF(p:Int->Int->Bool)(ta tb:TE):TE:=fun σ H Q=>Q9 ta tb (fun i j H2=>Q (.bl (p i j)) H2) σ H
abbrev tLt:TE->TE->TE:=BF fun i j=>decide (i<j)
abbrev tLe:TE->TE->TE:=BF fun i j=>decide (i<=j)
abbrev tGt:TE->TE->TE:=BF fun i j=>decide (j<i)
abbrev tGe:TE->TE->TE:=BF fun i j=>decide (j<=i)
abbrev YS:TE->TE->TE:=BF fun i j=>decide (i=j)
abbrev YM:TE->TE->TE:=BF fun i j=>!decide (i=j)
def YQ(ta:TE):TE:=fun σ H Q=>ta σ H fun x H1=>Q (.bl (decide (x=.bH))) H1
def Jn(ta:TE):TE:=fun σ H Q=>ta σ H fun x H1=>Q (.bl (!decide (x=.bH))) H1
theorem RelV.ES{x:V}{v:Value}(r:RelV x v):(v==Value.none)=decide (x=.bH):=by
 cases x with
 |bH=>cases r;rfl
 |bl _=>cases r;rfl
 |int _=>obtain⟨t,rfl⟩:=r;rfl
 |str _=>obtain⟨t,rfl⟩:=r;rfl
 |wH _=>obtain⟨t,rfl⟩:=r;rfl
 |Gp _=>obtain⟨t,rfl⟩:=r;rfl
 |ref _=>cases r;rfl
 |ty _=>cases r;rfl
theorem Ik{j pos'}(ha:PE X a ta):PC X .IsNot a (.Constant .none j pos') (Jn ta):=by
 intro pins s σ H Q I h
 refine cn (ha pins s σ H _ I h) fun v s1 ⟨x,H1,I1,r1,q1⟩=>?_
 exact Constant_none (isnot_none_gen ⟨.bl _,H1,I1,by rw[r1.ES];rfl,q1⟩)
def tB(t:TE):TT:=fun σ H Q=>t σ H fun x H1=>∃c,x=.bl c/\Q c H1
theorem Lh{op:CmpOp}{t:TE}(h:PC X op a b t)(h1:behindInMarks op b=false:=by first|exact nq _ (by decide) (by decide)|rfl):PE X (.Compare a [op] [b] pos) t:=fun pins s σ H Q I hw=>wpAny_Compare1 (h pins s σ H Q I hw) h1
theorem K5{op:CmpOp}{t:TE}(h:PC X op a b t)(h1:behindInMarks op b=false:=by first|exact nq _ (by decide) (by decide)|rfl):PT X (.Compare a [op] [b] pos) (tB t):=by
 intro pins s σ H Q I hw
 refine wpAny_isTrue_Compare1 (cn (h pins s σ H _ I hw) fun v s1 h1=>cn h1 fun u s2 h2=>cn h2 fun c s3 ⟨x,H1,I1,r1,q1⟩=>?_) h1
 obtain⟨d,rfl,q⟩:=q1
 cases r1
 exact wpAny_truthy_bool ⟨H1,I1,q⟩
variable {tA V_:TT}{rest:List Expr}
def N_(t u:TT):TT:=fun σ H Q=>t σ H fun c H1=>if c=true then u σ H1 Q else Q false H1
def tOr(t u:TT):TT:=fun σ H Q=>t σ H fun c H1=>if c=true then Q true H1 else u σ H1 Q
def N5(t:TT):TT:=fun σ H Q=>t σ H fun c H1=>Q (!c) H1
theorem HM(ha:PT X a tA):PW X (.BoolOp .And [a] pos) tA:=by
 intro wh pins s σ H Q I h
 refine isTrue_and (cn (ha pins s σ H Q I h) fun c s1 e=>?_)
 cases c with
 |true=>exact isTrue_and_nil e
 |false=>exact e
theorem K2(ha:PT X a tA)(hb:PW X (.BoolOp .And (b::rest) pos) V_):PW X (.BoolOp .And (a::b::rest) pos) (N_ tA V_):=by
 intro wh pins s σ H Q I h
 refine isTrue_and (cn (ha pins s σ H _ I h) fun c s1 ⟨H1,I1,q1⟩=>?_)
 cases c with
 |true=>exact hb wh pins s1 σ H1 Q I1 q1
 |false=>exact⟨H1,I1,q1⟩
theorem K4(ha:PT X a tA):PT X (.UnaryOp .Not a pos) (N5 tA):=by
 intro pins s σ H Q I h
 exact isTrue_not (ha pins s σ H (fun c H1=>Q (!c) H1) I h)
def Ju(ta tb:TE):TE:=fun σ H Q=>ta σ H fun x H1=>∃c,x=.bl c/\if c=true then tb σ H1 Q else Q (.bl false) H1
def YL(ta tb:TE):TE:=fun σ H Q=>ta σ H fun x H1=>∃c,x=.bl c/\if c=true then Q (.bl true) H1 else tb σ H1 Q
def V6(ta:TE):TE:=fun σ H Q=>ta σ H fun x H1=>∃c,x=.bl c/\Q (.bl (!c)) H1
theorem Le{op}{t:TE}(h:PE X a t):PE X (.BoolOp op [a] pos) t:=fun pins s σ H Q I hw=>BoolOp_one (h pins s σ H Q I hw)
theorem Li(ha:PE X a ta)(hb:PE X (.BoolOp .And (b::rest) pos) tb):PE X (.BoolOp .And (a::b::rest) pos) (Ju ta tb):=by
 intro pins s σ H Q I h
 refine BoolOp_and (cn (ha pins s σ H _ I h) fun v s1 ⟨x,H1,I1,r1,q1⟩=>?_)
 obtain⟨c,rfl,q1⟩:=q1
 cases r1
 refine wpAny_truthy_bool ?_
 cases c with
 |true=>exact hb pins s1 σ H1 Q I1 q1
 |false=>exact⟨.bl false,H1,I1,rfl,q1⟩
def V9(t:TT)(ta tb:TE):TE:=fun σ H Q=>t σ H fun c H1=>if c=true then ta σ H1 Q else tb σ H1 Q
theorem EC{c:Expr}(hc:PT X c tA)(ha:PE X a ta)(hb:PE X b tb):PE X (.IfExp c a b pos) (V9 tA ta tb):=by
 intro pins s σ H Q I h
 refine wpAny_IfExp (cn (hc pins s σ H _ I h) fun d s1 ⟨H1,I1,q1⟩=>?_)
 cases d with
 |true=>exact ha pins s1 σ H1 Q I1 q1
 |false=>exact hb pins s1 σ H1 Q I1 q1
end
end L2
namespace L2
open PySem PySem.Spec PyProof.Rows
def ju(K:PySem.W.Frag)(H:Hp)(a:Addr)(xs:List V):Prop:=
 Rd H a (.lst xs) \/
  ∃(o:Obj) (its:Array Value) (n:Nat),K.lookup a=some o/\o.cls=.type "list"/\o.dict=none/\o.data=.seq its n/\its.size<=sizeLine/\Vals xs its.toList
def pA(K:PySem.W.Frag)(H:Hp)(a:Addr)(xs:List V):Prop:=
 Rd H a (.tup xs) \/
  ∃(o:Obj) (its:Array Value) (n:Nat),K.lookup a=some o/\o.cls=.type "tuple"/\o.data=.seq its n/\its.size<=sizeLine/\Vals xs its.toList
def Vo:Value->Option V
 | .none=>some .bH
 | .bool b=>some (.bl b)
 | .int i _=>some (.int i)
 | .str x _=>some (.str x)
 | .bytes b _=>some (.wH b)
 | .float b _=>some (.Gp b)
 | .ref a=>some (.ref a)
 | .type n=>some (.ty n)
 |_=>none
theorem RelV.abs{x:V}{u:Value}(r:RelV x u):Vo u=some x:=by
 cases x with
 |bH=>cases r;rfl
 |bl _=>cases r;rfl
 |int _=>obtain⟨t,rfl⟩:=r;rfl
 |str _=>obtain⟨t,rfl⟩:=r;rfl
 |wH _=>obtain⟨t,rfl⟩:=r;rfl
 |Gp _=>obtain⟨t,rfl⟩:=r;rfl
 |ref _=>cases r;rfl
 |ty _=>cases r;rfl
theorem RelV.inj{x y:V}{u:Value}(r:RelV x u)(q:RelV y u):x=y:=Option.some.inj (r.abs.symm.trans q.abs)
theorem Vals.inj:∀{xs ys:List V}{us:List Value},Vals xs us->Vals ys us->xs=ys
 |_,_,_,.nil,.nil=>rfl
 |_,_,_,.cons r t,.cons r' t'=>by rw[r.inj r',Vals.inj t t']
section
variable {X:Cx}{pins:List (Addr×Obj)}{σ:St}{H:Hp}{s:Shared}{a:Addr}{xs ys:List V}
theorem ju.of{K:PySem.W.Frag}(h:H a=some (.lst xs)):ju K H a xs:=.inl (.inl h)
theorem pA.of{K:PySem.W.Frag}(h:H a=some (.tup xs)):pA K H a xs:=.inl (.inl h)
theorem Inv.list(I:Inv X pins σ H s)(h:ju X.K H a xs):∃its:List Value,Vals xs its/\PlainL s.heap a its.toArray/\xs.length<=sizeLine:=by
 rcases h with h|⟨o,its,n,hk,hc,hd,hs,hz,r⟩
 ·obtain⟨z,its,n,r,e⟩:=h.ok I.cg
  exact⟨its,r,⟨_,n,e,rfl,rfl,rfl⟩,z⟩
 ·refine⟨its.toList,r,⟨o,n,I.LO a o hk,hc,hd,by simpa using hs⟩,?_⟩
  have e:=r.length
  simp only[Array.length_toList] at e
  omega
theorem Inv.tuple(I:Inv X pins σ H s)(h:pA X.K H a xs):∃its:List Value,Vals xs its/\IsTup s.heap a its.toArray/\xs.length<=sizeLine:=by
 rcases h with h|⟨o,its,n,hk,hc,hs,hz,r⟩
 ·obtain⟨z,its,r,p⟩:=h.ok I.cg
  exact⟨its,r,p,z⟩
 ·refine⟨its.toList,r,⟨o,I.LO a o hk,hc,n,by simpa using hs⟩,?_⟩
  have e:=r.length
  simp only[Array.length_toList] at e
  omega
theorem Inv.xY(I:Inv X pins σ H s)(h:ju X.K H a xs)(h':ju X.K H a ys):xs=ys:=by
 obtain⟨its,r,⟨o,n,e,_,_,d⟩,_⟩:=I.list h
 obtain⟨its',r',⟨o',n',e',_,_,d'⟩,_⟩:=I.list h'
 rw[e] at e';cases e'
 rw[d] at d'
 injection d' with d1 _
 have:its=its':=by simpa using congrArg Array.toList d1
 subst this
 exact r.inj r'
theorem Inv.BD(I:Inv X pins σ H s)(h:pA X.K H a xs)(h':pA X.K H a ys):xs=ys:=by
 obtain⟨its,r,⟨o,e,_,n,d⟩,_⟩:=I.tuple h
 obtain⟨its',r',⟨o',e',_,n',d'⟩,_⟩:=I.tuple h'
 rw[e] at e';cases e'
 rw[d] at d'
 injection d' with d1 _
 have:its=its':=by simpa using congrArg Array.toList d1
 subst this
 exact r.inj r'
end
abbrev Cx.pW(X:Cx)(E:Value->Shared->Prop):Cx:={X with xe:=E}
abbrev Cx.yE(X:Cx):Cx:=X.pW fun _ _=>False
theorem Cx.Ok.pW{X:Cx}(ok:X.Ok)(E:Value->Shared->Prop):(X.pW E).Ok:=
 ⟨ok.mod,ok.kind,ok.glob,ok.blt,ok.above,ok.inj,ok.has,ok.PZ,ok.hd,ok.frames,ok.Q_,ok.Xk,ok.bs,ok.FU,ok.ET,ok.Ja,ok.pd,ok.JU⟩
theorem Cx.Ok.i7{X:Cx}{E:Value->Shared->Prop}(ok:(X.pW E).Ok):X.Ok:=
 ⟨ok.mod,ok.kind,ok.glob,ok.blt,ok.above,ok.inj,ok.has,ok.PZ,ok.hd,ok.frames,ok.Q_,ok.Xk,ok.bs,ok.FU,ok.ET,ok.Ja,ok.pd,ok.JU⟩
section
variable {X:Cx}{pins:List (Addr×Obj)}{σ:St}{H:Hp}{s:Shared}{E:Value->Shared->Prop}
theorem Inv.pW(I:Inv X pins σ H s)(E:Value->Shared->Prop):Inv (X.pW E) pins σ H s:=⟨I.ok.pW E,I.os,I.bare,I.base,I.loc,I.cell,I.free,I.j_,I.pin,I.cg,I.len⟩
theorem Inv.i7(I:Inv (X.pW E) pins σ H s):Inv X pins σ H s:=⟨I.ok.i7,I.os,I.bare,I.base,I.loc,I.cell,I.free,I.j_,I.pin,I.cg,I.len⟩
theorem SP.i7{D:Ends}{f:Flow}{s':Shared}(h:SP (X.pW E) pins D f s'):SP X pins D f s':=by
 cases f with
 |next=>obtain⟨bR,H',I,q⟩:=h;exact⟨bR,H',I.i7,q⟩
 |brk=>obtain⟨bR,H',I,q⟩:=h;exact⟨bR,H',I.i7,q⟩
 |cont=>obtain⟨bR,H',I,q⟩:=h;exact⟨bR,H',I.i7,q⟩
 |ret u=>obtain⟨v,bR,H',I,r,q⟩:=h;exact⟨v,bR,H',I.i7,r,q⟩
theorem PE.yE{e:Expr}{t:TE}(h:PE X.yE e t):PE X e t:=fun pins s σ H Q I hw=>
 wpAny_mono (h pins s σ H Q (I.pW _) hw) (fun _ _ ⟨v,H',I',r,q⟩=>⟨v,H',I'.i7,r,q⟩) fun _ _ z=>False.elim z
theorem PT.yE{e:Expr}{t:TT}(h:PT X.yE e t):PT X e t:=fun pins s σ H Q I hw=>
 wpAny_mono (h pins s σ H Q (I.pW _) hw) (fun _ _ ⟨H',I',q⟩=>⟨H',I'.i7,q⟩) fun _ _ z=>False.elim z
theorem Ad.yE{st:List Stmt}{t:TS}(h:Ad X.yE st t):Ad X st t:=fun pins s σ H D I hw=>
 wpAny_mono (h pins s σ H D (I.pW _) hw) (fun _ _ q=>q.i7) fun _ _ z=>False.elim z
end
section
variable {X:Cx}{st:Stmt}{rest:List Stmt}{t u:TS}{e:Expr}{te:TE}{pos:Pos}
def Jo:TS:=fun D σ H=>D.nx σ H
def N1(t u:TS):TS:=fun D σ H=>t {D with nx:=u D} σ H
theorem HS:Ad X [] Jo:=fun _ _ σ H _ I h=>wpAny_execs_nil ⟨σ,H,I,h⟩
theorem Eo(h1:PS X st t)(h2:Ad X rest u):Ad X (st::rest) (N1 t u):=by
 intro pins s σ H D I h
 refine wpAny_execs_cons (cn (h1 pins s σ H {D with nx:=u D} I h) fun f s1 q=>?_)
 cases f with
 |next=>
  obtain⟨bR,H',I',q⟩:=q
  exact h2 pins s1 bR H' D I' q
 |ret v=>exact q
 |brk=>exact q
 |cont=>exact q
theorem HR(h1:PS X st t):Ad X [st] t:=by
 intro pins s σ H D I h
 refine wpAny_execs_cons (cn (h1 pins s σ H D I h) fun f s1 q=>?_)
 cases f with
 |next=>exact wpAny_execs_nil q
 |ret v=>exact q
 |brk=>exact q
 |cont=>exact q
def Su:TS:=fun D σ H=>D.bk σ H
def Jt:TS:=fun D σ H=>D.ct σ H
theorem xE:PS X (.Continue pos) Jt:=fun _ _ σ H _ I h=>wpAny_Continue ⟨σ,H,I,h⟩
theorem Inv.quiet{pins:List (Addr×Obj)}{σ:St}{H:Hp}{s:Shared}(I:Inv X pins σ H s):interactive X.env=false:=by simp[interactive,I.ok.kind]
def ud(te:TE):TS:=fun D σ H=>te σ H fun _ H1=>D.nx σ H1
theorem mZ(he:PE X e te)(hs:swapsWith e none pos.line X.env=pure false:=by rfl):PS X (.Expr e pos) (ud te):=by
 intro pins s σ H D I h
 exact wpAny_Expr_any (cn (he pins s σ H _ I h) fun v s1 ⟨x,H1,I1,r1,q1⟩=>⟨σ,H1,I1,q1⟩) I.quiet hs
def N3(te:TE):TS:=fun D σ H=>te σ H D.rt
theorem K6(he:PE X e te):PS X (.Return (some e) pos) (N3 te):=by
 intro pins s σ H D I h
 exact wpAny_Return_some (cn (he pins s σ H _ I h) fun v s1 ⟨x,H1,I1,r1,q1⟩=>⟨x,σ,H1,I1,r1,q1⟩)
def V5:TS:=fun D _ H=>D.rt .bH H
def N6(c:TT)(t u:TS):TS:=fun D σ H=>c σ H fun b H1=>if b=true then t D σ H1 else u D σ H1
theorem Oi{c:Expr}{a b:List Stmt}{tc:TT}(hc:PT X c tc)(ha:Ad X a t)(hb:Ad X b u):PS X (.If c a b pos) (N6 tc t u):=by
 intro pins s σ H D I h
 refine wpAny_If (cn (hc pins s σ H _ I h) fun d s1 ⟨H1,I1,q1⟩=>?_)
 cases d with
 |true=>exact ha pins s1 σ H1 D I1 q1
 |false=>exact hb pins s1 σ H1 D I1 q1
def Kr:TS:=fun _ _ _=>False
theorem Et:PS X st Kr:=fun _ _ _ _ _ _ h=>h.elim
end
abbrev TG:=V->St->Hp->(St->Hp->Prop)->Prop
abbrev C2:=List V->St->Hp->(St->Hp->Prop)->Prop
def PG(X:Cx)(target:Expr)(t:TG):Prop:=
 ∀(pins:List (Addr×Obj)) (s:Shared) (σ:St) (H:Hp) (v:V) (u:Value) (Q:St->Hp->Prop),Inv X pins σ H s->RelV v u->t v σ H Q ->
  wpAny (model X.prog X.w) X.A (assign target X.env u) (fun _ s'=>∃bR H',Inv X pins bR H' s'/\Q bR H') X.xe s
def Nv(X:Cx)(ts:List Expr)(t:C2):Prop:=
 ∀(pins:List (Addr×Obj)) (s:Shared) (σ:St) (H:Hp) (vs:List V) (us:List Value) (Q:St->Hp->Prop),Inv X pins σ H s->Vals vs us->t vs σ H Q ->
  wpAny (model X.prog X.w) X.A (assignInOrder ((assignEach ts X.env).map (·.2)) us) (fun _ s'=>∃bR H',Inv X pins bR H' s'/\Q bR H') X.xe s
abbrev Jg:=V->V->V->Hp->(Hp->Prop)->Prop
def Qf(X:Cx)(t:Jg):Prop:=
 ∀(pins:List (Addr×Obj)) (s:Shared) (σ:St) (H:Hp) (o i v:V) (ov iv u:Value) (Q:Hp->Prop),Inv X pins σ H s->RelV o ov->RelV i iv->RelV v u->t o i v H Q ->
  wpAny (model X.prog X.w) X.A (setItem ov iv u) (fun _ s'=>∃H',Inv X pins σ H' s'/\Q H') X.xe s
abbrev Qd:=V->V->Hp->VK->Prop
def Vs(X:Cx)(op:Operator)(t:Qd):Prop:=
 ∀(pins:List (Addr×Obj)) (s:Shared) (σ:St) (H:Hp) (x y:V) (v u:Value) (Q:VK),Inv X pins σ H s->RelV x v->RelV y u->t x y H Q ->
  wpAny (model X.prog X.w) X.A (inplaceOp op v u) (EP X pins σ Q) X.xe s
section
variable {X:Cx}{pos:Pos}
def A7(i:Nat):TG:=fun v σ H Q=>Q (σ.set i (some v)) H
theorem AH{i:Nat}{x:Str}(hN:X.N.Nodup)(hi:X.N[i]? = some x)(hx:Loc X.env.scope x)(hf:X.fn x=true\/X.env.scope.names.lookup x=some .local:=by first|exact .inl rfl|exact .inr rfl|assumption):PG X (.Name x pos) (A7 i):=by
 intro pins s σ H v u Q I r h
 exact wpAny_assign_Name (kz I hN hi hx r (fun s' I'=>⟨_,H,I',h⟩) hf)
def Py:C2:=fun vs σ H Q=>vs=[]/\Q σ H
def JT(t:TG)(u:C2):C2:=fun vs σ H Q=>∃v r,vs=v::r/\t v σ H fun bR H'=>u r bR H' Q
theorem H9:Nv X [] Py:=by
 intro pins s σ H vs us Q I r h
 obtain⟨e,h⟩:=h
 subst e
 cases r
 exact assignInOrder_nil ⟨σ,H,I,h⟩
theorem EB{e:Expr}{es:List Expr}{t:TG}{u:C2}(h1:PG X e t)(h2:Nv X es u)
  (hs:(assignEach (e::es) X.env).map (·.2)=assign e X.env::(assignEach es X.env).map (·.2):=by rfl):Nv X (e::es) (JT t u):=by
 intro pins s σ H vs us Q I r h
 obtain⟨v,vr,e1,h⟩:=h
 subst e1
 cases r with
 |cons r rr=>
  rw[hs]
  refine assignInOrder_cons (cn (h1 pins s σ H _ _ _ I r h) fun _ s1 ⟨yI,H1,I1,q1⟩=>?_)
  exact h2 pins s1 yI H1 _ _ Q I1 rr q1
def Pw(K:PySem.W.Frag)(n:Nat)(t:C2):TG:=fun v σ H Q=>∃a xs,v=.ref a/\pA K H a xs/\xs.length=n/\t xs σ H Q
theorem La{es:List Expr}{k:Nat}{t:C2}{n:Nat}(hc:X.calm=true)(h:Nv X es t)
  (hn:(assignEach es X.env).length=n:=by rfl) (zO:(assignEach es X.env).findIdx? (·.1)=none:=by rfl):PG X (.Tuple es k pos) (Pw X.K n t):=by
 intro pins s σ H v u Q I r hw
 obtain⟨a,xs,e1,hq,hl,hw⟩:=hw
 subst e1
 cases r
 obtain⟨its,rv,ht,hz⟩:=I.tuple hq
 refine assign_Tuple_tuple (I.ok.hd hc) ht (by simp[hn,<-hl,rv.length]) zO fun h' hx=>?_
 have I1:Inv X pins σ H {s with heap:=h'}:=I.kept (t':=s.toks) fun b o e=>hx b o (Nat.ne_of_lt (Heap.lt_size e)) e
 exact h pins _ σ H xs _ Q I1 (by simpa using rv) hw
def Px(to ti:TE)(t:Jg):TG:=fun v σ H Q=>to σ H fun o H1=>ti σ H1 fun i H2=>t o i v H2 fun H3=>Q σ H3
theorem Lb{o i:Expr}{to ti:TE}{t:Jg}(ho:PE X o to)(hi:PE X i ti)(hs:Qf X t)
  (ha:∀v,assign (.Subscript o i pos) X.env v=(do
   let ov <-holding [v] (eval o X.env)
   let iv <-holding [v,ov] (eval i X.env)
   standAt pos
   holding [v,ov,iv] (setItem ov iv v)
   release [v,ov,iv] []):=by intro _;rfl):PG X (.Subscript o i pos) (Px to ti t):=by
 intro pins s σ H v u Q I r h
 rw[ha]
 refine wpAny_bind (wpAny_holding (cn (ho pins s σ H _ I h) fun ov s1 ⟨x,H1,I1,r1,q1⟩=>?_))
 refine wpAny_bind (wpAny_holding (cn (hi pins s1 σ H1 _ I1 q1) fun iv s2 ⟨y,H2,I2,r2,q2⟩=>?_))
 refine wpAny_bind (wpAny_standAt (wpAny_bind (wpAny_holding (cn (hs pins s2 σ H2 x y v ov iv u _ I2 r1 r2 r q2) fun _ s3 ⟨H3,I3,q3⟩=>?_))))
 exact wpAny_release ⟨σ,H3,I3,q3⟩
def yW(te:TE)(g:TG):TS:=fun D σ H=>te σ H fun x H1=>g x σ H1 D.nx
theorem Ew{tg e:Expr}{te:TE}{g:TG}(he:PE X e te)(hg:PG X tg g)(hs:swapsWithSole [tg] e pos.line X.env=pure false:=by rfl)(hw:swappedStores [tg] e X.env=pure none:=by rfl)
  (h1:(assignEach [tg] X.env).map (·.2)=[assign tg X.env]:=by rfl):PS X (.Assign [tg] e pos) (yW te g):=by
 intro pins s σ H D I h
 refine wpAny_Assign_stores (cn (he pins s σ H _ I h) fun v s1 ⟨x,H1,I1,r1,q1⟩=>?_) hs hw
 rw[h1]
 exact cn (hg pins s1 σ H1 x v _ I1 r1 q1) fun _ s2 q=>q
theorem Es{i:Nat}{x:Str}{e:Expr}{te:TE}{pos':Pos}(hN:X.N.Nodup)(hi:X.N[i]? = some x)(hx:Loc X.env.scope x)(he:PE X e te)(hs:swapsWith e (some (.Name x pos')) pos.line X.env=pure false:=by rfl)(hf:X.fn x=true\/X.env.scope.names.lookup x=some .local:=by first|exact .inl rfl|exact .inr rfl|assumption) :
  PS X (.Assign [.Name x pos'] e pos) (yW te (A7 i)):=by
 intro pins s σ H D I h
 refine wpAny_Assign_Name (cn (he pins s σ H _ I h) fun v s1 ⟨y,H1,I1,r1,q1⟩=>?_) hs
 exact kz I1 hN hi hx r1 (fun s2 I2=>⟨_,H1,I2,q1⟩) hf
def N4(i j:Nat)(ta:TA):TS:=fun D σ H=>ta σ H fun vs H1=>∃v w,vs=[v,w]/\D.nx ((σ.set i (some v)).set j (some w)) H1
theorem K7{i j:Nat}{x y:Str}{a b:Expr}{ta:TA}{px py pt:Pos}{kt k2 En}(hc:X.calm=true)(hN:X.N.Nodup)(hi:X.N[i]? = some x)(hj:X.N[j]? = some y)(Pm:i≠j)
  (hx:X.env.scope.names.lookup x=some .local) (hy:X.env.scope.names.lookup y=some .local) (ha:PA X [a,b] ta)
  (hw:swappedStores [.Tuple [.Name x px,.Name y py] kt pt] (.Tuple [a,b] k2 En) X.env=pure (some [x,y]))
  (hs:swapsWithSole [.Tuple [.Name x px,.Name y py] kt pt] (.Tuple [a,b] k2 En) pos.line X.env=pure false:=by rfl) :
  PS X (.Assign [.Tuple [.Name x px,.Name y py] kt pt] (.Tuple [a,b] k2 En) pos) (N4 i j ta):=by
 intro pins s σ H D I h
 rw[exec_Assign_arm]
 refine wpAny_bind (wpAny_standAt ?_)
 rw[hs]
 refine wpAny_bind (wpAny_pure ?_)
 rw[if_neg (by decide)]
 refine wpAny_bind (Tuple_ (cn (ha _ pins s σ H _ I h) fun us s1 ⟨vs,H1,I1,r1,q1⟩=>?_))
 obtain⟨v,w,e1,q1⟩:=q1
 subst e1
 obtain⟨u1,u2,rfl,rv,vN⟩:∃u1 u2,us=[u1,u2]/\RelV v u1/\RelV w u2:=by
  cases r1 with
  |cons p q=>
   cases q with
   |cons p' q'=>
    cases q'
    exact⟨_,_,rfl,p,p'⟩
 refine wpAny_newObj_type ?_ (by show 2<=sizeLine;decide)
 have I2:Inv X pins σ H1 {s1 with heap:=s1.heap.push {cls:=.type "tuple",data:=.seq [u1,u2].toArray}}:=I1.kept (t':=s1.toks) fun b o e=>Heap.get?_push_of_some _ e
 rw[hw]
 refine wpAny_bind (wpAny_pure ?_)
 show wpAny (model X.prog X.w) X.A (do rule "assign.swapped-stores";let items <-unpackItems (.ref s1.heap.objs.size) 2 none;assignInOrder [fun v=>bindName X.env y v,fun v=>bindName X.env x v] items.reverse;pure Flow.next) _ _ _
 refine wpAny_bind (wpAny_rule (wpAny_bind (unpackItems_tuple (items:=#[u1,u2]) (I.ok.hd hc) (IsTup.new s1.heap _) fun h' L3=>?_)))
 have I3:=I2.kept (h':=h') (t':=s1.toks) fun b o e=>L3 b o (Nat.ne_of_lt (Heap.lt_size e)) e
 show wpAny _ _ (assignInOrder [fun v=>bindName X.env y v,fun v=>bindName X.env x v] [u2,u1] >>= fun _=>pure Flow.next) _ _ _
 refine wpAny_bind (assignInOrder_cons (wpAny_bindName (kz I3 hN hj (.inl hy) vN (fun s2 I4=>?_) (.inr hy))))
 refine assignInOrder_cons (wpAny_bindName (kz I4 hN hi (.inl hx) rv (fun s3 I5=>assignInOrder_nil (wpAny_pure ?_)) (.inr hx)))
 rw[List.set_comm _ _ (Ne.symm Pm)] at I5
 exact⟨_,H1,I5,q1⟩
def N9(i:Nat)(te:TE)(ti:Qd):TS:=fun D σ H=>∃x,σ[i]? = some (some x)/\te σ H fun y H1=>ti x y H1 fun z H2=>D.nx (σ.set i (some z)) H2
theorem K8{i:Nat}{x:Str}{e:Expr}{te:TE}{op:Operator}{ti:Qd}{pos':Pos}(hN:X.N.Nodup)(hi:X.N[i]? = some x)(hx:Loc X.env.scope x)(he:PE X e te)(ho:Vs X op ti)(hf:X.fn x=true\/X.env.scope.names.lookup x=some .local:=by first|exact .inl rfl|exact .inr rfl|assumption) :
  PS X (.AugAssign (.Name x pos') op e pos) (N9 i te ti):=by
 intro pins s σ H D I h
 obtain⟨v,e1,h⟩:=h
 obtain⟨m,hn,hl⟩:=I.loc
 have yC:km X.env.scope x:=by rcases hx with k|k;exact .inl k;exact .inr (.inl k)
 obtain⟨u,r,l⟩:=hl i x v hi e1 yC
 refine wpAny_AugAssign_Name ?_
 have go:wpAny (model X.prog X.w) X.A (eval e X.env) (fun w ow=>wpAny (model X.prog X.w) X.A (inplaceOp op u w) (fun r He=>wpAny (model X.prog X.w) X.A (storeName X.env x r) (fun _=>SP X pins D .next) X.xe He) X.xe ow) X.xe s:=by
  refine cn (he pins s σ H _ I h) fun w s1 ⟨y,H1,I1,r1,q1⟩=>?_
  refine cn (ho pins s1 σ H1 v y u w _ I1 r r1 q1) fun z s2 ⟨zv,H2,I2,r2,q2⟩=>?_
  exact kz I2 hN hi hx r2 (fun s3 I3=>⟨_,H2,I3,q2⟩) hf
 rcases l with⟨hk,hm⟩|⟨hk,c,hc,A1⟩
 ·exact wpAny_loadName_local I.ok.kind hk hn hm go
 ·rcases hk with hk|hk
  ·exact wpAny_loadName_cell I.ok.kind hk hc A1 go
  ·rcases hx with k|k
   ·have:X.env.scope.names.lookup x=some .free:=hk
    rw[k] at this;cases this
   ·have:X.env.scope.names.lookup x=some .free:=hk
    rw[k] at this;cases this
def V'(to ti te:TE)(Sn:V->V->Hp->VK->Prop)(YI:Qd)(Sk:Jg):TS:=fun D σ H=>to σ H fun o H1=>ti σ H1 fun i H2=>Sn o i H2 fun x H3=>te σ H3 fun y H4=>YI x y H4 fun z H5=>Sk o i z H5 fun H6=>D.nx σ H6
def acS(X:Cx)(t:V->V->Hp->VK->Prop):Prop:=
 ∀(pins:List (Addr×Obj)) (s:Shared) (σ:St) (H:Hp) (o i:V) (ov iv:Value) (Q:VK),Inv X pins σ H s->RelV o ov->RelV i iv->t o i H Q ->
  wpAny (model X.prog X.w) X.A (getItem ov iv) (EP X pins σ Q) X.xe s
def Tc(f:Int->Int->Int):Qd:=fun x y H Q=>∃i j,x=.int i/\y=.int j/\Q (.int (f i j)) H
theorem LW:Vs X .Add (Tc fun i j=>i+j):=by
 intro pins s σ H x y v u Q I r1 r2 h
 obtain⟨i,j,e1,e2,q⟩:=h
 subst e1;subst e2
 obtain⟨t,rfl⟩:=r1
 obtain⟨t',rfl⟩:=r2
 exact iadd_int ⟨.int _,H,I.tok _,⟨_,rfl⟩,q⟩
end
section
variable {X:Cx}{pos:Pos}
def Ds(c:TT)(tb:TS):TS:=fun D σ H=>∃W:Nat->St->Hp->Prop,(∃m,W m σ H)/\∀m σ H,W m σ H ->
 c σ H fun b H1=>if b=true then ∃N:St->Hp->Prop,(∀bR H',N bR H'->∃m',m'<m/\W m' bR H')/\tb {D with nx:=N,ct:=N,bk:=D.nx} σ H1 else D.nx σ H1
theorem Ep{c:Expr}{body:List Stmt}{tc:TT}{tb:TS}(hp:PassesOwn (model X.prog X.w) X.A X.env X.xe)(hc:PT X c tc)(hb:Ad X body tb):PS X (.While c body [] pos) (Ds tc tb):=by
 intro pins s σ H D I h
 obtain⟨W,⟨m0,w0⟩,turn⟩:=h
 refine wpAny_While (codeAny_whileLoop (fun n s'=>∃bR H',Inv X pins bR H' s'/\W n bR H') ?_ m0 ⟨σ,H,I,w0⟩)
 rintro n s1 ⟨yI,H1,I1,w1⟩
 refine wpAny_passesOwn hp (cn (hc pins s1 yI H1 _ I1 (turn n yI H1 w1)) fun b s2 ⟨H2,I2,q2⟩=>?_)
 cases b with
 |true=>
  obtain⟨N,hN,q2⟩:=q2
  rw[if_pos rfl]
  refine wpAny_passesOwn hp (cn (hb pins s2 yI H2 _ I2 q2) fun f s3 q3=>?_)
  cases f with
  |next=>
   obtain⟨wX,H3,I3,n3⟩:=q3
   obtain⟨m',hm,w3⟩:=hN wX H3 n3
   exact⟨m',hm,wX,H3,I3,w3⟩
  |cont=>
   obtain⟨wX,H3,I3,n3⟩:=q3
   obtain⟨m',hm,w3⟩:=hN wX H3 n3
   exact⟨m',hm,wX,H3,I3,w3⟩
  |brk=>exact q3
  |ret v=>exact q3
 |false=>
  rw[if_neg Bool.false_ne_true]
  exact wpAny_execs_nil ⟨yI,H2,I2,q2⟩
end
structure It where
 go:Nat->Hp->Prop
 MV:Nat->Hp->V->Hp->Prop
 stop:Nat->Hp->Prop
def n9(X:Cx)(pins:List (Addr×Obj))(H:Hp)(b:Addr):Prop:=
 H b=none/\b≠X.env.locals/\b∉X.fs/\(b∈X.ex\/X.h_.heap.objs.size<=b)/\(∀x c,X.env.cells.lookup x=some c->c≠b)/\∀p∈X.pn++pins,p.1≠b
theorem Inv.CG{X:Cx}{pins:List (Addr×Obj)}{σ:St}{H H':Hp}{s:Shared}{b:Addr}(I:Inv X pins σ H s)(hb:s.heap.objs.size<=b)(hn:H' b=none):n9 X pins H' b:=by
 refine⟨hn,Nat.ne_of_gt (Nat.lt_of_lt_of_le I.lt hb),I.OA hb,.inr (Nat.le_trans I.sz hb),fun x c e z=>?_,fun p hp z=>?_⟩
 ·obtain⟨v,q⟩:=I.cell x c e
  exact absurd (Nat.lt_of_lt_of_le q.lt (by rw[z];exact hb)) (Nat.lt_irrefl _)
 ·exact absurd (Nat.lt_of_lt_of_le (Heap.lt_size (I.pin p hp).1) (by rw[z];exact hb)) (Nat.lt_irrefl _)
structure Turn(P:Program)(w:World)(K:PySem.W.Frag)(tg:Expr)(J:It)(fp:List Addr)(it:Addr)(tn:Nat->Heap->Prop):Prop where
 mem:it∈fp
 obj:∀i h,tn i h->∀b∈fp,∃o,h.get? b=some o/\∀v,o.data≠.cell v
 keep:∀i h h',tn i h->(∀b∈fp,∀o,h.get? b=some o->h'.get? b=some o)->tn i h'
 item:∀(X:Cx),X.prog=P->X.w=w->X.K=K->X.calm=true->∀(i:Nat) (pins:List (Addr×Obj)) (s:Shared) (σ:St) (H:Hp) (E:Value->Shared->Prop),Inv X pins σ H s->(∀b∈fp,n9 X pins H b)->tn i s.heap->J.go i H ->
  wpAny (model P w) X.A (pyNext (.ref it)) (fun r s1=>∃u,r=some u /\
   wpAny (model P w) X.A (letOwnedTupleGo tg (.ref it) u) (fun _ s2=>∃x H',Inv X pins σ H' s2/\RelV x u/\J.MV i H x H'/\tn (i+1) s2.heap/\∀b∈fp,H' b=none) E s1) E s
 done:∀(X:Cx),X.prog=P->X.w=w->X.K=K->X.calm=true->∀(i:Nat) (pins:List (Addr×Obj)) (s:Shared) (σ:St) (H:Hp) (E:Value->Shared->Prop),Inv X pins σ H s->(∀b∈fp,n9 X pins H b)->tn i s.heap->J.stop i H ->
  wpAny (model P w) X.A (pyNext (.ref it)) (fun r s1=>r=none/\Inv X pins σ H s1) E s
 self:∀(A:Around) (i:Nat) (s:Shared) (Q:Value->Shared->Prop) (E:Value->Shared->Prop),tn i s.heap->Q (.ref it) s->wpAny (model P w) A (pyIter (.ref it)) Q E s
abbrev TI:=St->Hp->(It->Hp->Prop)->Prop
def Xp(X:Cx)(pins:List (Addr×Obj))(σ:St)(tg:Expr)(R:It->Hp->Prop)(LS:Value)(s2:Shared):Prop:=
 ∃(it:Addr) (fp:List Addr) (tn:Nat->Heap->Prop) (J:It) (H':Hp),LS=.ref it/\Inv X pins σ H' s2/\Turn X.prog X.w X.K tg J fp it tn/\tn 0 s2.heap/\(∀b∈fp,n9 X pins H' b)/\R J H'
def PI(X:Cx)(tg iter:Expr)(wi:TI):Prop:=
 ∀(pins:List (Addr×Obj)) (s:Shared) (σ:St) (H:Hp) (R:It->Hp->Prop),Inv X pins σ H s->wi σ H R ->
  wpAny (model X.prog X.w) X.A (eval iter X.env) (fun v s1=>wpAny (model X.prog X.w) X.A (pyIter v) (Xp X pins σ tg R) X.xe s1) X.xe s
theorem A5{M:Model}{A:Around}{E:Value->Shared->Prop}{s:Shared}{tg:Expr}{it:Addr}{u:Value}{o:Obj}{n:String}{vs:Array Value}{Q:Unit->Shared->Prop}(ho:s.heap.get? it=some o)(hc:o.cls=.type n)(hd:o.data=.fields vs)
  (hn:["enumerate", "zip", "dict_itemiterator", "dict_reverseitemiterator", "odict_iterator", "itertools.zip_longest", "itertools.pairwise"].contains n=false) (hQ:Q () s):wpAny M A (letOwnedTupleGo tg (.ref it) u) Q E s:=by
 unfold letOwnedTupleGo
 cases tg<;>first
  |exact wpAny_pure hQ
  |(cases u<;>first
    |exact wpAny_pure hQ
    |(refine wpAny_bind (wpAny_load ho ?_)
      rw[hc,hd]
      show wpAny M A (if (["enumerate", "zip", "dict_itemiterator", "dict_reverseitemiterator", "odict_iterator", "itertools.zip_longest", "itertools.pairwise"].contains n&&vs[0]? == some (rawInt _))=true then _ else _) Q E s
      rw[if_neg (by intro h;rw[hn,Bool.false_and] at h;cases h)]
      exact wpAny_pure hQ))
def Vw(K:PySem.W.Frag)(a:Addr):It:=
 ⟨fun i H=>∃xs x,ju K H a xs/\xs[i]? = some x,fun i H x H'=>H'=H/\∀xs,ju K H a xs->xs[i]? = some x,fun i H=>∃xs,ju K H a xs/\xs.length<=i⟩
def Vv(K:PySem.W.Frag)(a:Addr):It:=
 ⟨fun i H=>∃xs x,pA K H a xs/\xs[i]? = some x,fun i H x H'=>H'=H/\∀xs,pA K H a xs->xs[i]? = some x,fun i H=>∃xs,pA K H a xs/\xs.length<=i⟩
def Ql(lo:Int)(n:Nat):It:=⟨fun i _=>i<n,fun i H x H'=>H'=H/\x=.int (lo+i),fun i _=>n<=i⟩
theorem BA{P:Program}{w:World}{K:PySem.W.Frag}{tg:Expr}(a it:Addr):Turn P w K tg (Vw K a) [it] it (fun i h=>h.IsListIter it a i) where
 mem:=by simp
 obj:=fun i h st b hb=>by
  have e:b=it:=by simpa using hb
  subst e
  obtain⟨o,e,c,d⟩:=st
  exact⟨o,e,fun v z=>by rw[d] at z;cases z⟩
 keep:=fun i h h' st k=>st.at fun o e=>k it (by simp) o e
 item:=by
  intro X hP hw hK hc i pins s σ H E I hf st hg
  subst hP hw hK
  obtain⟨xs,x,hq,hx⟩:=hg
  obtain⟨its,rv,p,hz⟩:=I.list hq
  obtain⟨u,hu,ru⟩:=rv.get hx
  obtain⟨f0,f1,f2,f3,f4,f5⟩:=hf it (by simp)
  refine wpAny_pyNext_list_item st p.isList (x:=u) (by simpa using hu) fun h' CU sb=>?_
  have I1:Inv X pins σ H {s with heap:=h'}:=I.turned (t':=s.toks) (fun b o hb e=>(sb.2 b hb).trans e) f0 f1 f3 f4 f5
  obtain⟨o,e,c,d⟩:=id CU
  exact⟨u,rfl,A5 (s:={s with heap:=h'}) e c d (by decide) ⟨x,H,I1,ru,⟨rfl,fun ys hy=>by rw[I.xY hy hq];exact hx⟩,CU,fun b hb=>(hf b hb).1⟩⟩
 done:=by
  intro X hP hw hK hc i pins s σ H E I hf st hg
  subst hP hw hK
  obtain⟨xs,hq,hx⟩:=hg
  obtain⟨its,rv,p,hz⟩:=I.list hq
  obtain⟨f0,f1,f2,f3,f4,f5⟩:=hf it (by simp)
  have hl:=rv.length
  exact wpAny_pyNext_list_end (I.ok.hd hc) st p.isList (by simp;omega) fun h' eb=>⟨rfl,I.turned (t':=s.toks) (fun b o hb e=>eb b o hb e) f0 f1 f3 f4 f5⟩
 self:=fun _ _ _ _ _ st h=>wpAny_pyIter_listiter st h
theorem yQ{P:Program}{w:World}{K:PySem.W.Frag}{tg:Expr}(a it:Addr):Turn P w K tg (Vv K a) [it] it (fun i h=>h.IsTupleIter it a i) where
 mem:=by simp
 obj:=fun i h st b hb=>by
  have e:b=it:=by simpa using hb
  subst e
  obtain⟨o,e,c,d⟩:=st
  exact⟨o,e,fun v z=>by rw[d] at z;cases z⟩
 keep:=fun i h h' st k=>st.at fun o e=>k it (by simp) o e
 item:=by
  intro X hP hw hK hc i pins s σ H E I hf st hg
  subst hP hw hK
  obtain⟨xs,x,hq,hx⟩:=hg
  obtain⟨its,rv,p,hz⟩:=I.tuple hq
  obtain⟨u,hu,ru⟩:=rv.get hx
  obtain⟨f0,f1,f2,f3,f4,f5⟩:=hf it (by simp)
  refine wpAny_pyNext_tuple_item st (show s.heap.IsTuple a its.toArray from p) (x:=u) (by simpa using hu) fun h' CU sb=>?_
  have I1:Inv X pins σ H {s with heap:=h'}:=I.turned (t':=s.toks) (fun b o hb e=>(sb.2 b hb).trans e) f0 f1 f3 f4 f5
  obtain⟨o,e,c,d⟩:=id CU
  exact⟨u,rfl,A5 (s:={s with heap:=h'}) e c d (by decide) ⟨x,H,I1,ru,⟨rfl,fun ys hy=>by rw[I.BD hy hq];exact hx⟩,CU,fun b hb=>(hf b hb).1⟩⟩
 done:=by
  intro X hP hw hK hc i pins s σ H E I hf st hg
  subst hP hw hK
  obtain⟨xs,hq,hx⟩:=hg
  obtain⟨its,rv,p,hz⟩:=I.tuple hq
  obtain⟨f0,f1,f2,f3,f4,f5⟩:=hf it (by simp)
  have hl:=rv.length
  exact wpAny_pyNext_tuple_end (I.ok.hd hc) st (show s.heap.IsTuple a its.toArray from p) (by simp;omega) fun h' eb=>⟨rfl,I.turned (t':=s.toks) (fun b o hb e=>eb b o hb e) f0 f1 f3 f4 f5⟩
 self:=fun _ _ _ _ _ st h=>wpAny_pyIter_tupleiter st h
theorem yR{P:Program}{w:World}{K:PySem.W.Frag}{tg:Expr}(it:Addr)(lo:Int)(n:Nat):Turn P w K tg (Ql lo n) [it] it (fun i h=>IsRangeIter h it (lo+(i:Nat) * 1) ((n:Int)-(i:Nat)) 1) where
 mem:=by simp
 obj:=fun i h st b hb=>by
  have e:b=it:=by simpa using hb
  subst e
  exact⟨_,st,fun v z=>by
   have z':Data.fields _=Data.cell v:=z
   cases z'⟩
 keep:=fun i h h' st k=>k it (by simp) _ st
 item:=by
  intro X hP hw hK hc i pins s σ H E I hf st hg
  subst hP hw hK
  obtain⟨f0,f1,f2,f3,f4,f5⟩:=hf it (by simp)
  have W:=Walks.range (prog:=X.prog) (w:=X.w) (I.ok.hd hc) it lo 1 n
  refine W.item i s _ _ hg st fun v h' tk hv CU kk=>?_
  obtain⟨t,rfl⟩:=hv
  have I1:Inv X pins σ H {s with heap:=h',toks:=tk}:=I.turned (fun b o hb e=>kk b o (by simpa using hb) e) f0 f1 f3 f4 f5
  refine⟨_,rfl,A5 (s:={s with heap:=h',toks:=tk}) (n := "range_iterator") CU rfl rfl (by decide) ⟨.int (lo+i),H,I1,⟨t,?_⟩,⟨rfl,rfl⟩,CU,fun b hb=>(hf b hb).1⟩⟩
  rw[Int.mul_one]
 done:=by
  intro X hP hw hK hc i pins s σ H E I hf st hg
  subst hP hw hK
  obtain⟨f0,f1,f2,f3,f4,f5⟩:=hf it (by simp)
  exact wpAny_pyNext_range_end (I.ok.hd hc) st (by have:n<=i:=hg;omega) fun h' eb=>⟨rfl,I.turned (t':=s.toks) (fun b o hb e=>eb b o hb e) f0 f1 f3 f4 f5⟩
 self:=fun _ _ _ _ _ st h=>wpAny_pyIter_rangeiter st h
end L2
namespace L2
open PySem PySem.Spec PyProof.Rows
section
variable {X:Cx}{tg:Expr}
def JL(K:PySem.W.Frag)(tl:TE):TI:=fun σ H R=>tl σ H fun x H1=>∃a,x=.ref a/\(∃xs,ju K H1 a xs)/\R (Vw K a) H1
def OR(K:PySem.W.Frag)(tl:TE):TI:=fun σ H R=>tl σ H fun x H1=>∃a,x=.ref a/\(∃xs,pA K H1 a xs)/\R (Vv K a) H1
theorem HY{l:Expr}{tl:TE}(hl:PE X l tl):PI X tg l (JL X.K tl):=by
 intro pins s σ H R I h
 refine cn (hl pins s σ H _ I h) fun v s1 ⟨x,H1,I1,r1,q1⟩=>?_
 obtain⟨a,e,⟨xs,hq⟩,q⟩:=q1
 subst e
 cases r1
 obtain⟨its,rv,p,hz⟩:=I1.list hq
 refine wpAny_pyIter_list p.isList ?_
 refine⟨s1.heap.objs.size,[s1.heap.objs.size],_,_,H1,rfl,I1.kept (t':=s1.toks) fun b o e=>Heap.get?_push_of_some _ e,BA a _,⟨_,Heap.get?_push_size _ rfl,rfl,rfl⟩,fun b hb=>?_,q⟩
 have e:b=s1.heap.objs.size:=by simpa using hb
 subst e
 exact I1.CG (Nat.le_refl _) (I1.cg.fresh (Nat.le_refl _))
theorem K'{l:Expr}{tl:TE}(hl:PE X l tl):PI X tg l (OR X.K tl):=by
 intro pins s σ H R I h
 refine cn (hl pins s σ H _ I h) fun v s1 ⟨x,H1,I1,r1,q1⟩=>?_
 obtain⟨a,e,⟨xs,hq⟩,q⟩:=q1
 subst e
 cases r1
 obtain⟨its,rv,p,hz⟩:=I1.tuple hq
 refine wpAny_pyIter_tuple (show s1.heap.IsTuple a its.toArray from p) ?_
 refine⟨s1.heap.objs.size,[s1.heap.objs.size],_,_,H1,rfl,I1.kept (t':=s1.toks) fun b o e=>Heap.get?_push_of_some _ e,yQ a _,⟨_,Heap.get?_push_size _ rfl,rfl,rfl⟩,fun b hb=>?_,q⟩
 have e:b=s1.heap.objs.size:=by simpa using hb
 subst e
 exact I1.CG (Nat.le_refl _) (I1.cg.fresh (Nat.le_refl _))
theorem Ef{pins:List (Addr×Obj)}{σ:St}{H:Hp}{s:Shared}{R:It->Hp->Prop}{E:Value->Shared->Prop}{lo hi:Int}{t u v:Tok}{tk:Nat}(I:Inv X pins σ H s)(h1:-(2 ^ 62)<=lo)(h2:lo<2 ^ 62)(h3:-(2 ^ 62)<=hi)(h4:hi<2 ^ 62)
  (q:R (Ql lo (hi-lo).toNat) H):wpAny (model X.prog X.w) X.A (pyIter (.ref s.heap.objs.size)) (Xp X pins σ tg R) E {s with heap:=s.heap.push {cls:=.type "range",data:=.fields #[.int lo t,.int hi u,.int 1 v]},toks:=tk}:=by
 refine wpAny_pyIter_range (IsRange.new ..) (small_one h1 h2 h3 h4) ?_
 have I1:Inv X pins σ H {s with heap:=s.heap.push {cls:=.type "range",data:=.fields #[.int lo t,.int hi u,.int 1 v]},toks:=tk}:=I.kept fun b o e=>Heap.get?_push_of_some _ e
 refine⟨(s.heap.push {cls:=.type "range",data:=.fields #[.int lo t,.int hi u,.int 1 v]}).objs.size,[(s.heap.push {cls:=.type "range",data:=.fields #[.int lo t,.int hi u,.int 1 v]}).objs.size],_,_,H,rfl,
  I1.kept (t':=tk) fun b o e=>Heap.get?_push_of_some _ e,yR _ lo (hi-lo).toNat,?_,fun b hb=>?_,q⟩
 ·have e1:lo+((0:Nat):Int) * 1=lo:=by simp
  have e2:(((hi-lo).toNat:Nat):Int)-((0:Nat):Int)=Builtin.Range.rangeSize lo hi 1:=by rw[rangeSize_one];split<;>omega
  show IsRangeIter _ _ (lo+((0:Nat):Int) * 1) ((((hi-lo).toNat:Nat):Int)-((0:Nat):Int)) 1
  rw[e1,e2]
  exact Heap.get?_push_size _ rfl
 ·have e:b=(s.heap.push {cls:=.type "range",data:=.fields #[.int lo t,.int hi u,.int 1 v]}).objs.size:=by simpa using hb
  subst e
  exact I1.CG (Nat.le_refl _) (I1.cg.fresh (Nat.le_refl _))
def JK(ta:TA):TI:=fun σ H R=>ta σ H fun vs H1=>∃j:Int,vs=[.int j]/\-(2 ^ 62)<=j/\j<2 ^ 62/\R (Ql 0 j.toNat) H1
def Wy(ta:TA):TI:=fun σ H R=>ta σ H fun vs H1=>∃i j:Int,vs=[.int i,.int j]/\(-(2 ^ 62)<=i/\i<2 ^ 62/\-(2 ^ 62)<=j/\j<2 ^ 62)/\R (Ql i (j-i).toNat) H1
theorem Cd{a:Expr}{ta:TA}{p pos:Pos}(hg:Gl X "range")(hm:X.mg "range" = none)(ha:PA X [a] ta)(hs:starEach [a] X.env=[(false,eval a X.env)]:=by rfl):PI X tg (.Call (.Name "range" p) [a] [] pos) (JK ta):=by
 intro pins s σ H R I h
 refine Call_ (rK I hg hm boot_range (PyProof.Rows.callWith_type1 (cn (ha pos pins s σ H _ I h) fun us s1 ⟨vs,H1,I1,r1,q1⟩=>?_) hs rfl))
 obtain⟨j,e,q1,q2,q⟩:=q1
 subst e
 cases r1 with
 |cons r rr=>
  cases rr
  obtain⟨t,rfl⟩:=r
  exact call_range_1 (Ef I1 (by omega) (by omega) q1 q2 (by simpa using q))
def Kt(wi:TI)(g:TG)(tb:TS):TS:=fun D σ H=>wi σ H fun J H1=>∃W:Nat->Nat->St->Hp->Prop,(∃m,W 0 m σ H1)/\∀i m σ H,W i m σ H ->
 (J.stop i H/\D.nx σ H)\/(J.go i H/\∃N:St->Hp->Prop,(∀bR H',N bR H'->∃m',m'<m/\W (i+1) m' bR H')/\∀x H',J.MV i H x H'->g x σ H' fun vi H2=>tb {D with nx:=N,ct:=N,bk:=D.nx} vi H2)
def rg(fp:List Addr)(h:Heap):List (Addr×Obj):=fp.filterMap fun b=>(h.get? b).map fun o=>(b,o)
theorem jU{fp:List Addr}{h:Heap}{b:Addr}{o:Obj}(hb:b∈fp)(e:h.get? b=some o):(b,o)∈rg fp h:=List.mem_filterMap.mpr ⟨b,hb,by rw[e];rfl⟩
theorem Cm{fp:List Addr}{h:Heap}{p:Addr×Obj}(hp:p∈rg fp h):p.1∈fp/\h.get? p.1=some p.2:=by
 obtain⟨b,hb,e⟩:=List.mem_filterMap.mp hp
 cases q:h.get? b with
 |none=>rw[q] at e;cases e
 |some o=>
  rw[q] at e
  have e':(b,o)=p:=Option.some.inj e
  subst e'
  exact⟨hb,q⟩
theorem Inv.pinned{pins:List (Addr×Obj)}{σ:St}{H:Hp}{s:Shared}{fp:List Addr}(I:Inv X pins σ H s)(hf:∀b∈fp,n9 X pins H b)(ho:∀b∈fp,∃o,s.heap.get? b=some o/\∀v,o.data≠.cell v):Inv X (pins++rg fp s.heap) σ H s:=
 I.vQ fun p hp=>(List.mem_append.mp hp).elim (fun z=>I.pin p (List.mem_append_right _ z)) fun z=>by
  obtain⟨hb,e⟩:=Cm z
  obtain⟨f0,f1,f2,_⟩:=hf p.1 hb
  obtain⟨o,e',d⟩:=ho p.1 hb
  rw[e] at e';cases e'
  exact⟨e,f0,f1,f2,d⟩
theorem Inv.ku{pins pl:List (Addr×Obj)}{σ:St}{H:Hp}{s:Shared}(I:Inv X (pins++pl) σ H s):Inv X pins σ H s:=I.vQ fun p hp=>I.pin p (List.mem_append_right _ (List.mem_append_left _ hp))
theorem Eu{iter:Expr}{body:List Stmt}{wi:TI}{g:TG}{tb:TS}{pos:Pos}(hp:PassesOwn (model X.prog X.w) X.A X.env X.xe)(hc:X.calm=true)(hi:PI X tg iter wi)(hg:PG X tg g)(hb:Ad X body tb)
  (hs:∀x,foldedSetIterable iter X.env x=pure x:=by intro _;rfl):PS X (.For tg iter body [] pos) (Kt wi g tb):=by
 intro pins s σ H D I h
 refine wpAny_For (cn (hi pins s σ H _ I h) fun v s1 h1=>cn h1 fun LS s2 h2=>?_) hs
 obtain⟨it,fp,tn,J,H2,e,I2,T,yD,f2,W,⟨m0,w0⟩,turn⟩:=h2
 subst e
 have yY:∀{H':Hp},(∀b∈fp,H' b=none)->∀b∈fp,n9 X pins H' b:=fun hn b hb=>⟨hn b hb,(f2 b hb).2⟩
 refine codeAny_forLoop_any (fun n s'=>∃i bR H',Inv X pins bR H' s'/\tn i s'.heap/\(∀b∈fp,H' b=none)/\W i n bR H') ?_ m0 ⟨0,σ,H2,I2,yD,fun b hb=>(f2 b hb).1,w0⟩
 rintro n s3 ⟨i,wX,H3,I3,BJ,Pz,w3⟩
 rcases turn i n wX H3 w3 with⟨stop,qn⟩|⟨go,N,hN,step⟩
 ·refine wpAny_passesOwn hp (cn (T.done X rfl rfl rfl hc i pins s3 wX H3 X.xe I3 (yY Pz) BJ stop) fun r s4 ⟨hr,I4⟩=>?_)
  subst hr
  exact wpAny_execs_nil ⟨wX,H3,I4,qn⟩
 ·refine wpAny_passesOwn hp (cn (T.item X rfl rfl rfl hc i pins s3 wX H3 X.xe I3 (yY Pz) BJ go) fun r s4 ⟨u,hr,h4⟩=>?_)
  subst hr
  refine wpAny_passesOwn hp (cn h4 fun _ s5 ⟨x,H5,I5,r5,y5,Kv,Ux⟩=>?_)
  have Vz:=I5.pinned (yY Ux) (T.obj _ _ Kv)
  refine wpAny_passesOwn hp (cn (hg _ s5 wX H5 x u _ Vz r5 (step x H5 y5)) fun _ s6 ⟨Qq,H6,I6,q6⟩=>?_)
  refine wpAny_passesOwn hp (cn (hb _ s6 Qq H6 _ I6 q6) fun f s7 q7=>?_)
  have again:∀{wW:St}{H7:Hp},Inv X (pins++rg fp s5.heap) wW H7 s7->N wW H7->∃m,m<n/\∃i bR H',Inv X pins bR H' s7/\tn i s7.heap/\(∀b∈fp,H' b=none)/\W i m bR H':=fun{wW H7} I7 n7=>by
   obtain⟨m',hm,w7⟩:=hN wW H7 n7
   refine⟨m',hm,i+1,wW,H7,I7.ku,T.keep _ _ _ Kv fun b hb o e=>(I7.pin (b,o) (List.mem_append_right _ (List.mem_append_right _ (jU hb e)))).1,fun b hb=>?_,w7⟩
   obtain⟨o,e,d⟩:=T.obj _ _ Kv b hb
   exact(I7.pin (b,o) (List.mem_append_right _ (List.mem_append_right _ (jU hb e)))).2.1
  cases f with
  |next=>obtain⟨wW,H7,I7,n7⟩:=q7;exact again I7 n7
  |cont=>obtain⟨wW,H7,I7,n7⟩:=q7;exact again I7 n7
  |brk=>obtain⟨wW,H7,I7,q7⟩:=q7;exact⟨wW,H7,I7.ku,q7⟩
  |ret v=>obtain⟨x7,wW,H7,I7,r7,q7⟩:=q7;exact⟨x7,wW,H7,I7.ku,r7,q7⟩
end
end L2
namespace L2
open PySem PySem.Spec PyProof.Rows
abbrev R2:=V->V->Hp->VK->Prop
def jv(X:Cx)(f:Value->Value->Sem Value)(r:R2):Prop:=
 ∀(pins:List (Addr×Obj)) (s:Shared) (σ:St) (H:Hp) (x y:V) (v u:Value) (Q:VK),Inv X pins σ H s->RelV x v->RelV y u->r x y H Q ->
  wpAny (model X.prog X.w) X.A (f v u) (EP X pins σ Q) X.xe s
def Vq(X:Cx)(f:Value->Sem Value)(r:V->Hp->VK->Prop):Prop:=
 ∀(pins:List (Addr×Obj)) (s:Shared) (σ:St) (H:Hp) (x:V) (v:Value) (Q:VK),Inv X pins σ H s->RelV x v->r x H Q ->
  wpAny (model X.prog X.w) X.A (f v) (EP X pins σ Q) X.xe s
def hV(X:Cx)(f:Value)(r:List V->Hp->VK->Prop):Prop:=
 ∀(pins:List (Addr×Obj)) (s:Shared) (σ:St) (H:Hp) (xs:List V) (us:List Value) (Q:VK),Inv X pins σ H s->Vals xs us->r xs H Q ->
  wpAny (model X.prog X.w) X.A (call f us) (EP X pins σ Q) X.xe s
def Vr(X:Cx)(r:V->Hp->(Bool->Hp->Prop)->Prop):Prop:=
 ∀(pins:List (Addr×Obj)) (s:Shared) (σ:St) (H:Hp) (x:V) (v:Value) (Q:Bool->Hp->Prop),Inv X pins σ H s->RelV x v->r x H Q ->
  wpAny (model X.prog X.w) X.A (truthy v) (TP X pins σ Q) X.xe s
def Hc(r:R2)(ta tb:TE):TE:=fun σ H Q=>ta σ H fun x H1=>tb σ H1 fun y H2=>r x y H2 Q
def V3(r:V->Hp->VK->Prop)(ta:TE):TE:=fun σ H Q=>ta σ H fun x H1=>r x H1 Q
def rI(C:Int->Int->Prop)(g:Int->Int->V):R2:=fun x y H Q=>∃i j,x=.int i/\y=.int j/\C i j/\Q (g i j) H
def zi(g:Int->Int->V):R2:=fun x y H Q=>∃i j,x=.int i/\y=.int j/\Q (g i j) H
def rU(g:Int->V):V->Hp->VK->Prop:=fun x H Q=>∃i,x=.int i/\Q (g i) H
section
variable {X:Cx}{a b c:Expr}{ta tb tc:TE}{pos:Pos}
theorem MI(ha:PE X a ta)(hb:PE X b tb){pins:List (Addr×Obj)}{s:Shared}{σ:St}{H:Hp}{R:V->V->Hp->Prop}(I:Inv X pins σ H s)
  (h:ta σ H fun x H1=>tb σ H1 fun y H2=>R x y H2) {Q:Value->Shared->Prop}{f:Value->Value->Sem Value}
  (hf:∀v u s2 x y H2,Inv X pins σ H2 s2->RelV x v->RelV y u->R x y H2->wpAny (model X.prog X.w) X.A (f v u) Q X.xe s2) :
  wpAny (model X.prog X.w) X.A (eval a X.env) (fun v cJ=>wpAny (model X.prog X.w) X.A (eval b X.env) (fun u ow=>wpAny (model X.prog X.w) X.A (f v u) Q X.xe ow) X.xe cJ) X.xe s:=by
 refine cn (ha pins s σ H _ I h) fun v s1 ⟨x,H1,I1,r1,q1⟩=>?_
 refine cn (hb pins s1 σ H1 _ I1 q1) fun u s2 ⟨y,H2,I2,r2,q2⟩=>?_
 exact hf v u s2 x y H2 I2 r1 r2 q2
theorem Ol{op:Operator}{r:R2}(ho:jv X (binaryOp op) r)(ha:PE X a ta)(hb:PE X b tb):PE X (.BinOp a op b pos) (Hc r ta tb):=by
 intro pins s σ H Q I h
 exact wpAny_BinOp (MI ha hb I h fun v u s2 x y H2 I2 rx ry q=>ho pins s2 σ H2 x y v u Q I2 rx ry q)
theorem Oj{op:UnaryOp}{r:V->Hp->VK->Prop}(ho:Vq X (unaryOp op) r)(ha:PE X a ta):PE X (.UnaryOp op a pos) (V3 r ta):=by
 intro pins s σ H Q I h
 exact UnaryOp_ (cn (ha pins s σ H _ I h) fun v s1 ⟨x,H1,I1,r1,q1⟩=>ho pins s1 σ H1 x v Q I1 r1 q1)
theorem Rh{f:Value->Value->Sem Value}{C:Int->Int->Prop}{g:Int->Int->Int}
  (rule:∀(i j:Int) (t u:Tok) (s:Shared) (Q:Value->Shared->Prop) (E:Value->Shared->Prop),C i j->Q (.int (g i j) s.toks) {s with toks:=s.toks+1}->wpAny (model X.prog X.w) X.A (f (.int i t) (.int j u)) Q E s) :
  jv X f (rI C fun i j=>.int (g i j)):=by
 intro pins s σ H x y v u Q I rx ry h
 obtain⟨i,j,rfl,rfl,hc,q⟩:=h
 obtain⟨t,rfl⟩:=rx
 obtain⟨t',rfl⟩:=ry
 exact rule i j t t' s _ _ hc ⟨.int (g i j),H,I.tok _,⟨_,rfl⟩,q⟩
theorem Ov{f:Value->Value->Sem Value}{g:Int->Int->Int}
  (rule:∀(i j:Int) (t u:Tok) (s:Shared) (Q:Value->Shared->Prop) (E:Value->Shared->Prop),Q (.int (g i j) s.toks) {s with toks:=s.toks+1}->wpAny (model X.prog X.w) X.A (f (.int i t) (.int j u)) Q E s) :
  jv X f (zi fun i j=>.int (g i j)):=by
 intro pins s σ H x y v u Q I rx ry h
 obtain⟨i,j,rfl,rfl,q⟩:=h
 obtain⟨t,rfl⟩:=rx
 obtain⟨t',rfl⟩:=ry
 exact rule i j t t' s _ _ ⟨.int (g i j),H,I.tok _,⟨_,rfl⟩,q⟩
theorem Io{f:Value->Value->Sem Value}{g:Int->Int->Bool}
  (rule:∀(i j:Int) (t u:Tok) (s:Shared) (Q:Value->Shared->Prop) (E:Value->Shared->Prop),Q (.bool (g i j)) s->wpAny (model X.prog X.w) X.A (f (.int i t) (.int j u)) Q E s) :
  jv X f (zi fun i j=>.bl (g i j)):=by
 intro pins s σ H x y v u Q I rx ry h
 obtain⟨i,j,rfl,rfl,q⟩:=h
 obtain⟨t,rfl⟩:=rx
 obtain⟨t',rfl⟩:=ry
 exact rule i j t t' s _ _ ⟨.bl (g i j),H,I,rfl,q⟩
def acZ(i j:Int):Prop:=0<j/\j<1073741824
def Yt(i j:Int):Prop:=j≠0/\j.natAbs<1073741824
def yB(i j:Int):Prop:=0<=j/\j<=1000000/\i.natAbs<2 ^ 64
def kr(i j:Int):Prop:=(-(2 ^ 64)<i/\i<2 ^ 64)\/(-(2 ^ 64)<j/\j<2 ^ 64)
theorem kr.ok{i j:Int}(h:kr i j):IntMulOk i j:=by
 rcases h with⟨h1,h2⟩|⟨h1,h2⟩
 ·exact .of_left (intBits_le_64 h1 h2)
 ·exact .of_right (intBits_le_64 h1 h2)
theorem gj:jv X (binaryOp .Add) (zi fun i j=>.int (i+j)):=Ov fun _ _ _ _ _ _ _ q=>add_int q
theorem zt:jv X (binaryOp .Sub) (zi fun i j=>.int (i-j)):=Ov fun _ _ _ _ _ _ _ q=>sub_int q
theorem i_:jv X (binaryOp .Mult) (rI kr fun i j=>.int (i * j)):=Rh fun _ _ _ _ _ _ _ hc q=>mul_int q hc.ok
theorem gL:jv X (binaryOp .Mod) (rI (fun _ j=>0<j) fun i j=>.int (i % j)):=Rh fun i j _ _ _ _ _ hc q=>by
 have h1:(0:Int)<j:=hc
 exact mod_int' (by omega) (by rw[Int.fmod_eq_emod_of_nonneg i (by omega)];exact q)
theorem zu:jv X (binaryOp .Pow) (rI yB fun i j=>.int (i ^ j.toNat)):=Rh fun _ _ _ _ _ _ _ hc q=>pow_int_small hc.1 hc.2.1 hc.2.2 q
theorem YE{f:Value->Sem Value}{g:Int->Int}
  (rule:∀(i:Int) (t:Tok) (s:Shared) (Q:Value->Shared->Prop) (E:Value->Shared->Prop),Q (.int (g i) s.toks) {s with toks:=s.toks+1}->wpAny (model X.prog X.w) X.A (f (.int i t)) Q E s) :
  Vq X f (rU fun i=>.int (g i)):=by
 intro pins s σ H x v Q I rx h
 obtain⟨i,rfl,q⟩:=h
 obtain⟨t,rfl⟩:=rx
 exact rule i t s _ _ ⟨.int (g i),H,I.tok _,⟨_,rfl⟩,q⟩
theorem Kk:Vq X (unaryOp .USub) (rU fun i=>.int (-i)):=YE fun _ _ _ _ _ q=>neg_int q
end
def D6:V->V->Bool
 | .bH,.bH=>true | .bH,.int _=>true | .int _,.bH=>true | .bH,.bl _=>true | .bl _,.bH=>true | .bH,.str _=>true | .str _,.bH=>true
 | .int _,.int _=>true | .bl _,.bl _=>true | .str _,.str _=>true | .wH _,.wH _=>true
 | .int _,.str _=>true | .str _,.int _=>true | .bl _,.str _=>true | .str _,.bl _=>true
 |_,_=>false
def Wi:R2:=fun x y H Q=>D6 x y=true/\Q (.bl (decide (x=y))) H
def Wh:R2:=fun x y H Q=>D6 x y=true/\Q (.bl (!decide (x=y))) H
theorem Be{i j:Int}:decide (V.int i=V.int j)=(i==j):=by
 rw[Bool.eq_iff_iff]
 simp
theorem FO{i j:Bool}:decide (V.bl i=V.bl j)=(i==j):=by
 rw[Bool.eq_iff_iff]
 simp
theorem Bd{i j:Str}:decide (V.str i=V.str j)=(i==j):=by
 rw[Bool.eq_iff_iff]
 simp
theorem Bf{i j:Array UInt8}:decide (V.wH i=V.wH j)=(i.toList==j.toList):=by
 rw[Bool.eq_iff_iff]
 cases i
 cases j
 simp
section
variable {X:Cx}{a b c:Expr}{ta tb tc:TE}{pos:Pos}
theorem bU{pins:List (Addr×Obj)}{σ:St}{H:Hp}{s:Shared}{Q:VK}{k k':Bool}(I:Inv X pins σ H s)(q:Q (.bl k) H)(e:k=k'):EP X pins σ Q (.bool k') s:=by
 subst e
 exact⟨.bl k,H,I,rfl,q⟩
theorem eV:jv X (compareOp .Eq) Wi:=by
 intro pins s σ H x y v u Q I rx ry h
 obtain⟨hs,q⟩:=h
 cases x with
 |bH=>
  cases rx
  cases y with
  |bH=>cases ry;exact PySem.EqNone.eq_none_none (bU I q (by simp))
  |bl j=>cases ry;exact PySem.EqNone.eq_none_bool (bU I q (by simp))
  |int j=>obtain⟨t',rfl⟩:=ry;exact PySem.EqNone.eq_none_int (bU I q (by simp))
  |str j=>obtain⟨t',rfl⟩:=ry;exact PySem.EqNone.eq_none_str (bU I q (by simp))
  |_=>exact absurd (show false=true from hs) Bool.false_ne_true
 |bl i=>
  cases rx
  cases y with
  |bH=>cases ry;exact PySem.EqNone.eq_bool_none (bU I q (by simp))
  |bl j=>cases ry;exact eq_bool (bU I q FO)
  |str j=>obtain⟨t',rfl⟩:=ry;exact PySem.EqMixed.eq_bool_str (bU I q (by simp))
  |_=>exact absurd (show false=true from hs) Bool.false_ne_true
 |int i=>
  obtain⟨t,rfl⟩:=rx
  cases y with
  |bH=>cases ry;exact PySem.EqNone.eq_int_none (bU I q (by simp))
  |int j=>obtain⟨t',rfl⟩:=ry;exact eq_int (bU I q Be)
  |str j=>obtain⟨t',rfl⟩:=ry;exact PySem.EqMixed.eq_int_str (bU I q (by simp))
  |_=>exact absurd (show false=true from hs) Bool.false_ne_true
 |str i=>
  obtain⟨t,rfl⟩:=rx
  cases y with
  |bH=>cases ry;exact PySem.EqNone.eq_str_none (bU I q (by simp))
  |bl j=>cases ry;exact PySem.EqMixed.eq_str_bool (bU I q (by simp))
  |int j=>obtain⟨t',rfl⟩:=ry;exact PySem.EqMixed.eq_str_int (bU I q (by simp))
  |str j=>obtain⟨t',rfl⟩:=ry;exact eq_str (bU I q Bd)
  |_=>exact absurd (show false=true from hs) Bool.false_ne_true
 |wH i=>
  obtain⟨t,rfl⟩:=rx
  cases y with
  |wH j=>obtain⟨t',rfl⟩:=ry;exact PySem.W.eq_bytes (bU I q Bf)
  |_=>exact absurd (show false=true from hs) Bool.false_ne_true
 |_=>cases y<;>exact absurd (show false=true from hs) Bool.false_ne_true
theorem AM:jv X (compareOp .NotEq) Wh:=by
 intro pins s σ H x y v u Q I rx ry h
 obtain⟨hs,q⟩:=h
 cases x with
 |bH=>
  cases rx
  cases y with
  |bH=>cases ry;exact PySem.EqNone.ne_none_none (bU I q (by simp))
  |bl j=>cases ry;exact PySem.EqNone.ne_none_bool (bU I q (by simp))
  |int j=>obtain⟨t',rfl⟩:=ry;exact PySem.EqNone.ne_none_int (bU I q (by simp))
  |str j=>obtain⟨t',rfl⟩:=ry;exact PySem.EqNone.ne_none_str (bU I q (by simp))
  |_=>exact absurd (show false=true from hs) Bool.false_ne_true
 |bl i=>
  cases rx
  cases y with
  |bH=>cases ry;exact PySem.EqNone.ne_bool_none (bU I q (by simp))
  |bl j=>cases ry;exact ne_bool (bU I q (congrArg not FO))
  |str j=>obtain⟨t',rfl⟩:=ry;exact PySem.EqMixed.ne_bool_str (bU I q (by simp))
  |_=>exact absurd (show false=true from hs) Bool.false_ne_true
 |int i=>
  obtain⟨t,rfl⟩:=rx
  cases y with
  |bH=>cases ry;exact PySem.EqNone.ne_int_none (bU I q (by simp))
  |int j=>obtain⟨t',rfl⟩:=ry;exact ne_int (bU I q (congrArg not Be))
  |str j=>obtain⟨t',rfl⟩:=ry;exact PySem.EqMixed.ne_int_str (bU I q (by simp))
  |_=>exact absurd (show false=true from hs) Bool.false_ne_true
 |str i=>
  obtain⟨t,rfl⟩:=rx
  cases y with
  |bH=>cases ry;exact PySem.EqNone.ne_str_none (bU I q (by simp))
  |bl j=>cases ry;exact PySem.EqMixed.ne_str_bool (bU I q (by simp))
  |int j=>obtain⟨t',rfl⟩:=ry;exact PySem.EqMixed.ne_str_int (bU I q (by simp))
  |str j=>obtain⟨t',rfl⟩:=ry;exact ne_str (bU I q (congrArg not Bd))
  |_=>exact absurd (show false=true from hs) Bool.false_ne_true
 |wH i=>
  obtain⟨t,rfl⟩:=rx
  cases y with
  |wH j=>obtain⟨t',rfl⟩:=ry;exact PySem.W.ne_bytes (bU I q (congrArg not Bf))
  |_=>exact absurd (show false=true from hs) Bool.false_ne_true
 |_=>cases y<;>exact absurd (show false=true from hs) Bool.false_ne_true
theorem xG:jv X (compareOp .Lt) (zi fun i j=>.bl (decide (i<j))):=Io fun _ _ _ _ _ _ _ q=>lt_int q
theorem Ot:jv X (compareOp .LtE) (zi fun i j=>.bl (decide (i<=j))):=Io fun _ _ _ _ _ _ _ q=>le_int q
theorem JF:jv X (compareOp .Gt) (zi fun i j=>.bl (decide (j<i))):=Io fun _ _ _ _ _ _ _ q=>gt_int q
theorem Ou:jv X (compareOp .GtE) (zi fun i j=>.bl (decide (j<=i))):=Io fun _ _ _ _ _ _ _ q=>ge_int q
def isObj:HO->Bool
 | .lst _=>true
 | .ins _ _ _=>true
 |_=>false
theorem jv.or{f:Value->Value->Sem Value}{r r':R2}(h:jv X f r)(h':jv X f r'):jv X f (fun x y H Q=>r x y H Q\/r' x y H Q):=by
 intro pins s σ H x y v u Q I rx ry q
 rcases q with q|q
 ·exact h pins s σ H x y v u Q I rx ry q
 ·exact h' pins s σ H x y v u Q I rx ry q
theorem bo(b:Expr){op:CmpOp}(h:op≠.In:=by decide)(h2:op≠.NotIn:=by decide):behindInMarks op b=false:=by
 have e1:(op==CmpOp.In)=false:=by cases op<;>first|rfl|exact absurd rfl h
 have e2:(op==CmpOp.NotIn)=false:=by cases op<;>first|rfl|exact absurd rfl h2
 cases b<;>simp[behindInMarks,e1,e2]
theorem Ih{op:CmpOp}{r:R2}(ho:jv X (compareOp op) r)(ha:PE X a ta)(hb:PE X b tb)(hm:behindInMarks op b=false):PE X (.Compare a [op] [b] pos) (Hc r ta tb):=by
 intro pins s σ H Q I h
 exact wpAny_Compare1 (MI ha hb I h fun v u s2 x y H2 I2 rx ry q=>ho pins s2 σ H2 x y v u Q I2 rx ry q) hm
def Du(t:TE):TT:=fun σ H Q=>t σ H fun x H'=>∃k,x=.bl k/\Q k H'
theorem HQ{op:CmpOp}{r:R2}(ho:jv X (compareOp op) r)(ha:PE X a ta)(hb:PE X b tb)(hm:behindInMarks op b=false):PT X (.Compare a [op] [b] pos) (Du (Hc r ta tb)):=by
 intro pins s σ H Q I h
 refine wpAny_isTrue_Compare1 (cn (ha pins s σ H _ I h) fun v s1 ⟨x,H1,I1,r1,q1⟩=>cn (hb pins s1 σ H1 _ I1 q1) fun u s2 ⟨y,H2,I2,r2,q2⟩=>
  cn (ho pins s2 σ H2 x y v u _ I2 r1 r2 q2) fun c s3 ⟨z,H3,I3,r3,k,e,q3⟩=>?_) hm
 subst e
 cases r3
 exact wpAny_truthy_bool ⟨H3,I3,q3⟩
def DB(r r':R2)(ta tb tc:TE):TE:=fun σ H Q=>ta σ H fun x H1=>tb σ H1 fun y H2=>r x y H2 fun z H3=>∃k,z=.bl k /\
 (if k=true then tc σ H3 fun w' H4=>r' y w' H4 Q else Q (.bl false) H3)
theorem Em{op Lv:CmpOp}{r r':R2}(ho:jv X (compareOp op) r)(gH:jv X (compareOp Lv) r')(ha:PE X a ta)(hb:PE X b tb)(hc:PE X c tc)
  (hm:lastMarks [op,Lv] [b,c]=false:=by with_unfolding_all rfl):PT X (.Compare a [op,Lv] [b,c] pos) (Du (DB r r' ta tb tc)):=by
 intro pins s σ H Q I h
 refine isTrue_chain (cn (ha pins s σ H _ I h) fun v s1 ⟨x,H1,I1,r1,q1⟩=>test_link (cn (hb pins s1 σ H1 _ I1 q1) fun u s2 ⟨y,H2,I2,r2,q2⟩=>
  cn (ho pins s2 σ H2 x y v u _ I2 r1 r2 q2) fun d s3 ⟨z,H3,I3,r3,k,e,q3⟩=>?_)) hm
 subst e
 cases r3
 refine wpAny_truthy_bool ?_
 cases k with
 |false=>
  obtain⟨k',e',q'⟩:=q3
  cases e'
  exact ite_ff ⟨H3,I3,q'⟩
 |true=>
  refine ite_tt (test_last (cn (hc pins s3 σ H3 _ I3 q3) fun w' s4 ⟨z',H4,I4,r4,q4⟩=>cn (gH pins s4 σ H4 y z' u w' _ I4 r2 r4 q4) fun d' s5 ⟨z2,H5,I5,r5,k2,e2,q5⟩=>?_))
  subst e2
  cases r5
  exact wpAny_truthy_bool ⟨H5,I5,q5⟩
def ML(K:PySem.W.Frag)(x:V)(H:Hp)(k:Bool):Prop:=
 match x with
 | .bH=>k=false
 | .bl b=>k=b
 | .int i=>k=(i != 0)
 | .str y=>y.length<=sizeLine/\k=((y.length:Int) != 0)
 | .wH y=>y.size<=sizeLine/\k=((y.size:Int) != 0)
 | .ref p=>(∃xs,ju K H p xs/\k = !xs.isEmpty)\/(∃xs,pA K H p xs/\k = !xs.isEmpty)\/∃av,H p=some (.dK av)/\k = !av.isEmpty
 |_=>False
theorem zF{κ:Type}{av:List (κ×V)}{vs:List (κ×Value)}(r:KV av vs):(!vs.isEmpty) = !av.isEmpty:=by
 cases r<;>rfl
theorem rO{xs:List V}{its:List Value}(r:Vals xs its):(!its.toArray.isEmpty) = !xs.isEmpty:=by
 cases r<;>simp
theorem oV:(sizeLine:Nat)<2 ^ 63:=by rw[sizeLine_eq];decide
theorem Kl:Vr X (fun x H Q=>∃k,ML X.K x H k/\Q k H):=by
 intro pins s σ H x v Q I rx h
 obtain⟨k,e,q⟩:=h
 have hl:=oV
 have hs:sizeLine=16777216:=sizeLine_eq
 cases x with
 |bH=>
  cases rx
  have e':k=false:=e
  subst e'
  exact truthy_none ⟨H,I,q⟩
 |bl b=>
  cases rx
  have e':k=b:=e
  subst e'
  exact wpAny_truthy_bool ⟨H,I,q⟩
 |int i=>
  obtain⟨t,rfl⟩:=rx
  have e':k=(i != 0):=e
  subst e'
  exact PySem.P.truthy_int ⟨H,I,q⟩
 |str y=>
  obtain⟨t,rfl⟩:=rx
  obtain⟨hy,e'⟩:y.length<=sizeLine/\k=((y.length:Int) != 0):=e
  subst e'
  exact PySem.P.truthy_str (by omega) ⟨H,I.tok _,q⟩
 |wH y=>
  obtain⟨t,rfl⟩:=rx
  obtain⟨hy,e'⟩:y.size<=sizeLine/\k=((y.size:Int) != 0):=e
  subst e'
  exact PySem.W.truthy_bytes (by omega) ⟨H,I.tok _,q⟩
 |ref p=>
  cases rx
  have e':(∃xs,ju X.K H p xs/\k = !xs.isEmpty)\/(∃xs,pA X.K H p xs/\k = !xs.isEmpty)\/∃av,H p=some (.dK av)/\k = !av.isEmpty:=e
  rcases e' with⟨xs,hx,e'⟩|⟨xs,hx,e'⟩|⟨av,hx,e'⟩
  ·subst e'
   obtain⟨its,r,pl,hz⟩:=I.list hx
   have hlen:=r.length
   exact wpAny_truthy_list pl.isList (by simp only[List.size_toArray];omega) ⟨H,I.tok _,by rw[rO r];exact q⟩
  ·subst e'
   obtain⟨its,r,pl,hz⟩:=I.tuple hx
   have hlen:=r.length
   exact truthy_tuple pl (by simp only[List.size_toArray];omega) ⟨H,I.tok _,by rw[rO r];exact q⟩
  ·subst e'
   obtain⟨hz,hS,vs,r,m⟩:av.length<=sizeLine/\(p==sysModules)=false/\∃vs,KV av vs/\s.heap.DictOf (br X.prog X.w) p vs:=I.cg p _ hx
   have hlen:av.length=vs.length:=Paired.length r
   exact wpAny_truthy_dict hS m (by omega) ⟨H,I.tok _,by rw[zF r];exact q⟩
 |_=>exact(show False from e).elim
theorem El(ha:PE X a ta)(he:∀whole,isTrue a X.env whole=(do let v <-whole;standAt a.pos;holding [v] (truthy v))) :
  PT X a (fun σ H Q=>ta σ H fun x H'=>∃k,ML X.K x H' k/\Q k H'):=by
 intro pins s σ H Q I h
 exact isTrue_plain (cn (ha pins s σ H _ I h) fun v s1 ⟨x,H1,I1,r1,q1⟩=>Kl pins s1 σ H1 x v Q I1 r1 q1) (he _)
theorem mq:jv X (binaryOp .Add) (fun x y H Q=>∃i j,x=.str i/\y=.str j/\i.length+j.length<=sizeLine/\Q (.str (i++j)) H):=by
 intro pins s σ H x y v u Q I rx ry h
 obtain⟨i,j,rfl,rfl,hz,q⟩:=h
 obtain⟨t,rfl⟩:=rx
 obtain⟨t',rfl⟩:=ry
 exact add_str (fun t' tk=>⟨.str (i++j),H,I.tok _,⟨_,rfl⟩,q⟩) hz
def Qe(b:Expr):Prop:=∀o i,subscripted b false o i=operate [o,i] (getItem o i)
theorem vals1{x:V}{us:List Value}(r:Vals [x] us):∃u,us=[u]/\RelV x u:=by
 cases r with
 |cons r1 r2=>cases r2;exact⟨_,rfl,r1⟩
def acT(K:PySem.W.Frag)(x:V)(H:Hp)(n:Nat):Prop:=
 match x with
 | .str y=>y.length<=sizeLine/\n=y.length
 | .wH y=>y.size<=sizeLine/\n=y.size
 | .ref p=>(∃xs,ju K H p xs/\n=xs.length)\/∃xs,pA K H p xs/\n=xs.length
 |_=>False
end
end L2
namespace L2
open PySem PySem.Spec PyProof.Rows
structure Qi(h:Heap)(x dx C:Addr)(mA:Str->Option Value):Prop where
 obj:h.get? x=some (PySem.W.instObj C dx)
 ns:h.Ns1 dx mA
 ne:dx≠x
theorem Cp{h:Heap}{dx:Addr}{mA:Str->Option Value}(n:h.Ns1 dx mA):∃od,h.get? dx=some od/\∀name,PySem.W.lookIn name od=some (mA name):=by
 obtain⟨o,es,ep,ho,hd,hk,_,hm⟩:=n
 refine⟨o,ho,fun name=>?_⟩
 have e:=hm name
 unfold nsFind findBy at e
 rw[<-Array.find?_toList] at e
 unfold PySem.W.lookIn
 rw[hd]
 dsimp only
 split
 ·rename_i y q
  rw[q] at e
  exact congrArg some e
 ·rename_i q
  rw[q] at e
  have a:es.toList.any (·.refKey)=false:=by
   rw[List.any_eq_false]
   intro y hy
   obtain⟨z,t,CB⟩:=hk y (Array.mem_toList_iff.mp hy)
   simp[DictEntry.refKey,CB]
  have a':¬es.toList.any (·.refKey)=true:=by rw[a];exact Bool.false_ne_true
  rw[if_neg a']
  exact congrArg some e
theorem Qi.look{h:Heap}{x dx C:Addr}{mA:Str->Option Value}(I:Qi h x dx C mA):∃od,PySem.W.InstAt h x (PySem.W.instObj C dx) C (some od)/\∀name,PySem.W.lookIn name od=some (mA name):=
 let ⟨od,ho,hl⟩:=Cp I.ns
 ⟨od,⟨I.obj,rfl,rfl,ho⟩,hl⟩
section
variable {prog:Program}{w:World}{A:Around}{E:Value->Shared->Prop}{s:Shared}{K:PySem.W.Frag}{x dx C f:Addr}{mA:Str->Option Value}{name:Str}{v:Value}
end
def K3(f:Str)(v:V):List (Str×V)->List (Str×V)
 | []=>[(f,v)]
 |(g,x)::r=>if g=f then(g,v)::r else(g,x)::K3 f v r
theorem lQ.some_of{v:V}{o:Option Value}(r:lQ (some v) o):∃u,o=some u/\RelV v u:=by
 cases o with
 |none=>exact(show False from r).elim
 |some u=>exact⟨u,rfl,r⟩
theorem lQ.none_of{o:Option Value}(r:lQ none o):o=none:=by
 cases o with
 |none=>rfl
 |some u=>exact(show False from r).elim
section
variable {P:Program}{w:World}{H H':Hp}{h h':Heap}{a C dx:Addr}{fs Mo:List (Str×V)}
end
structure MQ(K:PySem.W.Frag)(C:Addr):Prop where
 pg:PySem.W.plainGet K C Str.empty=true
 hd:PySem.W.hasDictIn K C=true
 po:PySem.W.plainOver K C=true
 sa:PySem.W.findIn K (.ref C) "__setattr__" = some (some (.builtin "object.__setattr__"))
theorem MQ.get{K:PySem.W.Frag}{C:Addr}(c:MQ K C)(f:Str):PySem.W.plainGet K C f=true:=c.pg
def Ae(K:PySem.W.Frag)(C:Addr)(f:Str):Prop:=PySem.W.findIn K (.ref C) f=some none
structure Con(K:PySem.W.Frag)(C:Addr)(f:Str)(v:V)(u:Value):Prop where
 at_:PySem.W.findIn K (.ref C) f=some (some u)
 rel:RelV v u
 get:PySem.W.specialIn K u "__get__" = some none
 cp:PySem.W.copiedNames.contains f=false
structure Meth(K:PySem.W.Frag)(C:Addr)(m:Str)(f:Addr):Prop where
 at_:PySem.W.findIn K (.ref C) m=some (some (.ref f))
 fn:PySem.W.isFn K (.ref f)=true
 kp:PySem.W.keepIn K (.ref f)=true
section
variable {X:Cx}{pins:List (Addr×Obj)}{σ:St}{H:Hp}{s:Shared}{a C dx:Addr}{fs:List (Str×V)}{f:Str}{v:V}{A:Around}{E:Value->Shared->Prop}
theorem Inv.made(I:Inv X pins σ H s):Inv X pins σ (upd (upd H s.heap.objs.size (.own (s.heap.objs.size+1))) (s.heap.objs.size+1) (.ins C s.heap.objs.size []))
  {s with heap:=(s.heap.push PySem.W.emptyDict).push (PySem.W.instObj C s.heap.objs.size)}:=by
 have e1:(s.heap.push PySem.W.emptyDict).get? s.heap.objs.size=some PySem.W.emptyDict:=Heap.get?_push_size s.heap rfl
 have e2:((s.heap.push PySem.W.emptyDict).push (PySem.W.instObj C s.heap.objs.size)).get? (s.heap.objs.size+1)=some (PySem.W.instObj C s.heap.objs.size):=by
  have:=Heap.get?_push_size (s.heap.push PySem.W.emptyDict) (o:=PySem.W.instObj C s.heap.objs.size) rfl
  rwa [Heap.size_push] at this
 have e3:(s.heap.push PySem.W.emptyDict).Ns s.heap.objs.size (fun _=>none):=⟨PySem.W.emptyDict,#[],_,e1,rfl,(fun e he=>absurd he (by simp)),fun _=>rfl⟩
 have I1:=I.laid (a:=s.heap.objs.size) (o:=.own (s.heap.objs.size+1)) (h':=s.heap.push PySem.W.emptyDict) (t':=s.toks) (fun b u q=>Heap.get?_push_of_some _ q) (Nat.le_refl _) ⟨_,e1⟩
 refine I1.laid (a:=s.heap.objs.size+1) (o:=.ins C s.heap.objs.size []) (t':=s.toks) (fun b u q=>Heap.get?_push_of_some _ q) (Nat.le_of_eq (Heap.size_push _ _)) ?_
 have ne:s.heap.objs.size≠s.heap.objs.size+1:=Nat.ne_of_lt (Nat.lt_succ_self _)
 refine⟨by rw[aE ne,aB],Nat.zero_le _,ne,e2,fun _=>none,(Heap.Ns1.of_empty e3).at fun o q=>Heap.get?_push_of_some _ q,fun _=>True.intro,fun y hy=>absurd rfl hy⟩
end
def YR(K:PySem.W.Frag)(ta:TE)(f:Str):TE:=fun σ H Q=>ta σ H fun x H1=>∃a C dx fs v,x=.ref a/\H1 a=some (.ins C dx fs)/\MQ K C/\Ae K C f/\fs.lookup f=some v/\Q v H1
def YT(K:PySem.W.Frag)(ta:TE)(f:Str):TE:=fun σ H Q=>ta σ H fun x H1=>∃a C dx fs v u,x=.ref a/\H1 a=some (.ins C dx fs)/\MQ K C/\Con K C f v u/\fs.lookup f=none/\Q v H1
def YX(K:PySem.W.Frag)(ta tv:TE)(f:Str):TS:=fun D σ H=>tv σ H fun y H1=>ta σ H1 fun x H2=>∃a C dx fs,x=.ref a/\H2 a=some (.ins C dx fs)/\MQ K C/\Ae K C f/\fs.length<1000 /\
 D.nx σ (upd H2 a (.ins C dx (K3 f y fs)))
def acV(X:Cx)(op:Operator)(rd:V->V->Hp->VK->Prop):Prop:=
 ∀(pins:List (Addr×Obj)) (s:Shared) (σ:St) (H:Hp) (x y:V) (u v:Value) (Q:VK),Inv X pins σ H s->RelV x u->RelV y v->rd x y H Q->wpAny (model X.prog X.w) X.A (inplaceOp op u v) (EP X pins σ Q) X.xe s
def Ra(K:PySem.W.Frag)(ta tv:TE)(rd:V->V->Hp->VK->Prop)(f:Str):TS:=fun D σ H=>ta σ H fun x H1=>∃a C dx fs v,x=.ref a/\H1 a=some (.ins C dx fs)/\MQ K C/\Ae K C f/\fs.lookup f=some v /\
 tv σ H1 fun y H2=>rd v y H2 fun z H3=>∃Xm Mo,H3 a=some (.ins C Xm Mo)/\Mo.length<1000/\D.nx σ (upd H3 a (.ins C Xm (K3 f z Mo)))
section
variable {X:Cx}{o e value:Expr}{f:Str}{pos pos' yS:Pos}{ta tv:TE}
def Y1:V->V->Hp->VK->Prop:=fun x y H Q=>∃i j,x=.int i/\y=.int j/\Q (.int (i+j)) H
def YY:V->V->Hp->VK->Prop:=fun x y H Q=>∃i j,x=.int i/\y=.int j/\Q (.int (i-j)) H
end
section
variable {X:Cx}{pins:List (Addr×Obj)}{σ:St}{H:Hp}{s:Shared}{A:Around}{E:Value->Shared->Prop}{Q:Value->Shared->Prop}{c:Value}{b:Bool}
inductive sJ (K:PySem.W.Frag) (H:Hp):V->Value->Prop where
 |bH:sJ K H .bH (.type "NoneType")
 |bl (x:Bool):sJ K H (.bl x) (.type "bool")
 |int (i:Int):sJ K H (.int i) (.type "int")
 |str (x:Str):sJ K H (.str x) (.type "str")
 |Gp (x:UInt64):sJ K H (.Gp x) (.type "float")
 |lst {a:Addr}{xs:List V} (e:H a=some (.lst xs)):sJ K H (.ref a) (.type "list")
 |aU {a:Addr}{o:Obj}{xs:List V} (e:H a=some (.aU o (.lst xs))):sJ K H (.ref a) (.type "list")
 |tup {a:Addr}{xs:List V} (e:H a=some (.tup xs)):sJ K H (.ref a) (.type "tuple")
 |dK {a:Addr}{av:List (Key×V)} (e:H a=some (.dK av)):sJ K H (.ref a) (.type "dict")
 |dT {a:Addr}{av:List (List Key×V)} (e:H a=some (.dT av)):sJ K H (.ref a) (.type "dict")
 |ins {a C dx:Addr}{fs:List (Str×V)} (e:H a=some (.ins C dx fs)) (cl:MQ K C) (ha:PySem.W.findIn K (.ref C) "__class__" = some (some (.builtin "object.__class__")))
   (hn:PySem.W.specialIn K (.builtin "object.__class__") "__get__" = some (some (.builtin "getset_descriptor.__get__"))) (htk:PySem.W.takesIn K (.builtin "object.__class__")=some true)
   (hm:PySem.W.mroIn K C (.type "object")=some true):sJ K H (.ref a) (.ref C)
end
end L2
namespace L2
open PySem PySem.Spec PyProof.Rows
structure dS(k:Nat)(A:Around):Prop where
 hd:A.handled=none
 dp:A.depth+3 * k+5<recursionLimit
 un:A.units+16 * k+200<cLine
theorem dS.mono{j k:Nat}{A:Around}(r:dS k A)(h:j<=k):dS j A:=⟨r.hd,by have:=r.dp;omega,by have:=r.un;omega⟩
theorem dS.deeper{k:Nat}{A:Around}(r:dS (k+1) A)(env:Env):dS k (A.deeper env):=
 ⟨r.hd,by have:=r.dp;show A.depth+1+3 * k+5<_;omega,by have:=r.un;show A.units+3+16 * k+200<_;omega⟩
theorem dS.in1{k:Nat}{A:Around}(r:dS (k+1) A):dS k A.in1:=
 ⟨r.hd,by have:=r.dp;show A.depth+3 * k+5<_;omega,by have:=r.un;show A.units+1+16 * k+200<_;omega⟩
theorem zA{A:Around}{C:Addr}{us:List Value}{kw:List (Str×Value)}:(A.under (.builtin "type.__call__" ⟨.ref C::us,kw⟩)).depth=A.depth+1:=by
 first|rfl|simp[Around.under,Code.weight,Code.isCreation,Code.isGuard,Code.isCaller,Code.frames,Code.isFrame,guardIds]
theorem zz{A:Around}{C:Addr}{us:List Value}{kw:List (Str×Value)}:(A.under (.builtin "type.__call__" ⟨.ref C::us,kw⟩)).units=A.units+1:=by
 first|rfl|simp[Around.under,Code.cUnits,Code.frames,Code.isFrame]
theorem dS.make{k:Nat}{A:Around}(r:dS (k+1) A)(C:Addr)(us:List Value)(kw:List (Str×Value)):dS k (A.under (.builtin "type.__call__" ⟨.ref C::us,kw⟩)):=
 ⟨r.hd,by have:=r.dp;rw[zA];omega,by have:=r.un;rw[zz];omega⟩
theorem dS.depth{k:Nat}{A:Around}(r:dS k A):A.depth<recursionLimit:=by have:=r.dp;omega
theorem dS.units{k:Nat}{A:Around}(r:dS k A):A.units+64<cLine:=by have:=r.un;omega
def xf:TA:=fun _ H Q=>Q [] H
def lT(ta:TE)(tr:TA):TA:=fun σ H Q=>ta σ H fun x H1=>tr σ H1 fun xs H2=>Q (x::xs) H2
section
variable {X:Cx}{e:Expr}{es:List Expr}{te:TE}{t:TA}{pos:Pos}
theorem mn:PA X [] xf:=fun _ _ _ _ H Q I h=>Calls.spliced_nil ⟨[],H,I,.nil,h⟩
theorem Il(ha:PE X e te)(hr:PA X es t)(hs:starEach (e::es) X.env=(false,eval e X.env)::starEach es X.env:=by rfl):PA X (e::es) (lT te t):=by
 intro pos pins s σ H Q I h
 rw[hs]
 show wpAny _ _ (spliced ((false,eval e X.env)::backTo pos (starEach es X.env))) _ _ s
 refine Calls.spliced_cons (cn (ha pins s σ H _ I h) fun u s1 ⟨x,H1,I1,r1,q1⟩=>?_)
 exact cn (hr pos pins s1 σ H1 _ I1 q1) fun us s2 ⟨xs,H2,I2,r2,q2⟩=>⟨x::xs,H2,I2,.cons r1 r2,q2⟩
def YJ(t:TA):TE:=fun σ H Q=>t σ H fun xs H1=>xs.length<=sizeLine/\∀p,H1 p=none->Q (.ref p) (upd H1 p (.tup xs))
def YO(t:TA):TE:=fun σ H Q=>t σ H fun xs H1=>xs.length<=sizeLine/\∀p,H1 p=none->Q (.ref p) (upd H1 p (.lst xs))
end
abbrev Sp:=List V->Hp->VK->XK->Prop
abbrev CT:=List Env->Hp->Shared->XK->Value->Shared->Prop
structure tZ(P:Program)(w:World)(K:PySem.W.Frag)(mg:Str->Option Value)(base:Heap)(A:Around)(outer:List Env)(s:Shared)(H:Hp):Prop where
 frames:A.frames=some outer
 mod:Mod K mg base
 bs:∀b o,base.get? b=some o->s.heap.get? b=some o/\H b=none
 FU:base.objs.size<=s.heap.objs.size
 pd:s.heap.FunFrames base outer
 JU:∀b∈FA outer,H b=none
 cg:l4 P w H s.heap
 bare:AllBare s.gens
def CE(outer:List Env)(P:Program)(w:World)(H:Hp)(s:Shared)(Q:VK)(u:Value)(s':Shared):Prop:=
 ∃v H',s'.os=s.os/\AllBare s'.gens/\Un (FA outer) [] H H' s.heap s'.heap/\l4 P w H' s'.heap/\RelV v u/\Q v H'
def CR(CX:CT)(outer:List Env)(P:Program)(w:World)(H:Hp)(s:Shared)(Q:VK)(E:XK)(r:Result)(s':Shared):Prop:=
 match r with
 | .ok (.ret u)=>CE outer P w H s Q u s'
 | .ok _=>False
 | .error e=>CX outer H s E e s'
structure cA(P:Program)(w:World)(K:PySem.W.Frag)(mg:Str->Option Value)(base:Heap)(CX:CT)(k:Nat)(f:Addr)(fd:FuncData)(ps:List Str)(sp:Sp):Prop where
 len:∀vs H Q E,sp vs H Q E->vs.length=ps.length
 run:∀(A:Around) (outer:List Env) (s:Shared) (H:Hp) (args:Args) (us:List Value) (vs:List V) (Q:VK) (E:XK),dS k A->tZ P w K mg base A outer s H->BindsTo s fd args (ps.zip us)->Vals vs us->sp vs H Q E ->
  codeAny (model P w) A (.call (.ref f) args) (CR CX outer P w H s Q E) s
theorem cA.mono{P:Program}{w:World}{K:PySem.W.Frag}{mg:Str->Option Value}{base:Heap}{CX:CT}{j k:Nat}{f:Addr}{fd:FuncData}{ps:List Str}{sp:Sp}(F:cA P w K mg base CX j f fd ps sp)(h:j<=k) :
  cA P w K mg base CX k f fd ps sp:=⟨F.len,fun A outer s H args us vs Q E hr=>F.run A outer s H args us vs Q E (hr.mono h)⟩
theorem cA.imp{P:Program}{w:World}{K:PySem.W.Frag}{mg:Str->Option Value}{base:Heap}{CX:CT}{k:Nat}{f:Addr}{fd:FuncData}{ps:List Str}{sp Wc:Sp}(F:cA P w K mg base CX k f fd ps sp)
  (h:∀vs H Q E,Wc vs H Q E->sp vs H Q E):cA P w K mg base CX k f fd ps Wc:=
 ⟨fun vs H Q E q=>F.len vs H Q E (h _ _ _ _ q),fun A outer s H args us vs Q E hr he hb hv hs=>F.run A outer s H args us vs Q E hr he hb hv (h _ _ _ _ hs)⟩
theorem tZ.make{P:Program}{w:World}{K:PySem.W.Frag}{mg:Str->Option Value}{base:Heap}{A:Around}{outer:List Env}{s:Shared}{H:Hp}(e:tZ P w K mg base A outer s H)(C:Addr)(us:List Value)(kw:List (Str×Value)) :
  tZ P w K mg base (A.under (.builtin "type.__call__" ⟨.ref C::us,kw⟩)) outer s H:=⟨by first|exact e.frames|(simpa[Around.under,Code.envs,Code.isFrame,pushEnvs] using e.frames),e.mod,e.bs,e.FU,e.pd,e.JU,e.cg,e.bare⟩
theorem tZ.in1{P:Program}{w:World}{K:PySem.W.Frag}{mg:Str->Option Value}{base:Heap}{A:Around}{outer:List Env}{s:Shared}{H:Hp}(e:tZ P w K mg base A outer s H) :
  tZ P w K mg base A.in1 outer s H:=⟨e.frames,e.mod,e.bs,e.FU,e.pd,e.JU,e.cg,e.bare⟩
section
variable {X:Cx}{pins:List (Addr×Obj)}{σ:St}{H:Hp}{s s':Shared}
theorem Inv.UH(I:Inv X pins σ H s):tZ X.prog X.w X.K X.mg X.base X.A X.stack s H:=
 ⟨I.ok.frames,I.ok.mod,I.bs,Nat.le_trans I.ok.FU I.sz,I.stack,I.Aw,I.cg,I.bare⟩
theorem Inv.after{Q:VK}{u:Value}(I:Inv X pins σ H s)(h:CE X.stack X.prog X.w H s Q u s'):EP X pins σ Q u s':=by
 obtain⟨v,H',os,bare,un,cg,r,q⟩:=h
 obtain⟨hh,g,d,t,SV⟩:=s'
 obtain rfl:SV=s.os:=os
 exact⟨v,H',I.call (h':=hh) (g':=g) (d':=d) (t':=t) (ch:=[]) un cg bare (fun b z=>absurd z (by simp)),r,q⟩
end
def uf(sp:Sp)(CZ:List V)(E:XK)(t:TA):TE:=fun σ H Q=>t σ H fun vs H1=>sp (vs++CZ) H1 Q E
def V7(C:Addr)(m:Str)(sp:Sp)(CZ:List V)(E:XK)(ta:TE)(t:TA):TE:=fun σ H Q=>ta σ H fun x H1=>∃a dx fs,x=.ref a/\H1 a=some (.ins C dx fs)/\fs.lookup m=none /\
 t σ H1 fun vs H2=>sp (x::(vs++CZ)) H2 Q E
def V8(C:Addr)(sp:Sp)(CZ:List V)(E:XK)(t:TA):TE:=fun σ H Q=>t σ H fun vs H1=>∀x dx,H1 x=none->H1 dx=none->dx≠x ->
 sp (.ref x::(vs++CZ)) (upd (upd H1 dx (.own x)) x (.ins C dx [])) (fun v H2=>v=.bH/\Q (.ref x) H2) E
def Binds(K:PySem.W.Frag)(fd:FuncData)(ps:List Str)(ds:List Value):Prop:=
 ∀(s:Shared) (us:List Value),K.In s.heap->(us++ds).length=ps.length->BindsTo s fd ⟨us,[]⟩ (ps.zip (us++ds))
theorem Binds.all{K:PySem.W.Frag}{fd:FuncData}{ps:List Str}(h:∀us:List Value,us.length=ps.length->bindArgs fd ⟨us,[]⟩=pure (ps.zip us)):Binds K fd ps []:=fun s us _ hl=>by
 rw[List.append_nil] at hl ⊢
 exact .of_eq (h us hl)
def Passes(CX:CT)(X:Cx)(E:XK):Prop:=∀(pins:List (Addr×Obj)) (σ:St) (H:Hp) (s:Shared) (e:Value) (s':Shared),Inv X pins σ H s->CX X.stack H s E e s'->X.xe e s'
section
variable {X:Cx}{CX:CT}{k:Nat}{f C:Addr}{fd:FuncData}{ps:List Str}{sp:Sp}{CZ:List V}{ds:List Value}{E:XK}{x m:Str}{p pos apos:Pos}{e o:Expr}{es:List Expr}{ta:TE}{t:TA}
theorem Eb{pins:List (Addr×Obj)}{σ:St}{H:Hp}{s:Shared}{Q:VK}{us:List Value}{vs:List V}(F:cA X.prog X.w X.K X.mg X.base CX k f fd ps sp)(hr:dS k X.A)(hb:Binds X.K fd ps ds)(hd:Vals CZ ds)(hx:Passes CX X E)
  (I:Inv X pins σ H s) (r:Vals vs us) (h:sp (vs++CZ) H Q E):wpAny (model X.prog X.w) X.A (call (.ref f) us) (EP X pins σ Q) X.xe s:=by
 have r2:Vals (vs++CZ) (us++ds):=r.append hd
 have hl:(us++ds).length=ps.length:=by rw[<-r2.length];exact F.len _ _ _ _ h
 refine wpAny_call (codeAny_mono (F.run X.A X.stack s H ⟨us,[]⟩ (us++ds) (vs++CZ) Q E hr I.UH (hb s us I.LO hl) r2 h) fun r s' hq=>?_)
 cases r with
 |error e=>exact hx pins σ H s e s' I hq
 |ok fl=>
  cases fl with
  |ret u=>exact I.after hq
  |next=>exact False.elim hq
  |brk=>exact False.elim hq
  |cont=>exact False.elim hq
theorem Ii(F:cA X.prog X.w X.K X.mg X.base CX k f fd ps sp)(hr:dS k X.A)(hg:Gl X x)(hm:X.mg x=some (.ref f))(hk:PySem.W.keepIn X.K (.ref f)=true)(hb:Binds X.K fd ps ds)(hd:Vals CZ ds)(hx:Passes CX X E)
  (ha:PA X (e::es) t) (jo:(x==("__debug__":Str))=false:=by decide) (he:starEach (e::es) X.env=(false,eval e X.env)::starEach es X.env:=by rfl) (sR:(backTo pos (starEach es X.env)).any (·.1)=false:=by rfl) :
  PE X (.Call (.Name x p) (e::es) [] pos) (uf sp CZ E t):=by
 intro pins s σ H Q I h
 refine wpAny_Call_Name_kw (AV I hg hm ?_ jo)
 refine PySem.W.callWith_K (h₀:=X.base) I.ok.mod.Rm hk (cn (ha pos pins s σ H _ I h) fun us s1 ⟨vs,H1,I1,r,q⟩=>⟨I1.LO,?_⟩) he sR
 exact Eb F hr hb hd hx I1 r q
structure Mk(K:PySem.W.Frag)(C f:Addr):Prop where
 makes:PySem.W.makesIn K C=true
 init:PySem.W.findIn K (.ref C) "__init__" = some (some (.ref f))
 fn:PySem.W.isFn K (.ref f)=true
 kp:PySem.W.keepIn K (.ref C)=true
end
def PK(X:Cx)(Wv:List Keyword)(t:TA):Prop:=
 ∀(pos:Pos) (pins:List (Addr×Obj)) (s:Shared) (σ:St) (H:Hp) (Q:List V->Hp->Prop),Inv X pins σ H s->t σ H Q->wpAny (model X.prog X.w) X.A (evalAll ((backToKw pos (keywordEach Wv X.env)).map (·.2))) (AP X pins σ Q) X.xe s
section
variable {X:Cx}{CX:CT}{k:Nat}{f C:Addr}{fd:FuncData}{ps ks:List Str}{sp:Sp}{E:XK}{x m:Str}{p pos apos ZD:Pos}{e o:Expr}{es:List Expr}{Wv:List Keyword}{te ta:TE}{t tk:TA}{nm:Option Str}
structure Vu(K:PySem.W.Frag)(fd:FuncData)(ps ks:List Str)(g:List Value->List Value->List Value)(gV:List V->List V->List V):Prop where
 to:∀(s:Shared) (us ws:List Value),K.In s.heap->(g us ws).length=ps.length->BindsTo s fd ⟨us,ks.zip ws⟩ (ps.zip (g us ws))
 rel:∀{vs:List V}{us:List Value}{zs:List V}{ws:List Value},Vals vs us->Vals zs ws->Vals (gV vs zs) (g us ws)
def Ss(sp:Sp)(gV:List V->List V->List V)(E:XK)(t tk:TA):TE:=fun σ H Q=>t σ H fun vs H1=>tk σ H1 fun zs H2=>sp (gV vs zs) H2 Q E
variable {g:List Value->List Value->List Value}{gV:List V->List V->List V}
end
structure aL(N P:List Str)(sc:Scope):Prop where
 kind:sc.kind=.function
 co:sc.isCoroutine=false
 gen:sc.isGenerator=false
 nd:N.Nodup
 pre:N.take P.length=P
 par:∀x∈P,sc.names.lookup x=some .local\/sc.names.lookup x=some .cell
 Lz:∀y∈sc.names,y.2≠.free
theorem u_{kindOf:Str->Option NameKind}{x:Str}:∀{binds:List (Str×Value)}{m:Str->Option Value},(∀v,(x,v)∉binds)->bindL kindOf binds m x=m x
 | [],_,_=>rfl
 |(n,v)::r,m,h=>by
  unfold bindL
  rw[u_ fun w hw=>h w (List.mem_cons_of_mem _ hw)]
  split
  ·have:x≠n:=by rintro rfl;exact h v List.mem_cons_self
   simp[this]
  ·rfl
theorem vd{kindOf:Str->Option NameKind}{x:Str}:∀{binds:List (Str×Value)}{m:Str->Option Value},(∀v,(x,v)∉binds)->bindC kindOf binds m x=m x
 | [],_,_=>rfl
 |(n,v)::r,m,h=>by
  unfold bindC
  rw[vd fun w hw=>h w (List.mem_cons_of_mem _ hw)]
  split
  ·rfl
  ·have:x≠n:=by rintro rfl;exact h v List.mem_cons_self
   simp[this]
theorem vc{kindOf:Str->Option NameKind}{x:Str}{v:Value}:∀{P:List Str}{vs:List Value}{i:Nat}{m:Str->Option Value},P.Nodup->P[i]? = some x->vs[i]? = some v->kindOf x=some .local ->
  bindL kindOf (P.zip vs) m x=some v
 | [],_,_,_,_,h,_,_=>by simp at h
 |_::_,[],_,_,_,_,h,_=>by simp at h
 |p::P,w::vs,0,m,nd,h1,h2,hk=>by
  simp at h1 h2;subst h1;subst h2
  show bindL kindOf ((p,w)::P.zip vs) m p=_
  unfold bindL
  rw[u_ fun v hv=>(List.nodup_cons.mp nd).1 (List.of_mem_zip hv).1,if_pos hk]
  simp
 |p::P,w::vs,i+1,m,nd,h1,h2,hk=>by
  show bindL kindOf ((p,w)::P.zip vs) m x=_
  unfold bindL
  exact vc (i:=i) (List.nodup_cons.mp nd).2 (by simpa using h1) (by simpa using h2) hk
theorem ve{kindOf:Str->Option NameKind}{x:Str}{v:Value}:∀{P:List Str}{vs:List Value}{i:Nat}{m:Str->Option Value},P.Nodup->P[i]? = some x->vs[i]? = some v->kindOf x≠some .local ->
  bindC kindOf (P.zip vs) m x=some v
 | [],_,_,_,_,h,_,_=>by simp at h
 |_::_,[],_,_,_,_,h,_=>by simp at h
 |p::P,w::vs,0,m,nd,h1,h2,hk=>by
  simp at h1 h2;subst h1;subst h2
  show bindC kindOf ((p,w)::P.zip vs) m p=_
  unfold bindC
  rw[vd fun v hv=>(List.nodup_cons.mp nd).1 (List.of_mem_zip hv).1,if_neg hk]
  simp
 |p::P,w::vs,i+1,m,nd,h1,h2,hk=>by
  show bindC kindOf ((p,w)::P.zip vs) m x=_
  unfold bindC
  exact ve (i:=i) (List.nodup_cons.mp nd).2 (by simpa using h1) (by simpa using h2) hk
def start(N:List Str)(vs:List V):St:=vs.map some++List.replicate (N.length-vs.length) none
def zZ(CX:CT)(P:Program)(w:World)(K:PySem.W.Frag)(mg:Str->Option Value)(base:Heap)(N:List Str)(qual:Str)(scope:Scope)(f:Addr)(cd:Value)(A:Around)(outer:List Env)(s:Shared)(H:Hp)(E:XK):Cx where
 prog:=P
 w:=w
 K:=K
 mg:=mg
 base:=base
 A:=A.deeper (envOfC qual scope s.heap.objs.size f cd)
 N:=N
 h_:=s
 CQ:=H
 env:=envOfC qual scope s.heap.objs.size f cd
 outer:=outer
 stack:=envOfC qual scope s.heap.objs.size f cd::outer
 ex:=[]
 calm:=true
 fn:=fun _=>true
 pn:=[]
 xe:=fun e s'=>wpAny (model P w) (A.deeper (envOfC qual scope s.heap.objs.size f cd)) (leaving (envOfC qual scope s.heap.objs.size f cd) e) (fun _ HE=>CX outer H s E e HE) (fun e' HE=>CX outer H s E e' HE) s'
theorem yq{sc:Scope}{n:Nat}{x:Str}(h:sc.names.lookup x=some .cell):∃c,(cellsFrom n sc.names []).lookup x=some c:=by
 have q:=PySem.W.cellsFrom_some sc.names n [] (.inl h)
 exact Option.isSome_iff_exists.mp q
theorem Cu{CX:CT}{P:Program}{w:World}{K:PySem.W.Frag}{mg:Str->Option Value}{base:Heap}{N ps:List Str}{qual:Str}{scope:Scope}{f:Addr}{cd:Value}{A:Around}{outer:List Env}{s s1:Shared}{H:Hp}{E:XK}{us:List Value}{vs:List V}
  (S:aL N ps scope) (hd:A.handled=none) (e0:tZ P w K mg base A outer s H) (hl:vs.length=ps.length) (r:Vals vs us)
  (x:InCallC s s.heap.objs.size (bindL (envOfC qual scope s.heap.objs.size f cd).kindOf (ps.zip us) fun _=>none) (cellsFrom (s.heap.objs.size+1) scope.names []) (bindC (envOfC qual scope s.heap.objs.size f cd).kindOf (ps.zip us) fun _=>none) s1) :
  Inv (zZ CX P w K mg base N qual scope f cd A outer s H E) [] (start N vs) H s1:=by
 have sR:ps.length<=N.length:=by have:=congrArg List.length S.pre;rw[List.length_take] at this;omega
 obtain⟨h1,tk,rfl,hk⟩:=x.done
 have OB:∀b:Addr,b∉(zZ CX P w K mg base N qual scope f cd A outer s H E).ex:=fun b z=>absurd (show b∈([]:List Addr) from z) (by simp)
 refine⟨⟨e0.mod,S.kind,rfl,rfl,Nat.le_refl _,fun y z c h1 h2=>?_,fun y hy=>?_,fun y c _ h=>?_,fun _=>hd,Around.frames_deeper e0.frames,.inr ⟨rfl,rfl⟩,fun b z=>absurd z (OB b),e0.bs,e0.FU,fun b _ _=>OB b,fun b z=>absurd z (OB b),e0.pd,e0.JU⟩,
  rfl,e0.bare,Un.kept hk,⟨_,x.toInCall.ns,fun i y v h1 h2 h3=>?_⟩,fun y c h=>⟨_,x.cell y c h⟩,e0.cg.fresh (Nat.le_refl _),fun y c h=>?_,fun p hp=>absurd (show p∈([]:List (Addr×Obj)) from hp) (by simp),e0.cg.kept hk,?_⟩
 ·exact name_of_addr x.apart (PySem.mem_of_lookup h1) (PySem.mem_of_lookup h2)
 ·have hy:scope.names.lookup y=some .cell\/scope.names.lookup y=some .free:=hy
  rcases hy with hy|hy
  ·exact yq hy
  ·exact absurd rfl (S.Lz _ (PySem.mem_of_lookup hy))
 ·exact Nat.le_of_lt (x.above y c (PySem.mem_of_lookup h))
 ·have hi:i<vs.length:=by
   unfold start at h2
   by_cases hi:i<vs.length
   ·exact hi
   ·rw[List.getElem?_append_right (by simpa using hi)] at h2
    rw[List.getElem?_replicate] at h2
    split at h2<;>cases h2
  have ha:vs[i]? = some v:=by
   unfold start at h2
   rw[List.getElem?_append_left (by simpa using hi),List.getElem?_map] at h2
   cases e:vs[i]? with
   |none=>rw[e] at h2;cases h2
   |some a=>rw[e] at h2;cases h2;rfl
  obtain⟨u,hu,rv⟩:=r.get ha
  have hp:ps[i]? = some y:=by
   rw[<-S.pre,List.getElem?_take_of_lt (by omega)];exact h1
  have Wq:ps.Nodup:=by rw[<-S.pre];exact S.nd.sublist (List.take_sublist _ _)
  refine⟨u,rv,?_⟩
  rcases S.par y (List.mem_of_getElem? hp) with k|k
  ·exact .inl ⟨k,vc Wq hp hu k⟩
  ·obtain⟨c,e⟩:=yq (n:=s.heap.objs.size+1) k
   refine .inr ⟨.inl k,c,e,?_⟩
   have q:=x.cell y c e
   rw[ve Wq hp hu (by show scope.names.lookup y≠_;rw[k];decide)] at q
   exact q
 ·exact e0.cg.fresh (Nat.le_of_lt (x.above y c (PySem.mem_of_lookup h)))
 ·unfold start
  show _=N.length
  rw[List.length_append,List.length_map,List.length_replicate]
  omega
theorem PB{CX:CT}{P:Program}{w:World}{K:PySem.W.Frag}{mg:Str->Option Value}{base:Heap}{k:Nat}{f:Addr}{name qual:Str}{params:Arguments}{body:List Stmt}{scope:Scope}{dV kV doc pm eE ct oc:Value}{an od:Option Addr}
  {JE:Array (Option Value)}{N ps:List Str}{sp:Sp} (lk:K.lookup f=some ⟨oc,od,.func (PySem.W.fnOf name qual params body scope dV kV doc pm an eE ct),JE⟩) (fu:PySem.W.codeIn K eE qual=true) (S:aL N ps scope)
  (len:∀vs H Q E,sp vs H Q E->vs.length=ps.length)
  (Fs:∀(A:Around) (outer:List Env) (s:Shared) (H:Hp) (vs:List V) (Q:VK) (E:XK),dS k (A.deeper (envOfC qual scope s.heap.objs.size f eE))->sp vs H Q E ->
   ∃t,Ad (zZ CX P w K mg base N qual scope f eE A outer s H E) body t/\t {nx:=fun _ H'=>Q .bH H',rt:=Q} (start N vs) H) :
  cA P w K mg base CX (k+1) f (PySem.W.fnOf name qual params body scope dV kV doc pm an eE ct) ps sp:=by
 refine⟨len,fun A outer s H args us vs Q E hr e0 hb r JN=>?_⟩
 have hl:=len _ _ _ _ JN
 have KX:K.In s.heap:=e0.mod.Rm.keeps fun b o e=>(e0.bs b o e).1
 have lim:s.heap.NoLimit:=e0.mod.nolimit.keeps fun b o e=>(e0.bs b o e).1
 have Pj:∀y∈ps.zip us,scope.names.lookup y.1=some .local\/(scope.names.lookup y.1=some .cell/\((cellsFrom (s.heap.objs.size+1) scope.names []).lookup y.1).isSome=true):=fun⟨n,v⟩ hy=>by
  rcases S.par n (List.of_mem_zip hy).1 with q|q
  ·exact .inl q
  ·exact .inr ⟨q,PySem.W.cellsFrom_some _ _ _ (.inl q)⟩
 refine codeAny_call_function hr.depth (KX _ _ lk) rfl S.co S.gen rfl (PySem.W.codeRec_of KX fu) (hb _ _ _ _ ?_)
 refine wpAny_newFunctionEnv_cells S.kind Pj fun env he s1 x=>?_
 subst he
 refine⟨lim.keeps x.toInCall.keep,codeAny_func ?_⟩
 obtain⟨t,ht,hq⟩:=Fs A outer s H vs Q E (hr.deeper _) JN
 have I:Inv (zZ CX P w K mg base N qual scope f eE A outer s H E) [] (start N vs) H s1:=Cu S hr.hd e0 hl r x
 refine wpAny_mono (ht [] s1 (start N vs) H _ I hq) (fun fl s' hs=>?_) fun e s' hs=>hs
 have fin:∀{bR:St}{H':Hp}{v:V}{u:Value},Inv (zZ CX P w K mg base N qual scope f eE A outer s H E) [] bR H' s'->RelV v u->Q v H'->CE outer P w H s Q u s':=
  fun{bR H' v u} J rv q=>⟨v,H',J.os,J.bare,J.base,J.cg,rv,q⟩
 cases fl with
 |ret u=>
  obtain⟨v,bR,H',J,rv,q⟩:=hs
  exact fin J rv q
 |next=>
  obtain⟨bR,H',J,q⟩:=hs
  exact fin (v:=V.bH) (u:=Value.none) J rfl q
 |brk=>
  obtain⟨_,_,_,q⟩:=hs
  exact False.elim q
 |cont=>
  obtain⟨_,_,_,q⟩:=hs
  exact False.elim q
end L2
namespace L2
open PySem PySem.Spec PyProof.Rows
section
variable {X:Cx}{x:Str}{p pos:Pos}{e:Expr}{es:List Expr}{t:TA}{id T:String}{r:List V->Hp->VK->Prop}
def Hd(r:List V->Hp->VK->Prop)(t:TA):TE:=fun σ H Q=>t σ H fun vs H1=>r vs H1 Q
theorem EI(hc:hV X (.builtin id) r)(hg:Gl X x)(hm:X.mg x=none)(hv:bootBuiltins x=some (.builtin id))(ha:PA X (e::es) t)(hn:x≠"__name__":=by decide)(jo:(x==("__debug__":Str))=false:=by decide)
  (he:starEach (e::es) X.env=(false,eval e X.env)::starEach es X.env:=by rfl) (sR:(backTo pos (starEach es X.env)).any (·.1)=false:=by rfl):PE X (.Call (.Name x p) (e::es) [] pos) (Hd r t):=by
 intro pins s σ H Q I h
 refine wpAny_Call_Name_kw (rK I hg hm hv ?_ hn jo)
 exact PyProof.Rows.callWith_builtin1 (cn (ha pos pins s σ H _ I h) fun us s1 ⟨vs,H1,I1,r1,q1⟩=>hc pins s1 σ H1 vs us Q I1 r1 q1) he sR
theorem Ce(hc:hV X (.type T) r)(hg:Gl X x)(hm:X.mg x=none)(hv:bootBuiltins x=some (.type T))(ha:PA X (e::es) t)(hn:x≠"__name__":=by decide)(jo:(x==("__debug__":Str))=false:=by decide)
  (he:starEach (e::es) X.env=(false,eval e X.env)::starEach es X.env:=by rfl) (sR:(backTo pos (starEach es X.env)).any (·.1)=false:=by rfl):PE X (.Call (.Name x p) (e::es) [] pos) (Hd r t):=by
 intro pins s σ H Q I h
 refine wpAny_Call_Name_kw (rK I hg hm hv ?_ hn jo)
 exact PyProof.Rows.callWith_type1 (cn (ha pos pins s σ H _ I h) fun us s1 ⟨vs,H1,I1,r1,q1⟩=>hc pins s1 σ H1 vs us Q I1 r1 q1) he sR
end
end L2
namespace HT
open PySem PyProof.Rows
def lexLt:List Int->List Int->Bool
 | [],[]=>false
 | [],_::_=>true
 |_::_,[]=>false
 |x::xs,y::ys=>if x=y then lexLt xs ys else decide (x<y)
section
open PySem.SeqAt
open PySem.AutoSeq1 (wpAny_loadPart')
open PySem.MeetsSeq PySem.MeetsSeq2 PySem.MeetsSeq3
end
section
variable {prog:Program}{w:World}{A:Around}{E:Value->Shared->Prop}{s:Shared}
def e8(n d:Nat):Option Int->Nat
 |none=>d
 |some v=>if v<0 then(v+(n:Int)).toNat else min v.toNat n
theorem KO(n d:Nat)(hd:d<=n)(o:Option Int):e8 n d o<=n:=by
 cases o with
 |none=>exact hd
 |some v=>
  show(if v<0 then(v+(n:Int)).toNat else min v.toNat n)<=n
  by_cases hv:v<0
  ·rw[if_pos hv];omega
  ·rw[if_neg hv];exact Nat.min_le_right _ _
theorem Bg(v:Int)(n d:Nat):(if v<0 then max (v+(n:Int)) 0 else min v (n:Int))=((e8 n d (some v):Nat):Int):=by
 show(if v<0 then max (v+(n:Int)) 0 else min v (n:Int))=(((if v<0 then(v+(n:Int)).toNat else min v.toNat n):Nat):Int)
 by_cases hv:v<0
 ·simp only[if_pos hv];omega
 ·simp only[if_neg hv];omega
theorem Ac(lo hi:Option Int)(n:Nat):Builtin.Slice.sliceAdjust lo hi 1 (n:Int)=(((e8 n 0 lo:Nat):Int),((e8 n n hi:Nat):Int)):=by
 have h1:¬((1:Int)<0):=by omega
 unfold Builtin.Slice.sliceAdjust
 simp only[h1,if_false]
 refine Prod.ext ?_ ?_
 ·cases lo with
  |none=>rfl
  |some v=>exact Bg v n 0
 ·cases hi with
  |none=>rfl
  |some v=>exact Bg v n n
theorem zp(i j:Nat):Builtin.Slice.slicePlaces (i:Int) (j:Int) 1=j-i:=by
 unfold Builtin.Slice.slicePlaces
 have h1:(1:Int) > 0:=by omega
 simp only[h1,if_true,Int.ediv_one]
 split<;>omega
theorem qQ{v:Value}{o:Option Int}{Q:Option Int->Shared->Prop}(p:IsPart v o)(h:Q o s):wpAny (model prog w) A (Builtin.Slice.slicePartIndex v) Q E s:=by
 cases p with
 |none=>exact slicePart_none h
 |int i t=>exact slicePart_int h
theorem oA{sl:Addr}{vl vu:Value}{lo hi:Option Int}{n:Nat}{Q:Int×Int×Nat->Shared->Prop}(hs:s.heap.IsSliceOf sl vl vu .none)(pl:IsPart vl lo)(pu:IsPart vu hi)
  (h:Q (((e8 n 0 lo:Nat):Int),1,e8 n n hi-e8 n 0 lo) s):wpAny (model prog w) A (Builtin.Slice.sliceApplied (.ref sl) (pure (n:Int))) Q E s:=by
 obtain⟨os,Pa,W5,Nm⟩:=id hs
 unfold Builtin.Slice.sliceApplied Builtin.Slice.sliceFields
 refine wpAny_bind (wpAny_bind (wpAny_field Pa Nm (x:=vl) rfl (wpAny_bind (wpAny_field Pa Nm (x:=vu) rfl (wpAny_bind (wpAny_field Pa Nm (x:=.none) rfl (wpAny_pure ?_)))))))
 refine wpAny_bind (slicePart_none ?_)
 show wpAny _ _ (if ((1:Int)==0)=true then _ else _) _ _ s
 rw[if_neg (by decide)]
 refine wpAny_bind (qQ pl (wpAny_bind (qQ pu (wpAny_bind (wpAny_pure ?_)))))
 show wpAny _ _ (match Builtin.Slice.sliceAdjust lo hi 1 (n:Int) with|(lo,hi)=>pure (lo,(1:Int),Builtin.Slice.slicePlaces lo hi 1)) _ _ s
 rw[Ac lo hi n]
 show wpAny _ _ (pure (((e8 n 0 lo:Nat):Int),(1:Int),Builtin.Slice.slicePlaces ((e8 n 0 lo:Nat):Int) ((e8 n n hi:Nat):Int) 1)) _ _ s
 rw[zp]
 exact wpAny_pure h
theorem EA(xs:Array Value)(i k:Nat):((List.range k).filterMap fun(m:Nat)=>xs[((i:Int)+(m:Int) * 1).toNat]?).toArray=((xs.toList.drop i).take k).toArray:=by
 have e:(fun(m:Nat)=>xs[((i:Int)+(m:Int) * 1).toNat]?)=fun m=>xs[i+m]?:=by
  funext m
  have:((i:Int)+(m:Int) * 1).toNat=i+m:=by omega
  rw[this]
 rw[e]
 have:=pick_run xs i k
 rw[List.filterMap_map] at this
 have e2:((fun x=>xs[x]?) ∘ fun x=>i+x)=fun m=>xs[i+m]?:=rfl
 rw[e2] at this
 rw[this]
theorem ny{t sl:Addr}{items:Array Value}{vl vu:Value}{lo hi:Option Int}{Q:Value->Shared->Prop}(ht:IsTup s.heap t items)(hs:s.heap.IsSliceOf sl vl vu .none)(pl:IsPart vl lo)(pu:IsPart vu hi)
  (hw:¬(e8 items.size 0 lo=0/\e8 items.size items.size hi=items.size))
  (h:Q (.ref s.heap.objs.size) {s with heap:=s.heap.push {cls:=.type "tuple",data:=.seq ((items.toList.drop (e8 items.size 0 lo)).take (e8 items.size items.size hi-e8 items.size 0 lo)).toArray}})
  (hsz:items.size<=sizeLine):wpAny (model prog w) A (getItem (.ref t) (.ref sl)) Q E s:=by
 have rT:sizeOk (.seq ((items.toList.drop (e8 items.size 0 lo)).take (e8 items.size items.size hi-e8 items.size 0 lo)).toArray):=by
  show((items.toList.drop (e8 items.size 0 lo)).take (e8 items.size items.size hi-e8 items.size 0 lo)).toArray.size<=sizeLine
  rw[List.size_toArray,List.length_take,List.length_drop,Array.length_toList]
  omega
 have hj:e8 items.size items.size hi<=items.size:=KO _ _ (Nat.le_refl _) hi
 obtain⟨os,Pa,W5,Nm⟩:=id hs
 have hTs:s.TypeIs (.ref sl) "slice":=⟨os,Pa,W5⟩
 unfold getItem
 try with_reducible refine wpAny_holding ?_
 first|refine wpAny_bind (wpAny_pure ?_)|skip
 refine wpAny_bind (wpAny_sequenceKey ht.typeIs (by decide) ?_)
 refine wpAny_bind (wpAny_callSpecial?_slot (name:=Str.ofString "__getitem__") ht.typeIs PyProof.Rows.slot_tuple_getitem
  (wpAny_call_entry PyProof.Rows.slot_tuple_getitem ht.typeIs entry_tuple_getitem ?_ (args_tuple_getitem _ _)))
 show wpAny _ _ (Builtin.Tuple.tupleItemsOf (.ref t) >>= _) _ _ s
 refine wpAny_bind (tupleItemsOf_ ht ?_)
 refine wpAny_bind (wpAny_typeOf hTs ?_)
 rw[if_pos (by decide)]
 refine wpAny_bind (oA hs pl pu ?_)
 have yF:¬((((e8 items.size 0 lo:Nat):Int)==0&&(1:Int)==1&&(e8 items.size items.size hi-e8 items.size 0 lo)==items.size)=true):=by
  intro q
  rw[Bool.and_eq_true,Bool.and_eq_true] at q
  have q1:((e8 items.size 0 lo:Nat):Int)=0:=eq_of_beq q.1.1
  have q2:e8 items.size items.size hi-e8 items.size 0 lo=items.size:=eq_of_beq q.2
  exact hw ⟨by omega,by omega⟩
 show wpAny _ _ (if (((e8 items.size 0 lo:Nat):Int)==0&&(1:Int)==1&&(e8 items.size items.size hi-e8 items.size 0 lo)==items.size)=true then _ else _) _ _ s
 rw[if_neg yF,EA]
 first
  |exact wpAny_bind (m:=Builtin.Tuple.tupleExact _) (wpAny_newObj_type (wpAny_pure ⟨_,rfl,wpAny_pure h⟩) rT)
  |exact wpAny_bind (m:=Builtin.Tuple.tupleExact _) (wpAny_newObj_type (wpAny_bind (wpAny_pure (wpAny_pure ⟨_,rfl,wpAny_pure h⟩))) rT)
  |exact wpAny_bind (wpAny_bind (m:=Builtin.Tuple.tupleExact _) (wpAny_newObj_type (wpAny_pure (wpAny_pure ⟨_,rfl,wpAny_pure h⟩)) rT))
  |exact wpAny_bind (wpAny_bind (m:=Builtin.Tuple.tupleExact _) (wpAny_newObj_type (wpAny_pure ⟨_,rfl,wpAny_pure h⟩) rT))
end
end HT
namespace L2
open PySem PySem.Spec PyProof.Rows
abbrev TO:=St->Hp->(Option Int->Hp->Prop)->Prop
def PO(X:Cx)(e:Option Expr)(t:TO):Prop:=
 ∀(pins:List (Addr×Obj)) (s:Shared) (σ:St) (H:Hp) (Q:Option Int->Hp->Prop),Inv X pins σ H s->t σ H Q ->
  wpAny (model X.prog X.w) X.A (evalPart e X.env) (fun u s'=>∃o H',Inv X pins σ H' s'/\IsPart u o/\Q o H') X.xe s
def Ap:TO:=fun _ H Q=>Q none H
def Jm(t:TE):TO:=fun σ H Q=>t σ H fun x H1=>∃i,x=.int i/\Q (some i) H1
section
variable {X:Cx}{e:Expr}{te:TE}{lo hi:Option Expr}{tl th:TO}{pos p2:Pos}
theorem HW:PO X none Ap:=by
 intro pins s σ H Q I h
 rw[evalPart_none]
 exact wpAny_pure ⟨none,H,I,.none,h⟩
theorem HV(h:PE X e te):PO X (some e) (Jm te):=by
 intro pins s σ H Q I hw
 rw[evalPart_some]
 refine cn (h pins s σ H _ I hw) fun u s1 ⟨x,H1,I1,r1,q1⟩=>?_
 obtain⟨i,rfl,q⟩:=q1
 obtain⟨t,rfl⟩:=r1
 exact⟨some i,H1,I1,.int i t,q⟩
def J1(X:Cx)(r:V->Option Int->Option Int->Hp->VK->Prop):Prop:=
 ∀(pins:List (Addr×Obj)) (s:Shared) (σ:St) (H:Hp) (x:V) (v vl vu:Value) (lo hi:Option Int) (sl:Addr) (Q:VK),Inv X pins σ H s->RelV x v->s.heap.IsSliceOf sl vl vu .none->IsPart vl lo->IsPart vu hi->r x lo hi H Q ->
  ∃T id,typeLookup (.type T) "__getitem__" = pure (some (.builtin id))/\s.TypeIs v T/\wpAny (model X.prog X.w) X.A (getItem v (.ref sl)) (EP X pins σ Q) X.xe s
theorem J1.or{r r':V->Option Int->Option Int->Hp->VK->Prop}(h:J1 X r)(h':J1 X r'):J1 X (fun x lo hi H Q=>r x lo hi H Q\/r' x lo hi H Q):=by
 intro pins s σ H x v vl vu lo hi sl Q I rx hs pl pu q
 rcases q with q|q
 ·exact h pins s σ H x v vl vu lo hi sl Q I rx hs pl pu q
 ·exact h' pins s σ H x v vl vu lo hi sl Q I rx hs pl pu q
def Q8(r:V->Option Int->Option Int->Hp->VK->Prop)(te:TE)(tl th:TO):TE:=fun σ H Q=>te σ H fun x H1=>tl σ H1 fun l H2=>th σ H2 fun u H3=>r x l u H3 Q
theorem rh{r:V->Option Int->Option Int->Hp->VK->Prop}(hr:J1 X r)(he:PE X e te)(hl:PO X lo tl)(hu:PO X hi th):PE X (.Subscript e (.Slice lo hi none p2) pos) (Q8 r te tl th):=by
 intro pins s σ H Q I h
 refine Subscript_ (cn (he pins s σ H _ I h) fun v s1 ⟨x,H1,I1,r1,q1⟩=>?_)
 refine wpAny_Slice (cn (hl pins s1 σ H1 _ I1 q1) fun vl s2 ⟨l,H2,I2,pl,q2⟩=>cn (hu pins s2 σ H2 _ I2 q2) fun vu s3 ⟨u,H3,I3,pu,q3⟩=>?_)
 rw[evalPart_none]
 refine wpAny_pure ?_
 have I4:Inv X pins σ H3 {s3 with heap:=s3.heap.push {cls:=.type "slice",data:=.fields #[vl,vu,.none]}}:=I3.kept (t':=s3.toks) fun b ob q=>Heap.get?_push_of_some _ q
 obtain⟨T,id,hT,ht,hg⟩:=hr pins {s3 with heap:=s3.heap.push {cls:=.type "slice",data:=.fields #[vl,vu,.none]}} σ H3 x v vl vu l u s3.heap.objs.size Q I4 r1 (Heap.IsSliceOf.new ..) pl pu q3
 show wpAny (model X.prog X.w) X.A (subscriptTail e (.Slice lo hi none p2) v (.ref s3.heap.objs.size)) (EP X pins σ Q) X.xe {s3 with heap:=s3.heap.push {cls:=.type "slice",data:=.fields #[vl,vu,.none]}}
 exact tail_any (ops:=[.ref s3.heap.objs.size,v]) ht hT hg (by with_unfolding_all rfl)
def kU(xs:List V)(lo hi:Option Int):List V:=(xs.drop (HT.e8 xs.length 0 lo)).take (HT.e8 xs.length xs.length hi-HT.e8 xs.length 0 lo)
theorem pO(xs:List V)(lo hi:Option Int):(kU xs lo hi).length<=xs.length:=by
 unfold kU
 rw[List.length_take,List.length_drop]
 omega
def Ob(K:PySem.W.Frag):V->Option Int->Option Int->Hp->VK->Prop:=fun x lo hi H Q=>∃a xs,x=.ref a/\pA K H a xs /\
 ¬(HT.e8 xs.length 0 lo=0/\HT.e8 xs.length xs.length hi=xs.length)/\∀p,H p=none->Q (.ref p) (upd H p (.tup (kU xs lo hi)))
theorem KA:J1 X (Ob X.K):=by
 intro pins s σ H x v vl vu lo hi sl Q I rx hs pl pu h
 obtain⟨a,xs,rfl,hx,hw,q⟩:=h
 cases rx
 obtain⟨its,r,ht,hz⟩:=I.tuple hx
 have hlen:its.toArray.size=xs.length:=by rw[List.size_toArray];exact r.length.symm
 refine⟨"tuple",_,PyProof.Rows.slot_tuple_getitem.lookup,ht.typeIs,?_⟩
 refine HT.ny ht hs pl pu (by rw[hlen];exact hw) ?_ (by rw[hlen];exact hz)
 rw[hlen]
 refine⟨.ref s.heap.objs.size,_,I.laid (t':=s.toks) (o:=.tup (kU xs lo hi)) (fun b ob q=>Heap.get?_push_of_some _ q) (Nat.le_refl _) ?_,rfl,q _ (I.cg.fresh (Nat.le_refl _))⟩
 exact⟨Nat.le_trans (pO xs lo hi) hz,_,(r.drop (HT.e8 xs.length 0 lo)).take (HT.e8 xs.length xs.length hi-HT.e8 xs.length 0 lo),IsTup.new _ _⟩
def Y0(K:PySem.W.Frag):R2:=fun x y H Q=>∃a b ns ms,x=.ref a/\y=.ref b/\pA K H a (ns.map V.int)/\pA K H b (ms.map V.int)/\Q (.bl (HT.lexLt ns ms)) H
def Wj(K:PySem.W.Frag):R2:=fun x y H Q=>∃a b xs ys,x=.ref a/\y=.ref b/\pA K H a xs/\pA K H b ys/\xs≠[]/\xs.length+ys.length<=sizeLine /\
 (ys=[]->Q (.ref a) H)/\(ys≠[]->∀p,H p=none->Q (.ref p) (upd H p (.tup (xs++ys))))
end
end L2
namespace L2
open PySem PySem.Spec PyProof.Rows
def x6(n:Nat)(i:Int):Option Nat:=if 0<=i then(if i<n then some i.toNat else none) else if -(n:Int)<=i then some (i+n).toNat else none
def il{α:Type}(xs:List α)(i:Int):Option α:=(x6 xs.length i).bind fun j=>xs[j]?
theorem AX{n:Nat}{i:Int}{j:Nat}(h:x6 n i=some j):seqIndex? i n=some j/\j<n/\-(n:Int)<=i/\i<n:=by
 unfold x6 at h
 by_cases h0:0<=i
 ·rw[if_pos h0] at h
  by_cases h1:i<n
  ·rw[if_pos h1] at h
   have e:i.toNat=j:=Option.some.inj h
   exact⟨by rw[seqIndex_of h0 h1,e],by omega,by omega,h1⟩
  ·rw[if_neg h1] at h;cases h
 ·rw[if_neg h0] at h
  by_cases h1:-(n:Int)<=i
  ·rw[if_pos h1] at h
   have e:(i+n).toNat=j:=Option.some.inj h
   exact⟨by rw[seqIndex_neg (by omega) h1,e],by omega,h1,by omega⟩
  ·rw[if_neg h1] at h;cases h
theorem wI{α:Type}{xs:List α}{i:Int}{v:α}(h:il xs i=some v):∃j,seqIndex? i xs.length=some j/\xs[j]? = some v/\j<xs.length/\-(xs.length:Int)<=i/\i<xs.length:=by
 unfold il at h
 cases e:x6 xs.length i with
 |none=>rw[e] at h;cases h
 |some j=>
  rw[e] at h
  obtain⟨h1,h2,h3,h4⟩:=AX e
  exact⟨j,h1,h,h2,h3,h4⟩
theorem fA{α:Type}{xs:List α}{j:Nat}{v:α}(h:xs[j]? = some v):il xs (j:Int)=some v:=by
 have hj:j<xs.length:=(List.getElem?_eq_some_iff.mp h).1
 have e:x6 xs.length (j:Int)=some j:=by
  unfold x6
  rw[if_pos (by omega),if_pos (by omega)];simp
 unfold il;rw[e];exact h
def j3(b:Expr):Prop:=∀o i,subscripted b false o i=operate [o,i] (getItem o i)
def Jh(X:Cx)(r:R2):Prop:=
 ∀(value slice:Expr) (pins:List (Addr×Obj)) (s:Shared) (σ:St) (H:Hp) (x y:V) (v u:Value) (Q:VK),Inv X pins σ H s->RelV x v->RelV y u->r x y H Q ->
  subscripted slice false v u=operate [v,u] (getItem v u)->wpAny (model X.prog X.w) X.A (subscriptTail value slice v u) (EP X pins σ Q) X.xe s
def J2(X:Cx)(id:String)(r:V->List V->Hp->VK->Prop):Prop:=
 ∀(pins:List (Addr×Obj)) (s:Shared) (σ:St) (H:Hp) (x:V) (xs:List V) (v:Value) (us:List Value) (Q:VK),Inv X pins σ H s->RelV x v->Vals xs us->r x xs H Q ->
  wpAny (model X.prog X.w) X.A (call (.builtin id) (v::us)) (EP X pins σ Q) X.xe s
section
variable {X:Cx}{a b:Expr}{ta tb:TE}{pos:Pos}
theorem Jh.or{r r':R2}(h:Jh X r)(h':Jh X r'):Jh X (fun x y H Q=>r x y H Q\/r' x y H Q):=by
 intro value slice pins s σ H x y v u Q I rx ry q hs
 rcases q with q|q
 ·exact h value slice pins s σ H x y v u Q I rx ry q hs
 ·exact h' value slice pins s σ H x y v u Q I rx ry q hs
theorem J2.or{id:String}{r r':V->List V->Hp->VK->Prop}(h:J2 X id r)(h':J2 X id r'):J2 X id (fun x xs H Q=>r x xs H Q\/r' x xs H Q):=by
 intro pins s σ H x xs v us Q I rx rs q
 rcases q with q|q
 ·exact h pins s σ H x xs v us Q I rx rs q
 ·exact h' pins s σ H x xs v us Q I rx rs q
theorem JA{r:R2}(hr:Jh X r)(ha:PE X a ta)(hb:PE X b tb)(hs:j3 b):PE X (.Subscript a b pos) (Hc r ta tb):=by
 intro pins s σ H Q I h
 exact Subscript_ (MI ha hb I h fun v u s2 x y H2 I2 rx ry q=>hr a b pins s2 σ H2 x y v u Q I2 rx ry q (hs _ _))
def Eh(K:PySem.W.Frag):R2:=fun x y H Q=>∃p xs i v,x=.ref p/\y=.int i/\ju K H p xs/\il xs i=some v/\Q v H
def Eg(K:PySem.W.Frag):R2:=fun x y H Q=>∃p xs i v,x=.ref p/\y=.int i/\pA K H p xs/\il xs i=some v/\Q v H
def KZ:R2:=fun x y H Q=>∃z i c,x=.str z/\y=.int i/\z.length<=sizeLine/\il z.cps.toList i=some c/\Q (.str ⟨#[c]⟩) H
theorem AW:Jh X (Eh X.K):=by
 intro value slice pins s σ H x y v u Q I rx ry h hs
 obtain⟨p,xs,i,z,rfl,rfl,hq,he,q⟩:=h
 cases rx
 obtain⟨t,rfl⟩:=ry
 obtain⟨its,r,pl,hz⟩:=I.list hq
 obtain⟨j,h1,h2,h3,h4,h5⟩:=wI he
 obtain⟨w,ew,vN⟩:=r.get h2
 have hl:=r.length
 have hn:=oV
 have fin:EP X pins σ Q w s:=⟨z,H,I,vN,q⟩
 by_cases h0:0<=i
 ·have hj:i.toNat=j:=by
   rw[seqIndex_of h0 h5] at h1
   exact Option.some.inj h1
  exact item_listR pl.isList h0 (by omega) (by rw[hj];simpa using ew) fin hs
 ·have hj:(i+(its.toArray.size:Int)).toNat=j:=by
   rw[seqIndex_neg (by omega) h4] at h1
   rw[List.size_toArray,<-hl]
   exact Option.some.inj h1
  exact subscriptTail_builtinR (x:=w) pl.isList.typeIs slot_list_getitem.lookup
   (wpAny_getItem_list_neg (Q:=fun r s'=>r=w/\EP X pins σ Q r s') pl.isList (by omega) (by rw[List.size_toArray]<;>omega) (by omega) (by rw[hj];simpa using ew) ⟨rfl,fin⟩) hs
theorem LP:Jh X (Eg X.K):=by
 intro value slice pins s σ H x y v u Q I rx ry h hs
 obtain⟨p,xs,i,z,rfl,rfl,hq,he,q⟩:=h
 cases rx
 obtain⟨t,rfl⟩:=ry
 obtain⟨its,r,pl,hz⟩:=I.tuple hq
 obtain⟨j,h1,h2,h3,h4,h5⟩:=wI he
 obtain⟨w,ew,vN⟩:=r.get h2
 have hl:=r.length
 have hn:=oV
 have fin:EP X pins σ Q w s:=⟨z,H,I,vN,q⟩
 exact subscriptTail_builtinR (x:=w) pl.typeIs slot_tuple_getitem.lookup
  (getItem_tuple (j:=j) (Q:=fun r s'=>r=w/\EP X pins σ Q r s') pl (by omega) (by omega) (by rw[List.size_toArray,<-hl];exact h1) (by simpa using ew) ⟨rfl,fin⟩) hs
theorem LQ:Jh X KZ:=by
 intro value slice pins s σ H x y v u Q I rx ry h hs
 obtain⟨z,i,c,rfl,rfl,hz,he,q⟩:=h
 obtain⟨t,rfl⟩:=rx
 obtain⟨t',rfl⟩:=ry
 obtain⟨j,h1,h2,h3,h4,h5⟩:=wI he
 have hl:z.cps.toList.length=z.length:=by simp[Str.length]
 rw[hl] at h1 h4 h5
 have hn:=oV
 exact tail_any (typeIs_str s z t) slot_str_getitem.lookup (getItem_str (c:=c) (by
  have e1:decide (i < -(2 ^ 63:Int))=false:=decide_eq_false (by omega)
  have e2:decide (i >= 2 ^ 63)=false:=decide_eq_false (by omega)
  rw[e1,e2,Bool.or_false]) (by rw[h1];simpa using h2) ⟨.str ⟨#[c]⟩,H,I.tok _,⟨_,rfl⟩,q⟩) hs
def rIx(K:PySem.W.Frag):R2:=fun x y H Q=>Eh K x y H Q\/Eg K x y H Q\/KZ x y H Q
theorem zy(its:List Value)(n j:Nat)(u:Value):Obj.mapSeq (·.setIfInBounds j u) {cls:=.type "list",data:=.seq its.toArray n}={cls:=.type "list",data:=.seq (its.set j u).toArray n}:=by
 simp[Obj.mapSeq]
theorem Inv.lst{pins:List (Addr×Obj)}{σ:St}{H:Hp}{s:Shared}{p:Addr}{xs:List V}(I:Inv X pins σ H s)(h:H p=some (.lst xs)) :
  ∃(its:List Value) (n:Nat),Vals xs its/\s.heap.get? p=some {cls:=.type "list",data:=.seq its.toArray n}/\xs.length<=sizeLine:=by
 obtain⟨z,its,n,r,e⟩:=I.cg p _ h
 exact⟨its,n,r,e,z⟩
theorem Inv.LH{pins:List (Addr×Obj)}{σ:St}{H:Hp}{s:Shared}{p:Addr}{xs ys:List V}{its its':List Value}{n n':Nat}{f:Obj->Obj}(I:Inv X pins σ H s)(h:H p=some (.lst xs))
  (ho:s.heap.get? p=some {cls:=.type "list",data:=.seq its.toArray n}) (hf:f {cls:=.type "list",data:=.seq its.toArray n}={cls:=.type "list",data:=.seq its'.toArray n'}) (r:Vals ys its') (hz:ys.length<=sizeLine) (t:Nat) :
  Inv X pins σ (upd H p (.lst ys)) {s with heap:=s.heap.update p f,toks:=t}:=by
 have e:(s.heap.update p f).get? p=some {cls:=.type "list",data:=.seq its'.toArray n'}:=by
  rw[Heap.get?_update_self f ho (by rw[hf]<;>rfl),hf]
 refine I.write (x:=p) (e:=p) (by rw[h];trivial) (.inl rfl) (fun b u hb q=>(Heap.get?_update_other _ _ (Ne.symm hb)).trans q) ⟨_,e⟩ ?_
 exact⟨hz,its',n',r,e⟩
def Jw:V->V->V->Hp->(Hp->Prop)->Prop:=fun o i v H Q=>∃p xs k j,o=.ref p/\i=.int k/\H p=some (.lst xs)/\x6 xs.length k=some j/\Q (upd H p (.lst (xs.set j v)))
theorem set_list:Qf X Jw:=by
 intro pins s σ H o i v ov iv u Q I ro ri rv h
 obtain⟨p,xs,k,j,rfl,rfl,hp,hj,q⟩:=h
 cases ro
 obtain⟨t,rfl⟩:=ri
 obtain⟨its,n,r,ho,hz⟩:=I.lst hp
 obtain⟨h1,h2,h3,h4⟩:=AX hj
 have hl:=r.length
 have hn:=oV
 have I':Inv X pins σ (upd H p (.lst (xs.set j v))) {s with heap:=s.heap.update p (Obj.mapSeq (·.setIfInBounds j u))}:=
  I.LH hp ho (zy its n j u) (r.set rv j) (by rw[List.length_set];exact hz) s.toks
 by_cases h0:0<=k
 ·have hk:k.toNat=j:=by
   rw[seqIndex_of h0 h4] at h1
   exact Option.some.inj h1
  exact PySem.W.ki_setAt ho h0 (by omega) (by rw[List.size_toArray,<-hl];exact h4) (by rw[hk];exact⟨_,I',q⟩)
 ·have hk:(k+(its.toArray.size:Int)).toNat=j:=by
   rw[seqIndex_neg (by omega) h3] at h1
   rw[List.size_toArray,<-hl]
   exact Option.some.inj h1
  exact PySem.W.ki_setBack ho (by omega) (by rw[List.size_toArray,<-hl];exact h3) (by omega) (by rw[hk];exact⟨_,I',q⟩)
theorem vE(lo hi:Option Int)(n:Nat):(sliceBounds lo hi none n).1=((HT.e8 n 0 lo:Nat):Int)/\(sliceBounds lo hi none n).2.1=((HT.e8 n n hi:Nat):Int)/\(sliceBounds lo hi none n).2.2=1:=by
 refine⟨?_,?_,rfl⟩
 ·cases lo with
  |none=>simp[sliceBounds,HT.e8]
  |some i=>
   simp only[sliceBounds,HT.e8,Option.getD_none,show(1:Int) > 0 by decide,if_true]
   by_cases h:i<0
   ·simp only[h,if_true]<;>omega
   ·simp only[h,if_false]<;>omega
 ·cases hi with
  |none=>simp[sliceBounds,HT.e8]
  |some i=>
   simp only[sliceBounds,HT.e8,Option.getD_none,show(1:Int) > 0 by decide,if_true]
   by_cases h:i<0
   ·simp only[h,if_true]<;>omega
   ·simp only[h,if_false]<;>omega
theorem sV(its:List Value)(lo hi:Option Int):slicePick its.toArray lo hi none=((its.drop (HT.e8 its.length 0 lo)).take (HT.e8 its.length its.length hi-HT.e8 its.length 0 lo)).toArray:=by
 obtain⟨h1,h2,h3⟩:=vE lo hi its.toArray.size
 unfold slicePick
 rw[h1,h2,h3]
 simp only[sliceRange_one,pick_run,List.size_toArray]<;>rfl
def SD(K:PySem.W.Frag):V->Option Int->Option Int->Hp->VK->Prop:=fun x lo hi H Q=>∃a xs,x=.ref a/\ju K H a xs/\∀p,H p=none->Q (.ref p) (upd H p (.lst (kU xs lo hi)))
theorem Hy:J1 X (SD X.K):=by
 intro pins s σ H x v vl vu lo hi sl Q I rx hs pl pu h
 obtain⟨a,xs,rfl,hx,q⟩:=h
 cases rx
 obtain⟨its,r,ht,hz⟩:=I.list hx
 have hlen:=r.length
 refine⟨"list",_,slot_list_getitem.lookup,ht.isList.typeIs,?_⟩
 refine wpAny_getItem_list_slice ht.isList hs pl pu .none (by simp) ?_ (by rw[List.size_toArray]<;>omega)
 rw[sV,<-hlen]
 refine⟨.ref s.heap.objs.size,_,I.laid (t':=s.toks) (o:=.lst (kU xs lo hi)) (fun b ob q=>Heap.get?_push_of_some _ q) (Nat.le_refl _) ?_,rfl,q _ (I.cg.fresh (Nat.le_refl _))⟩
 exact⟨Nat.le_trans (pO xs lo hi) hz,_,0,(r.drop (HT.e8 xs.length 0 lo)).take (HT.e8 xs.length xs.length hi-HT.e8 xs.length 0 lo),Heap.get?_push_size _ rfl⟩
def lY:V->Bool
 | .bH=>true
 | .bl _=>true
 | .int _=>true
 | .str _=>true
 |_=>false
def Gq:V->V->Bool
 | .bH,.bH=>true
 | .bl a,.bl b=>a==b
 | .bl a,.int b=>(if a then 1 else 0)==b
 | .int a,.bl b=>a==(if b then 1 else 0)
 | .int a,.int b=>a==b
 | .str a,.str b=>a==b
 |_,_=>false
theorem MB{A:Around}{s:Shared}{y x:V}{u v:Value}(ry:RelV y u)(rx:RelV x v)(fy:lY y=true)(fx:lY x=true):SeqAt.EqAt A s u v (Gq y x):=by
 cases y with
 |bH=>
  cases ry
  cases x with
  |bH=>cases rx;exact SeqAt.EqAt.same _
  |bl b=>cases rx;exact SeqAt.EqAt.none_bool b
  |int b=>obtain⟨t,rfl⟩:=rx;exact SeqAt.EqAt.none_int b t
  |str b=>obtain⟨t,rfl⟩:=rx;exact SeqAt.EqAt.none_str b t
  |_=>exact absurd (show false=true from fx) Bool.false_ne_true
 |bl a=>
  cases ry
  cases x with
  |bH=>cases rx;exact SeqAt.EqAt.bool_none a
  |bl b=>cases rx;exact SeqAt.EqAt.bool_bool a b
  |int b=>obtain⟨t,rfl⟩:=rx;exact SeqAt.EqAt.bool_int a b t
  |str b=>obtain⟨t,rfl⟩:=rx;exact SeqAt.EqAt.bool_str a b t
  |_=>exact absurd (show false=true from fx) Bool.false_ne_true
 |int a=>
  obtain⟨t',rfl⟩:=ry
  cases x with
  |bH=>cases rx;exact SeqAt.EqAt.int_none a t'
  |bl b=>cases rx;exact SeqAt.EqAt.int_bool a t' b
  |int b=>obtain⟨t,rfl⟩:=rx;exact SeqAt.EqAt.int_int a t' b t
  |str b=>obtain⟨t,rfl⟩:=rx;exact SeqAt.EqAt.int_str a t' b t
  |_=>exact absurd (show false=true from fx) Bool.false_ne_true
 |str a=>
  obtain⟨t',rfl⟩:=ry
  cases x with
  |bH=>cases rx;exact SeqAt.EqAt.str_none a t'
  |bl b=>cases rx;exact SeqAt.EqAt.str_bool a t' b
  |int b=>obtain⟨t,rfl⟩:=rx;exact SeqAt.EqAt.str_int a t' b t
  |str b=>obtain⟨t,rfl⟩:=rx;exact SeqAt.EqAt.str_str a t' b t
  |_=>exact absurd (show false=true from fx) Bool.false_ne_true
 |_=>exact absurd (show false=true from fy) Bool.false_ne_true
def zW(x:V)(u:Value):Bool:=match u with
 | .none=>Gq .bH x
 | .bool b=>Gq (.bl b) x
 | .int i _=>Gq (.int i) x
 | .str z _=>Gq (.str z) x
 |_=>false
theorem FH{x y:V}{u:Value}(r:RelV y u)(f:lY y=true):zW x u=Gq y x:=by
 cases y with
 |bH=>cases r;rfl
 |bl b=>cases r;rfl
 |int i=>obtain⟨t,rfl⟩:=r;rfl
 |str z=>obtain⟨t,rfl⟩:=r;rfl
 |_=>exact absurd (show false=true from f) Bool.false_ne_true
theorem nN{x:V}:∀{xs:List V}{us:List Value},Vals xs us->xs.all lY=true->us.any (zW x)=xs.any fun y=>Gq y x
 |_,_,.nil,_=>rfl
 |y::xs,u::us,.cons r t,f=>by
  rw[List.all_cons,Bool.and_eq_true] at f
  rw[List.any_cons,List.any_cons,FH r f.1,nN t f.2]
theorem kL{A:Around}{s:Shared}{x:V}{v:Value}(rx:RelV x v)(fx:lY x=true):∀{xs:List V}{us:List Value},Vals xs us->xs.all lY=true->∀u∈us,SeqAt.EqAt A s u v (zW x u)
 |_,_,.nil,_=>fun u hu=>by cases hu
 |y::xs,u::us,.cons r t,f=>fun u' hu=>by
  rw[List.all_cons,Bool.and_eq_true] at f
  rcases List.mem_cons.mp hu with rfl|hu
  ·rw[FH r f.1];exact MB r rx f.1 fx
  ·exact kL rx fx t f.2 u' hu
def Ro(x:V)(xs:List V):Bool:=xs.any fun y=>Gq y x
def SH(K:PySem.W.Frag)(neg:Bool):R2:=fun x y H Q=>∃p xs,y=.ref p/\(ju K H p xs\/pA K H p xs)/\lY x=true/\xs.all lY=true/\Q (.bl (if neg then !Ro x xs else Ro x xs)) H
theorem oK:jv X (compareOp .In) (SH X.K false):=by
 intro pins s σ H x y v u Q I rx ry h
 obtain⟨p,xs,rfl,hq,fx,fs,q⟩:=h
 cases ry
 rcases hq with hq|hq
 ·obtain⟨its,r,pl,hz⟩:=I.list hq
  refine SeqAt.in_listAt (zW x) pl.isList (fun w hw=>kL rx fx r fs w (by simpa using hw)) ⟨.bl _,H,I,rfl,?_⟩
  rw[show its.toArray.any (zW x)=its.any (zW x) by simp,nN r fs]
  exact q
 ·obtain⟨its,r,pl,hz⟩:=I.tuple hq
  refine SeqAt.in_tupleAt (zW x) pl (fun w hw=>kL rx fx r fs w (by simpa using hw)) ⟨.bl _,H,I,rfl,?_⟩
  rw[show its.toArray.any (zW x)=its.any (zW x) by simp,nN r fs]
  exact q
theorem jP:jv X (compareOp .NotIn) (SH X.K true):=by
 intro pins s σ H x y v u Q I rx ry h
 obtain⟨p,xs,rfl,hq,fx,fs,q⟩:=h
 cases ry
 rcases hq with hq|hq
 ·obtain⟨its,r,pl,hz⟩:=I.list hq
  refine SeqAt.notIn_listAt (zW x) pl.isList (fun w hw=>kL rx fx r fs w (by simpa using hw)) ⟨.bl _,H,I,rfl,?_⟩
  rw[show its.toArray.any (zW x)=its.any (zW x) by simp,nN r fs]
  exact q
 ·obtain⟨its,r,pl,hz⟩:=I.tuple hq
  refine SeqAt.notIn_tupleAt (zW x) pl (fun w hw=>kL rx fx r fs w (by simpa using hw)) ⟨.bl _,H,I,rfl,?_⟩
  rw[show its.toArray.any (zW x)=its.any (zW x) by simp,nN r fs]
  exact q
theorem wD:hV X (.builtin "len") (fun xs H Q=>∃p ys,xs=[.ref p]/\(ju X.K H p ys\/pA X.K H p ys)/\Q (.int ys.length) H):=by
 intro pins s σ H xs us Q I r h
 obtain⟨p,ys,rfl,hq,q⟩:=h
 obtain⟨u,rfl,rx⟩:=vals1 r
 cases rx
 have hn:=oV
 rcases hq with hq|hq
 ·obtain⟨its,r',pl,hz⟩:=I.list hq
  have hlen:=r'.length
  exact Calls.call_len_list pl.isList (by simp only[List.size_toArray]<;>omega) ⟨.int ys.length,H,I.tok _,⟨s.toks+1,by rw[List.size_toArray,hlen]⟩,q⟩
 ·obtain⟨its,r',pl,hz⟩:=I.tuple hq
  have hlen:=r'.length
  exact len_tuple pl (by simp only[List.size_toArray]<;>omega) ⟨.int ys.length,H,I.tok _,⟨s.toks+1,by rw[List.size_toArray,hlen]⟩,q⟩
theorem hV.or{f:Value}{r r':List V->Hp->VK->Prop}(h:hV X f r)(h':hV X f r'):hV X f (fun xs H Q=>r xs H Q\/r' xs H Q):=by
 intro pins s σ H xs us Q I rs q
 rcases q with q|q
 ·exact h pins s σ H xs us Q I rs q
 ·exact h' pins s σ H xs us Q I rs q
theorem wC:hV X (.type "list") (fun xs H Q=>∃p ys,xs=[.ref p]/\(ju X.K H p ys\/pA X.K H p ys)/\∀l,H l=none->Q (.ref l) (upd H l (.lst ys))):=by
 intro pins s σ H xs us Q I r h
 obtain⟨p,ys,rfl,hq,q⟩:=h
 obtain⟨u,rfl,rx⟩:=vals1 r
 cases rx
 have fin:∀(its:List Value),Vals ys its->ys.length<=sizeLine->∀(h':Heap) (c':Nat),(∀b o',s.heap.get? b=some o'->h'.get? b=some o') ->
   h'.get? s.heap.objs.size=some {cls:=.type "list",dict:=none,data:=.seq its.toArray c',slots:=#[]}->EP X pins σ Q (.ref s.heap.objs.size) {s with heap:=h'}:=fun its r' hz h' c' kp e=>
  ⟨.ref s.heap.objs.size,_,I.laid (t':=s.toks) kp (Nat.le_refl _) (show ez X.prog X.w _ h' _ (.lst ys) from⟨hz,its,c',r',e⟩),rfl,q _ (I.cg.fresh (Nat.le_refl _))⟩
 rcases hq with hq|hq
 ·obtain⟨its,r',pl,hz⟩:=I.list hq
  have hlen:=r'.length
  obtain⟨o,ho,hc,n,hd⟩:=pl.isList
  exact call_list_seq p (.inl rfl) ho hc hd (fun h' c' kp e=>fin its r' hz h' c' kp e) (by simp only[List.size_toArray]<;>omega)
 ·obtain⟨its,r',pl,hz⟩:=I.tuple hq
  have hlen:=r'.length
  obtain⟨o,ho,hc,n,hd⟩:=pl
  exact call_list_seq p (.inr rfl) ho hc hd (fun h' c' kp e=>fin its r' hz h' c' kp e) (by simp only[List.size_toArray]<;>omega)
def Si(K:PySem.W.Frag)(T:String)(x:V)(H:Hp):Prop:=match x with
 | .str _=>T = "str"
 | .int _=>T = "int"
 | .ref p=>(T = "list"/\∃xs,ju K H p xs)\/(T = "tuple"/\∃o,K.lookup p=some o/\o.cls=.type "tuple"/\o.dict=none) \/
   (T = "dict"/\((∃av,H p=some (.dK av))\/∃av,H p=some (.dT av)))\/(T = "set"/\∃S n,H p=some (.set S n))
 |_=>False
theorem Dn{pins:List (Addr×Obj)}{σ:St}{H:Hp}{s:Shared}{T:String}{x:V}{v:Value}(I:Inv X pins σ H s)(r:RelV x v)(ty:Si X.K T x H) :
  s.TypeIs v T/\∀a,v=.ref a->∃ob,s.heap.get? a=some ob/\ob.dict=none:=by
 cases x with
 |str z=>
  obtain⟨t,rfl⟩:=r
  cases (show T = "str" from ty)
  exact⟨typeIs_str s z t,fun _ e=>nomatch e⟩
 |int i=>
  obtain⟨t,rfl⟩:=r
  cases (show T = "int" from ty)
  exact⟨typeIs_int s i t,fun _ e=>nomatch e⟩
 |ref p=>
  cases r
  rcases ty with⟨rfl,xs,hq⟩|⟨rfl,o,hk,hc,hd⟩|⟨rfl,hk⟩|⟨rfl,S,n,hk⟩
  ·obtain⟨its,_,pl,_⟩:=I.list hq
   refine⟨pl.isList.typeIs,fun a e=>?_⟩
   cases e
   obtain⟨o,n,e,c,hd,_⟩:=pl
   exact⟨o,e,hd⟩
  ·refine⟨⟨o,I.LO p o hk,hc⟩,fun a e=>?_⟩
   cases e
   exact⟨o,I.LO _ o hk,hd⟩
  ·have z:∃o,s.heap.get? p=some o/\o.ExactDict:=by
    rcases hk with⟨av,hk⟩|⟨av,hk⟩
    ·obtain⟨_,_,_,_,o,_,_,e,ex,_⟩:=I.cg p _ hk
     exact⟨o,e,ex⟩
    ·obtain⟨_,_,_,_,o,_,_,e,ex,_⟩:=I.cg p _ hk
     exact⟨o,e,ex⟩
   obtain⟨o,e,ex⟩:=z
   refine⟨⟨o,e,ex.1⟩,fun a e2=>?_⟩
   cases e2
   exact⟨o,e,ex.2.1⟩
  ·obtain⟨o,_,_,_,e,ex,_⟩:=I.cg p _ hk
   refine⟨⟨o,e,ex.1⟩,fun a e2=>?_⟩
   cases e2
   exact⟨o,e,ex.2.1⟩
 |_=>exact False.elim ty
def Ku(K:PySem.W.Frag)(T:String)(r:V->List V->Hp->VK->Prop)(to:TE):TE:=fun σ H Q=>to σ H fun x H1=>Si K T x H1/\r x [] H1 Q
def N8(K:PySem.W.Frag)(T:String)(r:V->List V->Hp->VK->Prop)(to:TE)(t:TA):TE:=fun σ H Q=>to σ H fun x H1=>Si K T x H1/\t σ H1 fun xs H2=>r x xs H2 Q
variable {o e:Expr}{es:List Expr}{to:TE}{t:TA}{name:Str}{apos bD:Pos}{T id:String}{r:V->List V->Hp->VK->Prop}
theorem EJ(pa:PlainAttrs T)(slot:Slot T name id)(OU:typeOf (.builtin id)=pure (.type "method_descriptor"))(hm:J2 X id r)(ho:PE X o to)
  (eh:attributeBase o name X.env (eval o X.env)=eval o X.env:=by rfl) (ef:(apos.endLine==bD.line)=true:=by rfl):PE X (.Call (.Attribute o name apos) [] [] bD) (Ku X.K T r to):=by
 intro pins s σ H Q I h
 refine wpAny_Call_method0_late eh ef (cn (ho pins s σ H _ I h) fun v s1 ⟨x,H1,I1,r1,ty,q1⟩=>?_)
 obtain⟨h1,h2⟩:=Dn I1 r1 ty
 exact⟨T,id,pa,slot,OU,h1,h2,Calls.callWith_builtin rfl (PySem.evalArgs_none (hm pins s1 σ H1 x [] v [] Q I1 r1 .nil q1))⟩
theorem Om(pa:PlainAttrs T)(slot:Slot T name id)(OU:typeOf (.builtin id)=pure (.type "method_descriptor"))(hm:J2 X id r)(ho:PE X o to)(ha:PA X (e::es) t)
  (eh:attributeBase o name X.env (eval o X.env)=eval o X.env:=by rfl)
  (Ua:((backTo bD (starEach (e::es) X.env)).all (fun x=>!x.1)&&(backToKw bD (keywordEach [] X.env)).all (fun x=>x.1.isSome)
   && decide ((e::es).length+([]:List Keyword).length+(if ([]:List Keyword).isEmpty then 0 else 1)<30))=true:=by rfl)
  (ef:(apos.endLine==bD.line)=true:=by rfl) (hs:starEach (e::es) X.env=(false,eval e X.env)::starEach es X.env:=by rfl) (L_:(backTo bD (starEach es X.env)).any (·.1)=false:=by rfl) :
  PE X (.Call (.Attribute o name apos) (e::es) [] bD) (N8 X.K T r to t):=by
 intro pins s σ H Q I h
 refine wpAny_Call_method_late eh Ua ef rfl (cn (ho pins s σ H _ I h) fun v s1 ⟨x,H1,I1,r1,ty,q1⟩=>?_)
 obtain⟨h1,h2⟩:=Dn I1 r1 ty
 refine⟨T,id,pa,slot,OU,h1,h2,?_⟩
 have hA:=ha bD pins s1 σ H1 _ I1 q1
 rw[hs] at hA ⊢
 refine Calls.callWith_builtin (by show(false||(backTo bD (starEach es X.env)).any (·.1))=false;rw[L_]<;>rfl) (Calls.evalArgs_plain ?_)
 exact cn hA fun us s2 ⟨vs,H2,I2,r2,q2⟩=>hm pins s2 σ H2 x vs v us Q I2 r1 r2 q2
end
end L2
namespace L2
open PySem PySem.Spec PyProof.Rows
def Qk(X:Cx)(id:String)(r:V->List V->Hp->VK->Prop):Prop:=
 ∀(pins:List (Addr×Obj)) (s:Shared) (σ:St) (H:Hp) (x:V) (xs:List V) (v:Value) (us:List Value) (Q:VK),Inv X pins σ H s->RelV x v->Vals xs us->r x xs H Q ->
  wpAny (model X.prog X.w) X.A (call (.builtin id) (v::us)) (EP X pins σ Q) X.xe s
theorem Vals.one:∀{x:V}{us:List Value},Vals [x] us->∃u,us=[u]/\RelV x u
 |_,_,.cons r .nil=>⟨_,rfl,r⟩
theorem Vals.two:∀{x y:V}{us:List Value},Vals [x,y] us->∃u v,us=[u,v]/\RelV x u/\RelV y v
 |_,_,_,.cons r (.cons q .nil)=>⟨_,_,rfl,r,q⟩
theorem Vals.zero:∀{us:List Value},Vals [] us->us=[]
 |_,.nil=>rfl
theorem Vals.dropLast{xs:List V}{us:List Value}(h:Vals xs us):Vals xs.dropLast us.dropLast:=by
 induction h with
 |nil=>exact .nil
 |cons r t ih=>
  cases t with
  |nil=>exact .nil
  |cons q t'=>exact .cons r ih
theorem Vals.eraseIdx:∀{xs:List V}{us:List Value} (i:Nat),Vals xs us->Vals (xs.eraseIdx i) (us.eraseIdx i)
 |_,_,_,.nil=>.nil
 |_,_,0,.cons _ t=>t
 |_,_,i+1,.cons r t=>.cons r (Vals.eraseIdx i t)
theorem Vals.reverse{xs:List V}{us:List Value}(h:Vals xs us):Vals xs.reverse us.reverse:=by
 induction h with
 |nil=>exact .nil
 |cons r t ih=>rw[List.reverse_cons,List.reverse_cons];exact Vals.append ih (.cons r .nil)
theorem zV{α:Type}(l:List α):l.eraseIdx (l.length-1)=l.dropLast:=by
 induction l with
 |nil=>rfl
 |cons a r ih=>
  cases r with
  |nil=>rfl
  |cons b r=>
   have e:(a::b::r).length-1=((b::r).length-1)+1:=by
    have h1:(a::b::r).length=r.length+2:=rfl
    have h2:(b::r).length=r.length+1:=rfl
    omega
   rw[e,List.eraseIdx_cons_succ,ih]
   all_goals rfl
section
variable {X:Cx}{pins:List (Addr×Obj)}{σ:St}{H:Hp}{s:Shared}{l b:Addr}{xs ys zs:List V}
theorem Inv.Iy{its its':List Value}{n:Nat}{f:Array Value->Array Value}{t':Nat}(I:Inv X pins σ H s)(hH:H l=some (.lst xs))
  (e:s.heap.get? l=some {cls:=.type "list",data:=.seq its.toArray n}) (hf:f its.toArray=its'.toArray) (hv:Vals ys its') (hz:ys.length<=sizeLine) :
  Inv X pins σ (upd H l (.lst ys)) {s with heap:=s.heap.update l (Obj.mapSeq f),toks:=t'}:=by
 have q:=PySem.IsL.update e f
 rw[hf] at q
 refine I.write (x:=l) (e:=l) (by rw[hH];exact trivial) (.inl rfl) (fun b' u hb hu=>(Heap.get?_update_other s.heap (Obj.mapSeq f) (Ne.symm hb)).trans hu) ⟨_,q⟩ ?_
 exact⟨hz,its',_,hv,q⟩
theorem Inv.LI{its:List Value}{t':Nat}(I:Inv X pins σ H s)(hv:Vals ys its)(hz:ys.length<=sizeLine) :
  Inv X pins σ (upd H s.heap.objs.size (.lst ys)) {s with heap:=s.heap.push {cls:=.type "list",data:=.seq its.toArray},toks:=t'}:=
 I.laid (fun _ _ q=>Heap.get?_push_of_some _ q) (Nat.le_refl _) ⟨hz,its,0,hv,Heap.get?_push_size _ rfl⟩
theorem Inv.fresh(I:Inv X pins σ H s):H s.heap.objs.size=none:=I.cg.fresh (Nat.le_refl _)
theorem Inv.zB(I:Inv X pins σ H s)(hH:H l=some (.lst xs)):xs.length<=sizeLine/\∃(its:List Value) (n:Nat),Vals xs its/\xs.length=its.length/\s.heap.get? l=some {cls:=.type "list",data:=.seq its.toArray n}:=by
 obtain⟨z,its,n,r,e⟩:=I.cg l _ hH
 exact⟨z,its,n,r,r.length,e⟩
theorem ER{n:Nat}(h:n<=sizeLine):Builtin.List.listTooLong n=false:=by
 unfold Builtin.List.listTooLong
 exact decide_eq_false (by omega)
end
section
variable {X:Cx}
def HI:V->List V->Hp->VK->Prop:=fun x vs H Q=>∃l xs y,x=.ref l/\vs=[y]/\H l=some (.lst xs)/\xs.length<sizeLine/\Q .bH (upd H l (.lst (xs++[y])))
theorem Co:Qk X "list.append" HI:=by
 intro pins s σ H x vs v us Q I rx rv h
 obtain⟨l,xs,y,rfl,rfl,hH,hz,q⟩:=h
 cases rx
 obtain⟨u,rfl,ru⟩:=rv.one
 obtain⟨z,its,n,r,hl,e⟩:=I.zB hH
 refine call_meets F.slot_list_append ⟨_,e,rfl⟩ F.entry_list_append (F.args_list_append_2 _ _) (PySem.list_append l its.toArray n u (by rw[List.size_toArray];omega)) ⟨e,?_⟩
 refine⟨.bH,_,I.Iy (its':=its++[u]) hH e (by simp) (r.append (.cons ru .nil)) ?_,rfl,q⟩
 rw[List.length_append,List.length_singleton]
 omega
def AE:V->List V->Hp->VK->Prop:=fun x vs H Q=>∃l b xs zs,x=.ref l/\vs=[.ref b]/\H l=some (.lst xs)/\H b=some (.lst zs)/\xs.length+zs.length<=sizeLine/\Q .bH (upd H l (.lst (xs++zs)))
theorem Cn:Qk X "list.extend" AE:=by
 intro pins s σ H x vs v us Q I rx rv h
 obtain⟨l,b,xs,zs,rfl,rfl,hH,hB,hz,q⟩:=h
 cases rx
 obtain⟨u,rfl,ru⟩:=rv.one
 cases ru
 obtain⟨z,its,n,r,hl,e⟩:=I.zB hH
 obtain⟨z2,zE,n2,r2,rV,e2⟩:=I.zB hB
 have hsz:its.toArray.size+zE.toArray.size<=sizeLine:=by rw[List.size_toArray,List.size_toArray];omega
 have Pg:¬(!its.toArray.isEmpty&&Builtin.List.listTooLong (its.toArray.size+zE.toArray.size))=true:=by
  rw[ER hsz,Bool.and_false]
  exact Bool.false_ne_true
 refine call_meets F.slot_list_extend ⟨_,e,rfl⟩ F.entry_list_extend (F.args_list_extend_2 _ _)
  (AutoSeq1.list_extend_list_list_0 l its.toArray n b zE.toArray n2 Pg (by rw[List.size_toArray];omega) (by omega)) ⟨e,e2,?_⟩
 refine⟨.bH,_,I.Iy (its':=its++zE) hH e (by simp) (r.append r2) ?_,rfl,q⟩
 rw[List.length_append]
 omega
def Oe:V->List V->Hp->VK->Prop:=fun x vs H Q=>∃l xs y,x=.ref l/\vs=[]/\H l=some (.lst xs)/\xs[xs.length-1]? = some y/\Q y (upd H l (.lst xs.dropLast))
theorem LC:Qk X "list.pop" Oe:=by
 intro pins s σ H x vs v us Q I rx rv h
 obtain⟨l,xs,y,rfl,rfl,hH,hy,q⟩:=h
 cases rx
 have L7:=rv.zero
 subst L7
 obtain⟨z,its,n,r,hl,e⟩:=I.zB hH
 obtain⟨u,hu,ru⟩:=r.get hy
 have hy':its.toArray[its.toArray.size-1]? = some u:=by
  show its.toArray[its.length-1]? = some u
  rw[<-Array.getElem?_toList,<-hl]
  exact hu
 refine call_meets F.slot_list_pop ⟨_,e,rfl⟩ F.entry_list_pop (F.args_list_pop_1 _) (MeetsSeq.list_pop_last l its.toArray n u hy' (by rw[List.size_toArray];omega)) ⟨e,?_⟩
 refine⟨y,_,I.Iy (its':=its.dropLast) hH e ?_ r.dropLast ?_,ru,q⟩
 ·show its.toArray.eraseIdxIfInBounds (its.toArray.size-1)=its.dropLast.toArray
  rw[List.size_toArray,List.eraseIdxIfInBounds_toArray,zV]
 ·rw[List.length_dropLast]
  omega
def SE:V->List V->Hp->VK->Prop:=fun x vs H Q=>∃l xs i k y,x=.ref l/\vs=[.int i]/\H l=some (.lst xs)/\-(2 ^ 63)<=i/\i<2 ^ 63/\seqIndex? i xs.length=some k/\xs[k]? = some y/\Q y (upd H l (.lst (xs.eraseIdx k)))
def xw:V->List V->Hp->VK->Prop:=fun x vs H Q=>∃l xs,x=.ref l/\vs=[]/\H l=some (.lst xs)/\Q .bH (upd H l (.lst xs.reverse))
theorem zx:Qk X "list.reverse" xw:=by
 intro pins s σ H x vs v us Q I rx rv h
 obtain⟨l,xs,rfl,rfl,hH,q⟩:=h
 cases rx
 have L7:=rv.zero
 subst L7
 obtain⟨z,its,n,r,hl,e⟩:=I.zB hH
 refine call_meets F.slot_list_reverse ⟨_,e,rfl⟩ F.entry_list_reverse (F.args_list_reverse_1 _) (AutoSeq1.list_reverse_list_0 l its.toArray n (by rw[List.size_toArray];omega)) ⟨e,?_⟩
 refine⟨.bH,_,I.Iy (its':=its.reverse) hH e (by simp) r.reverse ?_,rfl,q⟩
 rw[List.length_reverse]
 omega
def SJ:V->List V->Hp->VK->Prop:=fun x vs H Q=>∃l xs,x=.ref l/\vs=[]/\H l=some (.lst xs)/\Q .bH (upd H l (.lst []))
def SK:R2:=fun x y H Q=>∃l b xs zs,x=.ref l/\y=.ref b/\H l=some (.lst xs)/\H b=some (.lst zs)/\xs.length+zs.length<=sizeLine/\∀p,H p=none->Q (.ref p) (upd H p (.lst (xs++zs)))
theorem Ls:jv X (binaryOp .Add) SK:=by
 intro pins s σ H x y v u Q I rx ry h
 obtain⟨l,b,xs,zs,rfl,rfl,hH,hB,hz,q⟩:=h
 cases rx
 cases ry
 obtain⟨z,its,n,r,hl,e⟩:=I.zB hH
 obtain⟨z2,zE,n2,r2,rV,e2⟩:=I.zB hB
 refine PySem.P.add_list e e2 ?_ (by rw[List.size_toArray,List.size_toArray];omega)
 have ea:its.toArray++zE.toArray=(its++zE).toArray:=by simp
 rw[ea]
 exact⟨.ref _,_,I.LI (t':=s.toks) (r.append r2) (by rw[List.length_append];omega),rfl,q _ I.fresh⟩
def YZ:R2:=fun x y H Q=>∃l k xs,x=.ref l/\y=.int k/\H l=some (.lst xs)/\-(2 ^ 63)<=k/\k<2 ^ 63/\xs.length * k.toNat<=sizeLine /\
 ∀p,H p=none->Q (.ref p) (upd H p (.lst (List.replicate k.toNat xs).flatten))
end
section
variable {prog:Program}{w:World}{A:Around}{E:Value->Shared->Prop}{s:Shared}
set_option maxRecDepth 100000 in
end
section
variable {X:Cx}
end
end L2
namespace L2
open PySem PySem.Spec PyProof.Rows
section
variable {κ:Type} [DecidableEq κ]
def f_(av:List (κ×V))(k:κ):Option V:=(av.find? fun kv=>decide (kv.1=k)).map (·.2)
def putK(av:List (κ×V))(k:κ)(v:V):List (κ×V):=
 if (av.any fun kv=>decide (kv.1=k))=true then av.map (fun kv=>if kv.1=k then(kv.1,v) else kv) else av++[(k,v)]
def lZ(av:List (κ×V))(k:κ):List (κ×V):=av.filter fun kv=>decide (kv.1≠k)
theorem je{p:κ×V}{r:List (κ×V)}{k:κ}(e:p.1=k):f_ (p::r) k=some p.2:=by simp[f_,List.find?_cons,e]
theorem jf{p:κ×V}{r:List (κ×V)}{k:κ}(e:¬p.1=k):f_ (p::r) k=f_ r k:=by simp[f_,List.find?_cons,e]
theorem w9(k:κ):∀av:List (κ×V),(av.any fun kv=>decide (kv.1=k))=(f_ av k).isSome
 | []=>rfl
 |p::r=>by
  rw[List.any_cons]
  by_cases e:p.1=k
  ·simp only[je e,decide_eq_true e,Bool.true_or,Option.isSome_some]
  ·rw[jf e,decide_eq_false e,Bool.false_or];exact w9 k r
theorem g_(av:List (κ×V))(k:κ)(v:V):(putK av k v).length<=av.length+1:=by
 unfold putK
 split
 ·rw[List.length_map];omega
 ·rw[List.length_append,List.length_cons,List.length_nil];omega
theorem lQ.gS{o:Option V}{u:Option Value}(r:lQ o u):o.isSome=u.isSome:=by
 cases o with
 |none=>cases u with
  |none=>rfl
  |some _=>exact(show False from r).elim
 |some _=>cases u with
  |none=>exact(show False from r).elim
  |some _=>rfl
theorem lQ.getD{o:Option V}{u:Option Value}{d:V}{d':Value}(r:lQ o u)(rd:RelV d d'):RelV (o.getD d) (u.getD d'):=by
 cases o with
 |none=>cases u with
  |none=>exact rd
  |some _=>exact(show False from r).elim
 |some _=>cases u with
  |none=>exact(show False from r).elim
  |some _=>exact r
theorem KV.val{av:List (κ×V)}{vs:List (κ×Value)}(r:KV av vs)(k:κ):lQ (f_ av k) (valueAt vs k):=by
 unfold KV at r
 induction r with
 |nil=>exact True.intro
 | @cons p q ps qs h t ih=>
  obtain⟨h1,h2⟩:=h
  by_cases e:p.1=k
  ·have e':q.1=k:=h1.symm.trans e
   have b:valueAt (q::qs) k=some q.2:=by simp[valueAt,List.find?_cons,e']
   rw[je e,b];exact h2
  ·have e':¬q.1=k:=fun z=>e (h1.trans z)
   have b:valueAt (q::qs) k=valueAt qs k:=by simp[valueAt,List.find?_cons,e']
   rw[jf e,b];exact ih
theorem KV.any{av:List (κ×V)}{vs:List (κ×Value)}(r:KV av vs)(k:κ):(av.any fun kv=>decide (kv.1=k))=vs.any fun kv=>decide (kv.1=k):=by
 unfold KV at r
 induction r with
 |nil=>rfl
 |cons h t ih=>rw[List.any_cons,List.any_cons,ih,h.1]
theorem KV.KQ{av:List (κ×V)}{vs:List (κ×Value)}(r:KV av vs)(k:κ){y:V}{u:Value}(ry:RelV y u) :
  KV (av.map fun kv=>if kv.1=k then(kv.1,y) else kv) (vs.map fun kv=>if kv.1=k then(kv.1,u) else kv):=by
 unfold KV at r ⊢
 induction r with
 |nil=>exact .nil
 | @cons p q ps qs h t ih=>
  rw[List.map_cons,List.map_cons]
  refine .cons ?_ ih
  obtain⟨h1,h2⟩:=h
  by_cases e:p.1=k
  ·rw[if_pos e,if_pos (h1.symm.trans e)];exact⟨h1,ry⟩
  ·rw[if_neg e,if_neg (fun z=>e (h1.trans z))];exact⟨h1,h2⟩
theorem KV.put{av:List (κ×V)}{vs:List (κ×Value)}(r:KV av vs)(k:κ){y:V}{u:Value}(ry:RelV y u):KV (putK av k y) (stored vs k u):=by
 unfold putK stored
 rw[r.any k]
 by_cases e:(vs.any fun kv=>decide (kv.1=k))=true
 ·rw[if_pos e,if_pos e];exact r.KQ k ry
 ·rw[if_neg e,if_neg e];exact Paired.snoc r ⟨rfl,ry⟩
theorem KV.drop{av:List (κ×V)}{vs:List (κ×Value)}(r:KV av vs)(k:κ):KV (lZ av k) (without vs k):=by
 unfold KV at r ⊢
 unfold lZ without
 induction r with
 |nil=>exact .nil
 | @cons p q ps qs h t ih=>
  obtain⟨h1,h2⟩:=h
  rw[List.filter_cons,List.filter_cons]
  by_cases e:p.1=k
  ·have a:¬decide (p.1≠k)=true:=by simp[e]
   have b:¬decide (q.1≠k)=true:=by simp[h1.symm.trans e]
   rw[if_neg a,if_neg b];exact ih
  ·have e':¬q.1=k:=fun z=>e (h1.trans z)
   have a:decide (p.1≠k)=true:=by simp[e]
   have b:decide (q.1≠k)=true:=by simp[e']
   rw[if_pos a,if_pos b];exact .cons ⟨h1,h2⟩ ih
theorem KV.keys{av:List (κ×V)}{vs:List (κ×Value)}(r:KV av vs):av.map (·.1)=vs.map (·.1):=by
 unfold KV at r
 induction r with
 |nil=>rfl
 |cons h t ih=>rw[List.map_cons,List.map_cons,ih,h.1]
theorem KV.length{av:List (κ×V)}{vs:List (κ×Value)}(r:KV av vs):av.length=vs.length:=Paired.length r
theorem FK(av:List (κ×V))(k:κ):(lZ av k).length<=av.length:=List.length_filter_le _ _
end
theorem j8{P:Program}{w:World}{k:Key}{u:Value}(r:RelV (kV k) u):(br P w).is k u=true:=by
 cases k with
 |inl i=>obtain⟨t,e⟩:=(show ∃t,u=Value.int i t from r);subst e;exact xW P w i t
 |inr x=>obtain⟨t,e⟩:=(show ∃t,u=Value.str x t from r);subst e;exact xV P w x t
theorem uP{P:Program}{w:World}:∀{ks:List Key}{us:List Value},Vals (ks.map kV) us->ItemsAre (br P w) ks us
 | [],_,r=>by rw[List.map_nil] at r;cases r;exact .nil
 |k::ks,_,r=>by
  rw[List.map_cons] at r
  cases r with
  |cons h t=>exact .cons (j8 h) (uP t)
abbrev KT(H:Hp):List (List Key×V)->List (List Key×Addr×Value)->Prop:=Paired fun p q=>p.1=q.1/\H q.2.1=some (.tup (p.1.map kV))/\RelV p.2 q.2.2
theorem KT.val{H:Hp}{av:List (List Key×V)}{xs:List (List Key×Addr×Value)}(r:KT H av xs)(k:List Key):lQ (f_ av k) ((atKey xs k).map (·.2)):=by
 induction r with
 |nil=>exact True.intro
 | @cons p q ps qs h t ih=>
  obtain⟨h1,_,h2⟩:=h
  by_cases e:p.1=k
  ·have e':q.1=k:=h1.symm.trans e
   have b:atKey (q::qs) k=some q.2:=by simp[atKey,List.find?_cons,e']
   rw[je e,b];exact h2
  ·have e':¬q.1=k:=fun z=>e (h1.trans z)
   have b:atKey (q::qs) k=atKey qs k:=by simp[atKey,List.find?_cons,e']
   rw[jf e,b];exact ih
theorem KT.KQ{H:Hp}{av:List (List Key×V)}{xs:List (List Key×Addr×Value)}(r:KT H av xs)(k:List Key){y:V}{u:Value}(ry:RelV y u) :
  KT H (av.map fun kv=>if kv.1=k then(kv.1,y) else kv) (xs.map (putAt k u)):=by
 induction r with
 |nil=>exact .nil
 | @cons p q ps qs h t ih=>
  rw[List.map_cons,List.map_cons]
  refine .cons ?_ ih
  obtain⟨h1,h2,h3⟩:=h
  unfold putAt
  by_cases e:p.1=k
  ·rw[if_pos e,if_pos (h1.symm.trans e)];exact⟨h1,h2,ry⟩
  ·rw[if_neg e,if_neg (fun z=>e (h1.trans z))];exact⟨h1,h2,h3⟩
theorem KT.put{H:Hp}{av:List (List Key×V)}{xs:List (List Key×Addr×Value)}(r:KT H av xs)(k:List Key){b:Addr}{y:V}{u:Value}(hb:H b=some (.tup (k.map kV)))(ry:RelV y u) :
  KT H (putK av k y) (storedH xs k b u):=by
 have e:(av.any fun kv=>decide (kv.1=k))=(atKey xs k).isSome:=by
  rw[w9,(r.val k).gS,Option.isSome_map]
 unfold putK storedH
 rw[e]
 by_cases q:(atKey xs k).isSome=true
 ·rw[if_pos q,if_pos q];exact r.KQ k ry
 ·rw[if_neg q,if_neg q];exact Paired.snoc r ⟨rfl,hb,ry⟩
theorem KT.keeps{H H':Hp}{av:List (List Key×V)}{xs:List (List Key×Addr×Value)}(r:KT H av xs)(ht:∀b ys,H b=some (.tup ys)->H' b=some (.tup ys)):KT H' av xs:=
 Paired.LG r fun _ _ z=>⟨z.1,ht _ _ z.2.1,z.2.2⟩
section
variable {P:Program}{w:World}{H:Hp}{h:Heap}{a:Addr}
theorem Ee{u:HO}(ok:l4 P w H h)(e:Rd H a u):ez P w H h a u:=e.ok ok
theorem l0{av:List (Key×V)}(ok:l4 P w H h)(e:Rd H a (.dK av)):av.length<=sizeLine/\(a==sysModules)=false/\∃vs,KV av vs/\h.DictOf (br P w) a vs:=
 show ez P w H h a (.dK av) from Ee ok e
theorem Bc{av:List (Key×V)}(ok:l4 P w H h)(e:H a=some (.dK av)):av.length<=sizeLine/\(a==sysModules)=false/\∃vs,KV av vs/\h.DictOf (br P w) a vs:=l0 ok (.inl e)
theorem mz{ks:List Key}(ok:l4 P w H h)(e:H a=some (.tup (ks.map kV))):(tupleKind (br P w)).is h ks a:=by
 obtain⟨_,its,r,o,h1,h2,n,h3⟩:=(show ez P w H h a (.tup (ks.map kV)) from ok a _ e)
 exact⟨o,its.toArray,n,h1,h2,h3,by simpa using uP r⟩
theorem r6{av:List (List Key×V)}(ok:l4 P w H h)(e:Rd H a (.dT av)):av.length<=sizeLine/\(a==sysModules)=false /\
  ∃xs,KT H av xs/\h.DictOfH (tupleKind (br P w)) a xs:=by
 obtain⟨z,y,xs,r,o,es,ep,h1,h2,h3,h4,h5⟩:=(show ez P w H h a (.dT av) from Ee ok e)
 refine⟨z,y,xs,r,o,es,ep,h1,h2,h3,h4,fun x hx=>?_,h5⟩
 have all:∀{l:List (List Key×V)}{m:List (List Key×Addr×Value)},KT H l m->∀x∈m,(tupleKind (br P w)).is h x.1 x.2.1:=by
  intro l m q
  induction q with
  |nil=>intro x hx;exact nomatch hx
  | @cons p q ps qs hq t ih=>
   intro x hx
   rcases List.mem_cons.mp hx with e|hx
   ·subst e
    exact mz ok (by rw[<-hq.1];exact hq.2.1)
   ·exact ih x hx
 exact all r x hx
theorem JX{av:List (List Key×V)}(ok:l4 P w H h)(e:H a=some (.dT av)):av.length<=sizeLine/\(a==sysModules)=false /\
  ∃xs,KT H av xs/\h.DictOfH (tupleKind (br P w)) a xs:=r6 ok (.inl e)
end
def j4(H:Hp)(a:Addr)(y:V)(r:Option V):Prop:=
 (∃av k,Rd H a (.dK av)/\y=kV k/\r=f_ av k)\/∃av k b,Rd H a (.dT av)/\y=.ref b/\H b=some (.tup (k.map kV))/\r=f_ av k
def t4(H:Hp)(a:Addr)(y v:V)(H':Hp):Prop:=
 (∃av k,H a=some (.dK av)/\y=kV k/\av.length<sizeLine/\H'=upd H a (.dK (putK av k v))) \/
 ∃av k b,H a=some (.dT av)/\y=.ref b/\H b=some (.tup (k.map kV))/\av.length<sizeLine/\H'=upd H a (.dT (putK av k v))
theorem j4.k{H:Hp}{a:Addr}{av:List (Key×V)}{k:Key}(e:H a=some (.dK av)):j4 H a (kV k) (f_ av k):=.inl ⟨av,k,.inl e,rfl,rfl⟩
theorem j4.t{H:Hp}{a b:Addr}{av:List (List Key×V)}{k:List Key}(e:H a=some (.dT av))(eb:H b=some (.tup (k.map kV))):j4 H a (.ref b) (f_ av k):=.inr ⟨av,k,b,.inl e,rfl,eb,rfl⟩
theorem t4.k{H:Hp}{a:Addr}{av:List (Key×V)}{k:Key}{v:V}(e:H a=some (.dK av))(hl:av.length<sizeLine):t4 H a (kV k) v (upd H a (.dK (putK av k v))):=.inl ⟨av,k,e,rfl,hl,rfl⟩
theorem t4.t{H:Hp}{a b:Addr}{av:List (List Key×V)}{k:List Key}{v:V}(e:H a=some (.dT av))(eb:H b=some (.tup (k.map kV)))(hl:av.length<sizeLine) :
  t4 H a (.ref b) v (upd H a (.dT (putK av k v))):=.inr ⟨av,k,b,e,rfl,eb,hl,rfl⟩
section
variable {X:Cx}{pins:List (Addr×Obj)}{σ:St}{H:Hp}{s:Shared}{a:Addr}{y v:V}{u r:Value}{o:Option V}{A:Around}{E:Value->Shared->Prop}
theorem Inv.big(I:Inv X pins σ H s):sysModules<s.heap.objs.size:=by
 have h:mainGlobals<s.heap.objs.size:=(I.mod.glob.keeps I.bk).lt
 exact Nat.lt_trans (by decide) h
theorem CM{Q:Value->Shared->Prop}(hu:A.units+1<cLine)(I:Inv X pins σ H s)(g:j4 H a y (some v))(ry:RelV y u)(h:∀w' s',Inv X pins σ H s'->RelV v w'->Q w' s') :
  wpAny (model X.prog X.w) A (getItem (.ref a) u) Q E s:=by
 rcases g with⟨av,k,e,ey,l⟩|⟨av,k,b,e,ey,eb,l⟩
 ·subst ey
  obtain⟨z,hd,vs,rel,dd⟩:=l0 I.cg e
  obtain⟨w',hw,vN⟩:=lQ.some_of (v:=v) (o:=valueAt vs k) (by rw[l];exact rel.val k)
  exact wpAny_getItem_of (j8 ry) dd.mapOf hw (h w' _ (I.tok _) vN)
 ·subst ey
  cases (show u=Value.ref b from ry)
  obtain⟨z,hd,xs,rel,dd⟩:=r6 I.cg e
  obtain⟨w',hw,vN⟩:=lQ.some_of (v:=v) (o:=(atKey xs k).map (·.2)) (by rw[l];exact rel.val k)
  obtain⟨p,hp,Fh⟩:=Option.map_eq_some_iff.mp hw
  refine wpAny_getItem_heap (tupleKind_room_in1 hu) (mz I.cg eb) dd hp ?_
  rw[Fh]
  exact h w' _ (I.tok _) vN
theorem UM{Q:Value->Shared->Prop}(hu:A.units+1<cLine)(I:Inv X pins σ H s)(g:j4 H a y o)(ry:RelV y u)(h:∀s',Inv X pins σ H s'->Q (.bool o.isSome) s') :
  wpAny (model X.prog X.w) A (compareOp .In u (.ref a)) Q E s:=by
 rcases g with⟨av,k,e,ey,l⟩|⟨av,k,b,e,ey,eb,l⟩
 ·subst ey
  obtain⟨z,hd,vs,rel,dd⟩:=l0 I.cg e
  refine wpAny_in_of (j8 ry) hd dd.mapOf ?_
  rw[<-(rel.val k).gS,<-l]
  exact h _ (I.tok _)
 ·subst ey
  cases (show u=Value.ref b from ry)
  obtain⟨z,hd,xs,rel,dd⟩:=r6 I.cg e
  refine wpAny_in_heap (tupleKind_room_in1 hu) (mz I.cg eb) hd dd ?_
  have q:=(rel.val k).gS
  rw[Option.isSome_map] at q
  rw[<-q,<-l]
  exact h _ (I.tok _)
theorem Jc{Q:Value->Shared->Prop}(hu:A.units+1<cLine)(I:Inv X pins σ H s)(g:j4 H a y o)(ry:RelV y u)(h:∀s',Inv X pins σ H s'->Q (.bool (!o.isSome)) s') :
  wpAny (model X.prog X.w) A (compareOp .NotIn u (.ref a)) Q E s:=by
 rcases g with⟨av,k,e,ey,l⟩|⟨av,k,b,e,ey,eb,l⟩
 ·subst ey
  obtain⟨z,hd,vs,rel,dd⟩:=l0 I.cg e
  refine wpAny_notIn_of (j8 ry) hd dd.mapOf ?_
  rw[<-(rel.val k).gS,<-l]
  exact h _ (I.tok _)
 ·subst ey
  cases (show u=Value.ref b from ry)
  obtain⟨z,hd,xs,rel,dd⟩:=r6 I.cg e
  refine wpAny_notIn_heap (tupleKind_room_in1 hu) (mz I.cg eb) hd dd ?_
  have q:=(rel.val k).gS
  rw[Option.isSome_map] at q
  rw[<-q,<-l]
  exact h _ (I.tok _)
theorem lA{h':Heap}{t':Nat}{ob:HO}(I:Inv X pins σ H s)(mu:Qj (H a))(hs:Heap.SameBut a s.heap h')(he:∃q,h'.get? a=some q)(new:ez X.prog X.w (upd H a ob) h' a ob) :
  Inv X pins σ (upd H a ob) {s with heap:=h',toks:=t'}:=
 I.write (x:=a) (e:=a) mu (.inl rfl) (fun b q hb z=>(hs.2 b hb).trans z) he new
theorem ph{P:Program}{w:World}{H':Hp}{h':Heap}{av:List (Key×V)}{vs:List (Key×Value)}(z:av.length<=sizeLine)(hd:(a==sysModules)=false)(rel:KV av vs)(dd:h'.DictOf (br P w) a vs) :
  ez P w H' h' a (.dK av):=⟨z,hd,vs,rel,dd⟩
theorem CL{H':Hp}{Q:Unit->Shared->Prop}(hu:A.units+1<cLine)(I:Inv X pins σ H s)(g:t4 H a y v H')(ry:RelV y u)(rv:RelV v r)(h:∀s',Inv X pins σ H' s'->Q () s') :
  wpAny (model X.prog X.w) A (setItem (.ref a) u r) Q E s:=by
 rcases g with⟨av,k,e,ey,l,eH⟩|⟨av,k,b,e,ey,eb,l,eH⟩
 ·subst ey eH
  obtain⟨z,hd,vs,rel,dd⟩:=Bc I.cg e
  have hz:vs.length<=sizeLine:=by rw[<-rel.length];exact z
  have hl:(putK av k v).length<=sizeLine:=by have:=g_ av k v;omega
  refine wpAny_setItem_pairs (hsz:=hz) (j8 ry) dd fun h' u5 hs=>h _ ?_
  have he:∃q,h'.get? a=some q:=let ⟨q,_,_,hq,_⟩:=u5;⟨q,hq⟩
  exact lA I (by rw[e];exact True.intro) hs he (ph hl hd (rel.put k rv) u5)
 ·subst ey eH
  cases (show u=Value.ref b from ry)
  obtain⟨z,hd,xs,rel,dd⟩:=JX I.cg e
  have hz:xs.length<=sizeLine:=by rw[<-Paired.length rel];exact z
  have hl:(putK av k v).length<=sizeLine:=by have:=g_ av k v;omega
  refine wpAny_setItem_heap (hsz:=hz) (tupleKind_room_in1 hu) (mz I.cg eb) dd fun h' u5 hs=>h _ ?_
  obtain⟨q,es,ep,hq,h2,h3,h4,_,h5⟩:=u5
  refine lA I (by rw[e];exact True.intro) hs ⟨q,hq⟩ ⟨hl,hd,_,(rel.put k eb rv).keeps fun c ys ec=>?_,q,es,ep,hq,h2,h3,h4,h5⟩
  rw[aE (EW ec e (fun z=>nomatch z))]
  exact ec
end
section
variable {X:Cx}{pins:List (Addr×Obj)}{σ:St}{H:Hp}{s:Shared}{a:Addr}{av:List (Key×V)}{k:Key}{u:Value}{A:Around}{E:Value->Shared->Prop}
theorem PV{v:V}{more:List Value}{Q:Value->Shared->Prop}(I:Inv X pins σ H s)(e:H a=some (.dK av))(ry:RelV (kV k) u)(l:f_ av k=some v)(hm:more=[]\/∃x,more=[x])
  (h:∀w' s',Inv X pins σ (upd H a (.dK (lZ av k))) s'->RelV v w'->Q w' s'):wpAny (model X.prog X.w) A (call (.builtin "dict.pop") (.ref a::u::more)) Q E s:=by
 obtain⟨z,hd,vs,rel,dd⟩:=Bc I.cg e
 obtain⟨w',hw,vN⟩:=lQ.some_of (v:=v) (o:=valueAt vs k) (by rw[<-l];exact rel.val k)
 have hp:(keyPart u).isSome=true:=by
  cases k with
  |inl i=>obtain⟨t,q⟩:=(show ∃t,u=Value.int i t from ry);subst q;rfl
  |inr x=>obtain⟨t,q⟩:=(show ∃t,u=Value.str x t from ry);subst q;rfl
 have ha:argsOk "dict.pop" ⟨.ref a::u::more,[]⟩:=by
  rcases hm with q|⟨x,q⟩
  ·subst q;exact PySem.F.args_dict_pop_2 _ _
  ·subst q;exact PySem.F.args_dict_pop_3 _ _ _
 refine call_meetsIn PySem.F.slot_dict_pop dd.typeIs PySem.F.entry_dict_pop ha (meets_dict_pop_there (br X.prog X.w) a (j8 ry) more hm hp)
  ⟨vs,w',dd,by rw[<-rel.length];exact z,hw,fun h' u5 hs=>h w' _ ?_ vN⟩
 have he:∃q,h'.get? a=some q:=let ⟨q,_,_,hq,_⟩:=u5;⟨q,hq⟩
 exact lA I (by rw[e];exact True.intro) hs he (ph (Nat.le_trans (FK av k) z) hd (rel.drop k) u5)
end
def wL(i:Expr):Prop:=∀ov iv,subscripted i false ov iv=operate [ov,iv] (getItem ov iv)
theorem Au{prog:Program}{w:World}{A:Around}{E:Value->Shared->Prop}{s:Shared}{env:Env}{value slice:Expr}{pos:Pos}{T id:String}{Q:Value->Shared->Prop}
  (hl:typeLookup (.type T) "__getitem__" = pure (some (.builtin id))) (hs:wL slice)
  (h:wpAny (model prog w) A (eval value env) (fun o cJ=>wpAny (model prog w) A (eval slice env) (fun i ow=>ow.TypeIs o T/\wpAny (model prog w) A (getItem o i) Q E ow) E cJ) E s) :
  wpAny (model prog w) A (eval (.Subscript value slice pos) env) Q E s:=by
 refine Subscript_ (wpAny_mono h (fun o cJ Tf=>wpAny_mono Tf (fun i ow L0=>?_) fun _ _ x=>x) fun _ _ x=>x)
 obtain⟨hT,L0⟩:=L0
 unfold subscriptTail
 refine wpAny_bind ?_
 rw[getitemInPython_of_ne hT.not_modules]
 refine wpAny_bind (wpAny_specialOf hT hl ?_)
 have fin:wpAny (model prog w) A (subscripted slice false o i) (fun r He=>wpAny (model prog w) A (letTemporaryGo value o r >>= fun _=>pure r) Q E He) E ow:=by
  rw[hs o i]
  exact wpAny_operating (wpAny_mono L0 (fun r He Te=>wpAny_bind (wpAny_letTemporaryGo (wpAny_pure Te))) fun _ _ x=>x)
 first
  |exact wpAny_pure (wpAny_bind fin)
  |exact wpAny_bind (wpAny_pure (wpAny_bind fin))
  |exact wpAny_bind fin
theorem yl{X:Cx}{pins:List (Addr×Obj)}{σ:St}{H:Hp}{s:Shared}{a:Addr}{y:V}{o:Option V}(I:Inv X pins σ H s)(g:j4 H a y o):s.TypeIs (.ref a) "dict":=by
 rcases g with⟨av,k,e,_,_⟩|⟨av,k,b,e,_,_,_⟩
 ·obtain⟨_,_,vs,_,dd⟩:=l0 I.cg e
  exact dd.typeIs
 ·obtain⟨_,_,xs,_,dd⟩:=r6 I.cg e
  exact dd.typeIs
def Ar(td ty:TE):TE:=fun σ H Q=>td σ H fun x H1=>ty σ H1 fun y H2=>∃a v,x=.ref a/\j4 H2 a y (some v)/\Q v H2
def N7(ty td:TE):TE:=fun σ H Q=>ty σ H fun y H1=>td σ H1 fun x H2=>∃a o,x=.ref a/\j4 H2 a y o/\Q (.bl o.isSome) H2
def Aq(ty td:TE):TE:=fun σ H Q=>ty σ H fun y H1=>td σ H1 fun x H2=>∃a o,x=.ref a/\j4 H2 a y o/\Q (.bl (!o.isSome)) H2
def Ea(td ty tv:TE):TS:=fun D σ H=>tv σ H fun v H1=>td σ H1 fun x H2=>ty σ H2 fun y H3=>∃a H4,x=.ref a/\t4 H3 a y v H4/\D.nx σ H4
def We(td ty tv:TE)(rd:V->V->Hp->VK->Prop):TS:=fun D σ H=>td σ H fun x H1=>ty σ H1 fun y H2=>∃a v,x=.ref a/\j4 H2 a y (some v) /\
 tv σ H2 fun y2 H3=>rd v y2 H3 fun z H4=>∃H5,t4 H4 a y z H5/\D.nx σ H5
def Wd(td ty:TE):TS:=fun D σ H=>td σ H fun x H1=>ty σ H1 fun y H2=>∃a av k,x=.ref a/\H2 a=some (.dK av)/\y=kV k/\(f_ av k).isSome=true/\D.nx σ (upd H2 a (.dK (lZ av k)))
section
variable {X:Cx}{o i e value:Expr}{pos pos' yS:Pos}{td ty tv:TE}
theorem AJ(hu:X.A.units+1<cLine)(ho:PE X o td)(hi:PE X i ty)(hs:wL i):PE X (.Subscript o i pos) (Ar td ty):=by
 intro pins s σ H Q I h
 refine Au PySem.F.slot_dict_getitem.lookup hs (cn (ho pins s σ H _ I h) fun u s1 ⟨x,H1,I1,rx,q1⟩=>cn (hi pins s1 σ H1 _ I1 q1) fun iv s2 ⟨y,H2,I2,ry,a,v,ex,g,q2⟩=>?_)
 subst ex
 obtain rfl:u=Value.ref a:=rx
 exact⟨yl I2 g,CM hu I2 g ry fun w' s3 I3 vN=>⟨v,H2,I3,vN,q2⟩⟩
theorem Ll(hu:X.A.units+1<cLine)(hi:PE X i ty)(ho:PE X o td):PC X .In i o (N7 ty td):=by
 intro pins s σ H Q I h
 refine cn (hi pins s σ H _ I h) fun iv s1 ⟨y,H1,I1,ry,q1⟩=>cn (ho pins s1 σ H1 _ I1 q1) fun u s2 ⟨x,H2,I2,rx,a,ov,ex,g,q2⟩=>?_
 subst ex
 obtain rfl:u=Value.ref a:=rx
 exact UM hu I2 g ry fun s3 I3=>⟨.bl ov.isSome,H2,I3,rfl,q2⟩
theorem Cg(hu:X.A.units+1<cLine)(hi:PE X i ty)(ho:PE X o td):PC X .NotIn i o (Aq ty td):=by
 intro pins s σ H Q I h
 refine cn (hi pins s σ H _ I h) fun iv s1 ⟨y,H1,I1,ry,q1⟩=>cn (ho pins s1 σ H1 _ I1 q1) fun u s2 ⟨x,H2,I2,rx,a,ov,ex,g,q2⟩=>?_
 subst ex
 obtain rfl:u=Value.ref a:=rx
 exact Jc hu I2 g ry fun s3 I3=>⟨.bl (!ov.isSome),H2,I3,rfl,q2⟩
theorem AG(hu:X.A.units+1<cLine)(ho:PE X o td)(hi:PE X i ty)(hv:PE X value tv)(hs:swapsWith value (some (.Subscript o i pos')) pos.line X.env=pure false) :
  PS X (.Assign [.Subscript o i pos'] value pos) (Ea td ty tv):=by
 intro pins s σ H D I h
 refine wpAny_Assign_Subscript (cn (hv pins s σ H _ I h) fun r s1 ⟨v,H1,I1,rv,q1⟩=>cn (ho pins s1 σ H1 _ I1 q1) fun u s2 ⟨x,H2,I2,rx,q2⟩=>cn (hi pins s2 σ H2 _ I2 q2) fun iv s3 ⟨y,H3,I3,ry,a,H4,ex,g,q3⟩=>?_) hs
 subst ex
 obtain rfl:u=Value.ref a:=rx
 exact CL hu I3 g ry rv fun s4 I4=>⟨σ,H4,I4,q3⟩
end
theorem r8{P:Program}{w:World}{H:Hp}(h:Heap)(hb:sysModules<h.objs.size):ez P w H (h.push {cls:=.type "dict",data:=.dict #[]}) h.objs.size (.dK []):=
 ⟨Nat.zero_le _,beq_eq_false_iff_ne.mpr (Ne.symm (Nat.ne_of_lt hb)),[],.nil,Heap.DictOf.new h⟩
theorem FJ{P:Program}{w:World}{H:Hp}(h:Heap)(hb:sysModules<h.objs.size):ez P w H (h.push {cls:=.type "dict",data:=.dict #[]}) h.objs.size (.dT []):=
 ⟨Nat.zero_le _,beq_eq_false_iff_ne.mpr (Ne.symm (Nat.ne_of_lt hb)),[],.nil,_,#[],0,Heap.get?_push_size _ rfl,⟨rfl,rfl,rfl⟩,rfl,rfl,List.nodup_nil⟩
def Dx:TE:=fun _ H Q=>∀p,H p=none->Q (.ref p) (upd H p (.dK []))
def Sq:TE:=fun _ H Q=>∀p,H p=none->Q (.ref p) (upd H p (.dT []))
section
variable {X:Cx}{pos:Pos}
theorem EE:PE X (.Dict [] [] pos) Dx:=fun pins s σ H Q I h=>
 wpAny_Dict_empty ⟨.ref s.heap.objs.size,_,I.laid (a:=s.heap.objs.size) (o:=.dK []) (t':=s.toks) (fun _ _ q=>Heap.get?_push_of_some _ q) (Nat.le_refl _) (r8 s.heap I.big),rfl,h _ (I.cg.fresh (Nat.le_refl _))⟩
end
def yU:List (TE×TE)->St->Hp->(List (V×V)->Hp->Prop)->Prop
 | [],_,H,Q=>Q [] H
 |(tk,tv)::r,σ,H,Q=>tk σ H fun x H1=>tv σ H1 fun y H2=>yU r σ H2 fun ps H3=>Q ((x,y)::ps) H3
abbrev VV:List (V×V)->List (Value×Value)->Prop:=Paired fun p q=>RelV p.1 q.1/\RelV p.2 q.2
def Qg(X:Cx)(pos:Pos)(keys:List (Option Expr))(values:List Expr)(Ha:List (TE×TE)):Prop:=
 ∀(pins:List (Addr×Obj)) (s:Shared) (σ:St) (H:Hp) (Q:List (V×V)->Hp->Prop),Inv X pins σ H s->yU Ha σ H Q ->
  wpAny (model X.prog X.w) X.A (evalPairs (pairTrees keys values X.env pos)) (fun vs s'=>∃ps H',Inv X pins σ H' s'/\VV ps vs/\Q ps H') X.xe s
theorem HU{X:Cx}{pos:Pos}:Qg X pos [] [] []:=fun pins s σ H Q I h=>pairTrees_nil_walk ⟨[],H,I,.nil,h⟩
theorem Ey{X:Cx}{pos:Pos}{k v:Expr}{ks:List (Option Expr)}{vs:List Expr}{tk tv:TE}{Ha:List (TE×TE)}(hk:PE X k tk)(hv:PE X v tv)(hr:Qg X pos ks vs Ha) :
  Qg X pos (some k::ks) (v::vs) ((tk,tv)::Ha):=fun pins s σ H Q I h=>
 pairTrees_cons_walk (cn (hk pins s σ H _ I h) fun u s1 ⟨x,H1,I1,rx,q1⟩=>cn (hv pins s1 σ H1 _ I1 q1) fun w2 s2 ⟨y,H2,I2,ry,q2⟩=>
  cn (hr pins s2 σ H2 _ I2 q2) fun ws s3 ⟨ps,H3,I3,rel,q3⟩=>⟨(x,y)::ps,H3,I3,.cons ⟨rx,ry⟩ rel,q3⟩)
def oT(av more:List (Key×V)):List (Key×V):=more.foldl (fun acc kv=>putK acc kv.1 kv.2) av
theorem KV.merge:∀{more:List (Key×V)}{rs:List (Key×Value)}{av:List (Key×V)}{vs:List (Key×Value)},KV more rs->KV av vs->KV (oT av more) (merged vs rs):=by
 intro more rs av vs r
 unfold KV at r
 induction r generalizing av vs with
 |nil=>intro q;exact q
 | @cons p q ps qs h t ih=>
  intro r0
  have e:KV (putK av p.1 p.2) (stored vs q.1 q.2):=by
   have:=r0.put p.1 h.2
   rw[<-h.1];exact this
  exact ih e
theorem lW:∀(more av:List (Key×V)),(oT av more).length<=av.length+more.length
 | [],av=>by show av.length<=av.length+0;omega
 |p::r,av=>by
  have h1:=lW r (putK av p.1 p.2)
  have h2:=g_ av p.1 p.2
  show(oT (putK av p.1 p.2) r).length<=_
  rw[List.length_cons];omega
theorem sr{P:Program}{w:World}:∀{av:List (Key×V)}{ws:List (Value×Value)},VV (av.map fun kv=>(kV kv.1,kv.2)) ws->∃rs,Carries (br P w) ws rs/\KV av rs
 | [],_,r=>by rw[List.map_nil] at r;cases r;exact⟨[],True.intro,.nil⟩
 |p::av,_,r=>by
  rw[List.map_cons] at r
  cases r with
  | @cons a b as bs h t=>
   obtain⟨rs,c,q⟩:=sr (P:=P) (w:=w) t
   obtain⟨b1,b2⟩:=b
   exact⟨(p.1,b2)::rs,⟨j8 h.1,rfl,c⟩,.cons ⟨rfl,h.2⟩ q⟩
def Js(Ha:List (TE×TE)):TE:=fun σ H Q=>∀p,H p=none->yU Ha σ (upd H p (.dK [])) fun ps H2=>H2 p=some (.dK [])/\∃av:List (Key×V),ps=av.map (fun kv=>(kV kv.1,kv.2))/\av.length<=15/\Q (.ref p) (upd H2 p (.dK (oT [] av)))
theorem Ie{X:Cx}{pos:Pos}{keys:List (Option Expr)}{values:List Expr}{Ha:List (TE×TE)}(h:Qg X pos keys values Ha)(Fv:keys.all (·.isSome)=true)(hl:keys.length=values.length)(h0:keys≠[])
  (h15:keys.length<=15):PE X (.Dict keys values pos) (Js Ha):=by
 intro pins s σ H Q I q
 have hn:=I.cg.fresh (Nat.le_refl s.heap.objs.size)
 have I1:=I.laid (a:=s.heap.objs.size) (o:=.dK []) (h':=s.heap.push {cls:=.type "dict",data:=.dict #[]}) (t':=s.toks) (fun _ _ q=>Heap.get?_push_of_some _ q) (Nat.le_refl _) (r8 s.heap I.big)
 refine wpAny_Dict_walk (knd:=br X.prog X.w) Fv hl h0 h15 (cn (h pins _ σ _ _ I1 (q _ hn)) fun ws s2 ⟨ps,H2,I2,rel,e,av,ep,lk,q2⟩=>?_)
 subst ep
 obtain⟨rs,c,rk⟩:=sr (P:=X.prog) (w:=X.w) rel
 obtain⟨z,hd,NU,r0,dd⟩:=Bc I2.cg e
 cases r0
 refine⟨rs,c,dd,fun h' u5 hs=>⟨.ref s.heap.objs.size,_,?_,rfl,q2⟩⟩
 have hz:(oT [] av).length<=sizeLine:=by
  have h1:=lW av []
  rw[List.length_nil] at h1
  rw[sizeLine_eq];omega
 have he:∃q,h'.get? s.heap.objs.size=some q:=let ⟨q,_,_,hq,_⟩:=u5;⟨q,hq⟩
 exact lA I2 (by rw[e];exact True.intro) hs he (ph hz hd (rk.merge .nil) u5)
structure M1(X:Cx)(o:Expr)(m:Str)(apos:Pos)(e:Expr)(bD:Pos):Prop where
 base:attributeBase o m X.env (eval o X.env)=eval o X.env
 Uz:((backTo bD (starEach [e] X.env)).all (fun x=>!x.1)&&(backToKw bD (keywordEach [] X.env)).all (fun x=>x.1.isSome)
  && decide (([e]:List Expr).length+([]:List Keyword).length+(if ([]:List Keyword).isEmpty then 0 else 1)<30))=true
 line:(apos.endLine==bD.line)=true
 trees:backTo bD (starEach [e] X.env)=[(false,eval e X.env)]
structure M2(X:Cx)(o:Expr)(m:Str)(apos:Pos)(e f:Expr)(bD:Pos):Prop where
 base:attributeBase o m X.env (eval o X.env)=eval o X.env
 Uz:((backTo bD (starEach [e,f] X.env)).all (fun x=>!x.1)&&(backToKw bD (keywordEach [] X.env)).all (fun x=>x.1.isSome)
  && decide (([e,f]:List Expr).length+([]:List Keyword).length+(if ([]:List Keyword).isEmpty then 0 else 1)<30))=true
 line:(apos.endLine==bD.line)=true
 trees:backTo bD (starEach [e,f] X.env)=[(false,eval e X.env),(false,eval f X.env)]
def MN(H:Hp)(a:Addr):Prop:=(∃av,Rd H a (.dK av))\/∃av,Rd H a (.dT av)
theorem wd{X:Cx}{pins:List (Addr×Obj)}{σ:St}{H:Hp}{s:Shared}{a:Addr}(I:Inv X pins σ H s)(d:MN H a) :
  s.TypeIs (.ref a) "dict"/\(∀b,Value.ref a=.ref b->∃ob,s.heap.get? b=some ob/\ob.dict=none)/\(a==sysModules)=false:=by
 rcases d with⟨av,e⟩|⟨av,e⟩
 ·obtain⟨_,hd,vs,_,dd⟩:=l0 I.cg e
  refine⟨dd.typeIs,fun b q=>?_,hd⟩
  cases q
  obtain⟨ob,_,_,h1,h2,_⟩:=dd
  exact⟨ob,h1,h2.2.1⟩
 ·obtain⟨_,hd,xs,_,dd⟩:=r6 I.cg e
  refine⟨dd.typeIs,fun b q=>?_,hd⟩
  cases q
  obtain⟨ob,_,_,h1,h2,_⟩:=dd
  exact⟨ob,h1,h2.2.1⟩
section
variable {X:Cx}{pins:List (Addr×Obj)}{σ:St}{H:Hp}{s:Shared}{a:Addr}{y d:V}{u r:Value}{o:Option V}{A:Around}{E:Value->Shared->Prop}
theorem ME{Q:Value->Shared->Prop}(hu:A.units+1<cLine)(I:Inv X pins σ H s)(g:j4 H a y o)(ry:RelV y u)(rd:RelV d r)(h:∀w' s',Inv X pins σ H s'->RelV (o.getD d) w'->Q w' s') :
  wpAny (model X.prog X.w) A (call (.builtin "dict.get") [.ref a,u,r]) Q E s:=by
 rcases g with⟨av,k,e,ey,l⟩|⟨av,k,b,e,ey,eb,l⟩
 ·subst ey
  obtain⟨z,hd,vs,rel,dd⟩:=l0 I.cg e
  refine call_meetsIn PySem.F.slot_dict_get dd.typeIs PySem.F.entry_dict_get (PySem.F.args_dict_get_3 _ _ _) (meets_dict_get_default (br X.prog X.w) a (j8 ry) hd r) ⟨_,dd.mapOf,h _ _ (I.tok _) ?_⟩
  rw[l]
  exact(rel.val k).getD rd
 ·subst ey
  cases (show u=Value.ref b from ry)
  obtain⟨z,hd,xs,rel,dd⟩:=r6 I.cg e
  refine call_meetsIn PySem.F.slot_dict_get dd.typeIs PySem.F.entry_dict_get (PySem.F.args_dict_get_3 _ _ _) (meetsH_dict_get_default (tupleKind (br X.prog X.w)) a b hd r) ⟨tupleKind_room_in1 hu,k,xs,mz I.cg eb,dd,h _ _ (I.tok _) ?_⟩
  rw[l]
  exact(rel.val k).getD rd
end
def Sr(td ty:TE):TE:=fun σ H Q=>td σ H fun x H1=>∃a,x=.ref a/\MN H1 a/\ty σ H1 fun y H2=>∃o,j4 H2 a y o/\Q (o.getD .bH) H2
def Dy(td ty tx:TE):TE:=fun σ H Q=>td σ H fun x H1=>∃a,x=.ref a/\MN H1 a/\ty σ H1 fun y H2=>tx σ H2 fun z H3=>∃o,j4 H3 a y o/\Q (o.getD z) H3
def Dw(td ty:TE):TE:=fun σ H Q=>td σ H fun x H1=>∃a,x=.ref a/\MN H1 a/\ty σ H1 fun y H2=>∃av k v,H2 a=some (.dK av)/\y=kV k/\f_ av k=some v/\Q v (upd H2 a (.dK (lZ av k)))
def So(td ty tx:TE):TE:=fun σ H Q=>td σ H fun x H1=>∃a,x=.ref a/\MN H1 a/\ty σ H1 fun y H2=>tx σ H2 fun z H3=>∃av k,H3 a=some (.dK av)/\y=kV k /\
 (∀v,f_ av k=some v->Q v (upd H3 a (.dK (lZ av k))))/\(f_ av k=none->Q z H3)
section
variable {X:Cx}{o e f:Expr}{apos bD:Pos}{td ty tx:TE}
theorem EF(hu:X.A.units+1<cLine)(ho:PE X o td)(he:PE X e ty)(hf:PE X f tx)(m:M2 X o "get" apos e f bD):PE X (.Call (.Attribute o "get" apos) [e,f] [] bD) (Dy td ty tx):=by
 intro pins s σ H Q I h
 refine wpAny_Call_method m.base m.Uz m.line PySem.F.plainAttrs_dict PySem.F.slot_dict_get PySem.F.type_dict_get (cn (ho pins s σ H _ I h) fun u s1 ⟨x,H1,I1,rx,a,ex,d,q1⟩=>?_)
 subst ex
 obtain rfl:u=Value.ref a:=rx
 obtain⟨t1,t2,_⟩:=wd I1 d
 refine⟨t1,t2,?_⟩
 rw[m.trees]
 refine Calls.callWith_builtin rfl (Calls.evalArgs_plain (Calls.spliced_cons (cn (he pins s1 σ H1 _ I1 q1) fun iv s2 ⟨y,H2,I2,ry,q2⟩=>
  Calls.spliced_cons (cn (hf pins s2 σ H2 _ I2 q2) fun fv s3 ⟨z,H3,I3,rz,ov,g,q3⟩=>Calls.spliced_nil ?_))))
 exact ME hu I3 g ry rz fun w' s4 I4 vN=>⟨_,H3,I4,vN,q3⟩
theorem ED(ho:PE X o td)(he:PE X e ty)(m:M1 X o "pop" apos e bD):PE X (.Call (.Attribute o "pop" apos) [e] [] bD) (Dw td ty):=by
 intro pins s σ H Q I h
 refine wpAny_Call_method m.base m.Uz m.line PySem.F.plainAttrs_dict PySem.F.slot_dict_pop PySem.F.type_dict_pop (cn (ho pins s σ H _ I h) fun u s1 ⟨x,H1,I1,rx,a,ex,d,q1⟩=>?_)
 subst ex
 obtain rfl:u=Value.ref a:=rx
 obtain⟨t1,t2,_⟩:=wd I1 d
 refine⟨t1,t2,?_⟩
 rw[m.trees]
 refine Calls.callWith_builtin rfl (Calls.evalArgs_plain (Calls.spliced_cons (cn (he pins s1 σ H1 _ I1 q1) fun iv s2 ⟨y,H2,I2,ry,av,k,v,ea,ey,l,q2⟩=>Calls.spliced_nil ?_)))
 subst ey
 exact PV I2 ea ry l (.inl rfl) fun w' s3 I3 vN=>⟨v,_,I3,vN,q2⟩
end
section
variable {X:Cx}{pins:List (Addr×Obj)}{σ:St}{H:Hp}{s:Shared}{a:Addr}{av:List (Key×V)}{A:Around}{E:Value->Shared->Prop}
theorem FP{Q:Value->Shared->Prop}(I:Inv X pins σ H s)(e:Rd H a (.dK av))(h:∀p s',H p=none->Inv X pins σ (upd H p (.dK av)) s'->Q (.ref p) s'):wpAny (model X.prog X.w) A (call (.type "dict") [.ref a]) Q E s:=by
 obtain⟨z,hd,vs,rel,dd⟩:=l0 I.cg e
 refine kt_call_dict hd dd (by rw[<-rel.length];exact z) fun h' u5 hs=>?_
 refine h _ _ (I.cg.fresh (Nat.le_refl _)) (I.laid (a:=s.heap.objs.size) (o:=.dK av) (t':=s.toks) (fun b q hq=>?_) (Nat.le_refl _) (ph z (beq_eq_false_iff_ne.mpr (Ne.symm (Nat.ne_of_lt I.big))) rel u5))
 exact(hs.2 b (Nat.ne_of_lt (Heap.lt_size hq))).trans (Heap.get?_push_of_some _ hq)
end
section
variable {X:Cx}{pins:List (Addr×Obj)}{σ:St}{H:Hp}{s:Shared}{a:Addr}{y:V}{u:Value}{A:Around}{E:Value->Shared->Prop}
end
end L2
namespace Yu
open PySem PySem.W PySem.Calls PyProof.Rows
theorem qd{P:Params}{h:Heap}:∀(ns:List Int) (vs:List Value),WellAll P h vs (ns.map WData.int)->IntsAre vs ns:=by
 intro ns
 induction ns with
 |nil=>
  intro vs w
  rw[List.map_nil] at w
  cases w
  exact .nil
 |cons n ns ih=>
  intro vs w
  rw[List.map_cons] at w
  cases w with
  |cons a b=>
   cases a
   exact .cons _ _ (ih _ b)
theorem B6{l:OpenLaw}{n:Nat}(hn:l.most=some n){P:Params}{h:Heap}{args:List WData}{vals:List Value}
  (tR:l.row.toRowW.claim.pre args=true) (Rr:WellAll P h vals args) :
  ∃a vs ns,vals=[Value.ref a]/\args=[WData.list (ns.map WData.int)]/\h.get? a=some {cls:=.type "list",data:=.seq vs.toArray}/\IntsAre vs ns/\ns.length<=n:=by
 have hsh:WShape.hasAll [] args [.list .int]=true:=(pre_splitW tR).1
 have hc:l.pre.holds [] {args:=args}=true:=(pre_splitW tR).2
 obtain⟨d,r,rfl,h1,h2⟩:=hasAllW_cons hsh
 obtain rfl:=hasAllW_nil h2
 obtain⟨xs,rfl,h3⟩:=hasW_list h1
 obtain⟨ns,rfl⟩:=items_int h3
 have hlen:ns.length<=n:=by
  unfold OpenLaw.pre at hc
  have h4:(WTm.not (.lt (.lit (.int (n:Int))) (.len (.arg 0)))).holds [] {args:=[.list (ns.map .int)]}=true:=by
   have h4:=(holds_andW hc).1
   rw[hn] at h4
   exact h4
  have h5:=condW_of h4 (w_not (w_lt w_lit (w_len_list (w_arg rfl))))
  rw[List.length_map] at h5
  refine Nat.le_of_not_lt fun q=>?_
  have q':(n:Int)<((ns.length:Nat):Int):=by omega
  first
   |(rw[decide_eq_true q'] at h5;exact absurd h5 (by decide))
   |(simp at h5;omega)
 cases Rr with
 |cons w1 w2=>
  cases w2
  cases w1 with
  |list ho Fv=>exact⟨_,_,ns,rfl,rfl,ho,qd ns _ Fv,hlen⟩
theorem Cc(l:OpenLaw)(args:List WData):l.row.toRowW.claim.post args (.bool true) args=true:=
 postW_of (r:=l.row.toRowW) (X:=(true==true))
  (show WShape.has [] (.bool true) .bool=true by first|rfl|decide|simp[WShape.has,WShape.arms,WShape.armsAll])
  (show(WTm.eq .res (.lit (.bool true))).value [] {args:=args,res:=some (.bool true),after:=args}=some (.bool (true==true)) from w_eq_bool (w_res rfl) w_lit) rfl
theorem yt{l:OpenLaw}{n:Nat}{q:Program}{loose:List Str}{XP:(Str->Option Value)->Heap->Prop}{YP:World->Heap->Prop}{d:DefRec}
  (hn:l.most=some n) (tS:d.params.defaults=[])
  (call:∀(w:World) (h_ cJ:Shared) (mg mb:Str->Option Value) (fa:Addr) (o:Obj) (pm cd doc:Value) (a:Addr) (vs:List Value) (ns:List Int),
   Ground q loose [] XP w h_ mg mb cJ.heap->YP w cJ.heap ->
   cJ.heap.get? fa=some o->o.data=.func (docDef d.name d.params d.body d.scope pm cd doc)->cJ.heap.CodeRec cd d.name->mg d.name=some (.ref fa) ->
   cJ.heap.get? a=some {cls:=.type "list",data:=.seq vs.toArray}->IntsAre vs ns->ns.length<=n->cJ.gens = #[] ->
   codeAny (model l.prog w) callerA (.call (.ref fa) ⟨[.ref a],[]⟩) (fun r s'=>r=.ok (.ret (.bool true))/\OldK cJ.heap s'.heap/\s'.os=cJ.os/\AllBare s'.gens) cJ) :
  WalkO q loose XP YP l.row.toRowW d [] (fun f vs=>PySem.call f vs):=by
 intro w h_ cJ mg mb G Y fa o pm cd doc dV kV ho hd fu hD Pe hg args vals as tR aaV hrd Rr hlo
 obtain rfl:dV=.none:=Dflts.none hD tS
 obtain rfl:kV=.none:=Dflts.noKw hD
 obtain⟨a,vs,ns,rfl,rfl,Ma,hints,hlen⟩:=B6 hn tR Rr
 refine enter_call (codeAny_mono (call w h_ cJ mg mb fa o pm cd doc a vs ns G Y ho (fd_plain hd) fu Pe Ma hints hlen hg) fun r s' hq=>?_)
 obtain⟨rfl,h2,h3,h4⟩:=hq
 exact⟨.inl ⟨.bool true,.bool true,[],rfl,fun _=>rfl,.bool true,Cc l _,fun _=>⟨List.Pairwise.nil,fun _ hm=>(nomatch hm)⟩⟩,h2,h3,h4⟩
section
variable {prog:Program}{w:World}{A:Around}{E:Value->Shared->Prop}{s:Shared}{K:Frag}
def S2(h:Heap):Heap:={h with objs:=#[]}
def ledger(h:Heap)(L d:Addr):List (Addr×Obj):=(List.range h.objs.size).filterMap fun a=>if a=L\/a=d then none else(h.get? a).map fun o=>(a,o)
end
end Yu
namespace L2
open PySem PySem.Spec PyProof.Rows
theorem t9:∀{vs:List Value}{ns:List Int},IntsAre vs ns->Vals (ns.map V.int) vs
 |_,_,.nil=>.nil
 |_,_,.cons n t h=>.cons ⟨t,rfl⟩ (t9 h)
def MM(H:Hp):Prop:=∀b,H b=none\/∃o xs,H b=some (.aU o (.lst xs))
theorem E4{P:Program}{w:World}{K:PySem.W.Frag}{mg mb:Str->Option Value}{CX:CT}{k:Nat}{fa a:Addr}{fd:FuncData}{x:Str}{sp:Sp}{cJ:Shared}{vs:List Value}{ns:List Int}
  (KX:K.In cJ.heap) (Rz:cJ.heap.Ns mainGlobals mg) (hb:cJ.heap.Ns builtinsNs mb) (uS:∀x:Str,x≠"__name__"->mb x=bootBuiltins x) (TZ:cJ.heap.NoLimit) (hg:cJ.gens = #[])
  (ha:cJ.heap.get? a=some {cls:=.type "list",data:=.seq vs.toArray}) (hi:IntsAre vs ns) (hl:ns.length<=sizeLine) (hr:dS k callerA)
  (F:∀base:Heap,K.In base->base.Ns mainGlobals mg->cA P w K mg base CX k fa fd [x] sp) (Pt:∀(s:Shared) (u:Value),BindsTo s fd ⟨[u],[]⟩ [(x,u)])
  (JN:∀H:Hp,MM H->ju K H a (ns.map V.int)->sp [.ref a] H (fun v _=>v=.bl true) fun _ _ _=>False)
  (Ur:∀H e s',CX [] H cJ (fun _ _ _=>False) e s'->False) :
  codeAny (model P w) callerA (.call (.ref fa) ⟨[.ref a],[]⟩) (fun r s'=>r=.ok (.ret (.bool true))/\OldK cJ.heap s'.heap/\s'.os=cJ.os/\AllBare s'.gens) cJ:=by
 have rv:=t9 hi
 have S9:=hi.length
 have core:∀H:Hp,MM H->ju K H a (ns.map V.int)->l4 P w H cJ.heap->(∀b,H b≠none->b=a)->(H a≠none->K.lookup a=none) ->
   codeAny (model P w) callerA (.call (.ref fa) ⟨[.ref a],[]⟩) (fun r s'=>r=.ok (.ret (.bool true))/\OldK cJ.heap s'.heap/\s'.os=cJ.os/\AllBare s'.gens) cJ:=by
  intro H hO hS cg hA hK
  have Bi:∀{b:Addr}{o:Obj},cJ.heap.get? b=some o->H b=none->(wg cJ.heap H).get? b=some o:=fun e n=>Fn e n
  have OB:∀{b:Addr}{o:Obj}{es:Array DictEntry}{ep:Nat},cJ.heap.get? b=some o->o.data=.dict es ep->H b=none:=fun{b o es ep} e d=>by
   cases q:H b with
   |none=>rfl
   |some u=>
    have e':b=a:=hA b (by rw[q];simp)
    subst e'
    rw[ha] at e;cases e
    have d':Data.seq vs.toArray _=Data.dict es ep:=d
    cases d'
  have Rj:∀{b:Addr}{m:Str->Option Value},cJ.heap.Ns b m->(wg cJ.heap H).Ns b m:=fun{b m} ⟨o,es,ep,e,d,r⟩=>⟨o,es,ep,Bi e (OB e d),d,r⟩
  have Xd:K.In (wg cJ.heap H):=fun b o e=>Bi (KX b o e) (by
   cases q:H b with
   |none=>rfl
   |some u=>
    have e':b=a:=hA b (by rw[q];simp)
    subst e'
    rw[hK (by rw[q];simp)] at e;cases e)
  have hM:Mod K mg (wg cJ.heap H):=⟨Xd,Rj Rz,⟨mb,Rj hb,uS⟩,let ⟨mc,h1,h2⟩:=TZ;⟨mc,Rj h1,h2⟩⟩
  have e0:tZ P w K mg (wg cJ.heap H) callerA [] cJ H:=⟨rfl,hM,fun b o e=>Iu e,Nat.le_of_eq (CC _ _),trivial,fun b hb=>absurd (show b∈([]:List Addr) from hb) (by simp),cg,.of_eq hg⟩
  refine codeAny_mono ((F _ Xd (Rj Rz)).run callerA [] cJ H ⟨[.ref a],[]⟩ [.ref a] [.ref a] _ _ hr e0 (Pt cJ (.ref a)) (.cons rfl .nil) (JN H hO hS)) fun r s' h=>?_
  cases r with
  |error e=>exact(Ur H e s' h).elim
  |ok fl=>
   cases fl with
   |next=>exact False.elim h
   |brk=>exact False.elim h
   |cont=>exact False.elim h
   |ret u=>
    obtain⟨v,H',os,bare,un,TN,r',q⟩:=h
    have q':v=.bl true:=q
    subst q'
    obtain rfl:u=Value.bool true:=r'
    refine⟨rfl,OldK.of_keep fun b o e=>?_,os,bare⟩
    cases q:H b with
    |none=>exact un.keep b o e q (by intro z;exact absurd (show b∈([]:List Addr) from z) (by simp)) (by simp)
    |some u=>
     rcases hO b with z|⟨ob,xs,z⟩
     ·rw[q] at z;cases z
     ·have z2:=un.mB b ob _ z
      obtain⟨e1,_⟩:=cg b _ z
      obtain⟨e2,_⟩:=TN b _ z2
      rw[e] at e1;cases e1
      exact e2
 cases hk:K.lookup a with
 |some o=>
  have e:=KX a o hk
  rw[ha] at e
  cases e
  refine core (fun _=>none) (fun _=>.inl rfl) (.inr ⟨_,vs.toArray,_,hk,rfl,rfl,rfl,by rw[List.size_toArray,S9];exact hl,by simpa using rv⟩) (fun b u z=>by have z':(none:Option HO)=some u:=z;cases z') (fun b z=>absurd rfl z) fun z=>absurd rfl z
 |none=>
  refine core (fun b=>if b=a then some (.aU {cls:=.type "list",data:=.seq vs.toArray} (.lst (ns.map V.int))) else none) (fun b=>?_) (.inl (.inr ⟨{cls:=.type "list",data:=.seq vs.toArray},if_pos rfl⟩)) (fun b u z=>?_) (fun b z=>?_) fun _=>hk
  ·by_cases hb:b=a
   ·exact .inr ⟨_,_,if_pos hb⟩
   ·exact .inl (if_neg hb)
  ·by_cases hb:b=a
   ·have z':=(if_pos hb).symm.trans z
    cases z'
    subst hb
    exact⟨ha,by rw[List.length_map];exact hl,vs,_,rv,ha⟩
   ·have z':=(if_neg hb).symm.trans z
    cases z'
  ·by_cases hb:b=a
   ·exact hb
   ·exact absurd (if_neg hb) z
end L2
namespace L2
open PySem PySem.Spec PyProof.Rows
abbrev KOf{K:PySem.W.Frag}{h:Heap}(_:K.In h):PySem.W.Frag:=K
theorem GA{l:PySem.W.OpenLaw}{n k:Nat}{q:Program}{loose:List Str}{XP:(Str->Option Value)->Heap->Prop}{YP:World->Heap->Prop}{d:DefRec}{K:Params->PySem.W.Frag}{CX:World->CT}{sp:World->Sp}{x:Str}
  (hn:l.most=some n) (RA:n<=sizeLine) (tS:d.params.defaults=[]) (hr:dS k callerA)
  (hY:∀(w:World) (h:Heap),YP w h->(K w.params).In h)
  (F:∀(w:World) (mg:Str->Option Value) (fa:Addr) (h:Heap),(K w.params).In h->h.Ns mainGlobals mg->mg d.name=some (.ref fa) ->
   ∃fd:FuncData,(∀(s:Shared) (u:Value),BindsTo s fd ⟨[u],[]⟩ [(x,u)]) /\
    ∀base:Heap,(K w.params).In base->base.Ns mainGlobals mg->cA l.prog w (K w.params) mg base (CX w) k fa fd [x] (sp w))
  (JN:∀(w:World) (H:Hp) (a:Addr) (ns:List Int),ns.length<=n->MM H->ju (K w.params) H a (ns.map V.int)->sp w [.ref a] H (fun v _=>v=.bl true) fun _ _ _=>False)
  (Ur:∀(w:World) (H:Hp) (s:Shared) (e:Value) (s':Shared),CX w [] H s (fun _ _ _=>False) e s'->False) :
  PySem.W.WalkO q loose XP YP l.row.toRowW d [] (fun f vs=>PySem.call f vs):=by
 refine Yu.yt hn tS fun w h_ cJ mg mb fa o pm cd doc a vs ns G Y ho hd fu Pe Ma hints hlen hg=>?_
 have KX:=hY w _ Y
 obtain⟨fd,hb,hF⟩:=F w mg fa _ KX G.T.g Pe
 exact E4 KX G.T.g G.T.b G.T.builtins G.T.nolimit hg Ma hints (Nat.le_trans hlen RA) hr hF hb (fun H hO hS=>JN w H a ns hlen hO hS) fun H e s'=>Ur w H cJ e s'
end L2
/- THE acU RM (shape;LID,My.* are VF):
  My.Adr: a structure of the addresses that Yx Wu names (classes,Nt);My.Txt K t: a structure (Prop) of the equations over K;
  My.Sj:{K}{implicit addresses ..} (e1:nsIn K mainGlobals "law" = some (some (.ref f))) (e2:K.lookup f=some ⟨oc,od,.func (fnOf "law" "law" params body scope dV kV doc pm an eE ct),sl⟩) (e3:codeIn K eE "law" = true) ..:∃t,My.Txt K t
set_option maxRecDepth 100000 in
set_option maxHeartbeats 0 in
(the tactic k_is has no namespace: write k_is) -/
namespace L2
open PySem PySem.Spec PyProof.Rows
def inClass(s:Stmt)(j:Nat):Stmt:=match s with
 | .ClassDef _ _ _ body _ _ _ _ _ _ _=>body.getD j (.Pass ⟨0,0,0,0⟩)
 |_=>.Pass ⟨0,0,0,0⟩
def i4(s:Stmt):Arguments:=match s with
 | .FunctionDef _ a _ _ _ _ _ _ _ _=>a
 |_=>{posonlyargs:=[],args:=[],vararg:=none,kwonlyargs:=[],kw_defaults:=[],kwarg:=none,defaults:=[]}
def g6(s:Stmt):List Stmt:=match s with
 | .FunctionDef _ _ b _ _ _ _ _ _ _=>b
 |_=>[]
def ay(s:Stmt):Scope:=match s with
 | .FunctionDef _ _ _ _ _ _ sc _ _ _=>sc
 |_=>{kind:=.function,names:=[],isGenerator:=false,isCoroutine:=false}
abbrev iy:CT:=fun _ _ _ _ _ _=>False
abbrev E0:XK:=fun _ _ _=>False
theorem JC{X:Cx}:Passes iy X E0:=fun _ _ _ _ _ _ _ h=>h.elim
structure iQ(K:PySem.W.Frag)(x qual:Str)(st:Stmt)(f:Addr)(fd:FuncData):Prop where
 ex:∃(oc:Value) (od:Option Addr) (kV doc pm:Value) (an:Option Addr) (eE ct:Value) (JE:Array (Option Value)),
  fd=PySem.W.fnOf x qual (i4 st) (g6 st) (ay st) .none kV doc pm an eE ct/\K.lookup f=some ⟨oc,od,.func fd,JE⟩/\PySem.W.codeIn K eE qual=true
 kp:PySem.W.keepIn K (.ref f)=true
section
variable {P:Program}{w:World}{K:PySem.W.Frag}{mg:Str->Option Value}{base:Heap}
theorem iQ.ok{x qual:Str}{st:Stmt}{f:Addr}{fd:FuncData}{N ps:List Str}{k:Nat}{sp:Sp}(F:iQ K x qual st f fd)(S:aL N ps (ay st))(len:∀vs H Q E,sp vs H Q E->vs.length=ps.length)
  (Fs:∀(eE:Value) (A:Around) (outer:List Env) (s:Shared) (H:Hp) (vs:List V) (Q:VK) (E:XK),dS k (A.deeper (envOfC qual (ay st) s.heap.objs.size f eE))->sp vs H Q E ->
   ∃t,Ad (zZ iy P w K mg base N qual (ay st) f eE A outer s H E).yE (g6 st) t/\t {nx:=fun _ H'=>Q .bH H',rt:=Q} (start N vs) H):cA P w K mg base iy (k+1) f fd ps sp:=by
 obtain⟨oc,od,kV,doc,pm,an,eE,ct,JE,rfl,lk,fu⟩:=F.ex
 refine PB lk fu S len fun A outer s H vs Q E hr JN=>?_
 obtain⟨t,h,q⟩:=Fs eE A outer s H vs Q E hr JN
 exact⟨t,h.yE,q⟩
theorem iQ.binds{x qual:Str}{st:Stmt}{f:Addr}{fd:FuncData}{ps:List Str}(F:iQ K x qual st f fd)
  (h:∀(kV doc pm:Value) (an:Option Addr) (eE ct:Value) (us:List Value),us.length=ps.length->bindArgs (PySem.W.fnOf x qual (i4 st) (g6 st) (ay st) .none kV doc pm an eE ct) ⟨us,[]⟩=pure (ps.zip us)):Binds K fd ps []:=by
 obtain⟨oc,od,kV,doc,pm,an,eE,ct,JE,rfl,lk,fu⟩:=F.ex
 exact .all (h kV doc pm an eE ct)
theorem Mn{x qual:Str}{st:Stmt}{f:Addr}{oc:Value}{od an:Option Addr}{JE:Array (Option Value)}{kV doc pm eE ct:Value}(l:K.lookup f=some ⟨oc,od,.func (PySem.W.fnOf x qual (i4 st) (g6 st) (ay st) .none kV doc pm an eE ct),JE⟩)
  (c:PySem.W.codeIn K eE qual=true) (k:PySem.W.keepIn K (.ref f)=true):iQ K x qual st f (PySem.W.fnOf x qual (i4 st) (g6 st) (ay st) .none kV doc pm an eE ct):=⟨⟨oc,od,kV,doc,pm,an,eE,ct,JE,rfl,l,c⟩,k⟩
end
theorem OT{A:Around}{k:Nat}(hr:dS k A):A.units+1<cLine:=Nat.lt_of_le_of_lt (Nat.add_le_add_left (by decide:1<=64) _) hr.units
section
variable {X:Cx}
end
def ck(H H':Hp):Prop:=∀b o,H b=some o->H' b=some o
theorem ck.refl(H:Hp):ck H H:=fun _ _ h=>h
theorem ck.trans{H H1 H2:Hp}(a:ck H H1)(b:ck H1 H2):ck H H2:=fun c o h=>b c o (a c o h)
theorem ck.free{H H':Hp}(e:ck H H'){l:Addr}(h:H' l=Option.none):H l=Option.none:=by
 cases q:H l with
 |none=>rfl
 |some o=>
  rw[e l o q] at h
  cases h
theorem ck.seq{K:PySem.W.Frag}{H H':Hp}{a:Addr}{xs:List V}(e:ck H H')(h:ju K H a xs):ju K H' a xs:=by
 rcases h with(h|⟨o,h⟩)|h
 ·exact .inl (.inl (e _ _ h))
 ·exact .inl (.inr ⟨o,e _ _ h⟩)
 ·exact .inr h
section
variable {κ:Type} [DecidableEq κ]
end
end L2
section
namespace L2
open PySem PySem.Spec PyProof.Rows
def vg(i j:Int):Prop:=0<j/\j.natAbs.log2<9000
section
variable {X:Cx}
theorem xH:jv X (binaryOp .FloorDiv) (rI vg fun i j=>.int (i / j)):=Rh fun i j _ _ _ _ _ hc q=>by
 have h1:(0:Int)<j:=hc.1
 exact floordiv_int (by omega) (by rw[Int.fdiv_eq_ediv_of_nonneg i (by omega)];exact q) (.inl (PyProof.noPylong_of_log2 hc.2))
end
mutual
def DA(K:PySem.W.Frag)(H:Hp):PyData->V->Prop
 | .none,v=>v=.bH
 | .bool b,v=>v=.bl b
 | .int i,v=>v=.int i
 | .str x,v=>v=.str x
 | .list ds,v=>∃a xs,v=.ref a/\ju K H a xs/\sP K H ds xs
 | .tuple ds,v=>∃a xs,v=.ref a/\pA K H a xs/\sP K H ds xs
 | .dict _,_=>False
def sP(K:PySem.W.Frag)(H:Hp):List PyData->List V->Prop
 | [],xs=>xs=[]
 |d::ds,xs=>∃x r,xs=x::r/\DA K H d x/\sP K H ds r
end
section
variable {X:Cx}{pins:List (Addr×Obj)}{σ:St}{H:Hp}{s:Shared}
mutual
theorem DA.reads(I:Inv X pins σ H s):∀(d:PyData) {v:V}{u:Value},DA X.K H d v->RelV v u->∃as,Reads s.heap u d as
 | .none,v,u,h,r=>by
  have h:v=.bH:=by simpa only [DA] using h
  subst h;cases r;exact⟨[],.none⟩
 | .bool b,v,u,h,r=>by
  have h:v=.bl b:=by simpa only [DA] using h
  subst h;cases r;exact⟨[],.bool b⟩
 | .int i,v,u,h,r=>by
  have h:v=.int i:=by simpa only [DA] using h
  subst h;obtain⟨t,rfl⟩:=r;exact⟨[],.int i t⟩
 | .str x,v,u,h,r=>by
  have h:v=.str x:=by simpa only [DA] using h
  subst h;obtain⟨t,rfl⟩:=r;exact⟨[],.str x t⟩
 | .list ds,v,u,h,r=>by
  have h:∃a xs,v=.ref a/\ju X.K H a xs/\sP X.K H ds xs:=by simpa only [DA] using h
  obtain⟨a,xs,rfl,hl,hs⟩:=h
  cases r
  obtain⟨its,rel,⟨o,n,e1,e2,_,e3⟩,_⟩:=I.list hl
  obtain⟨as,ra⟩:=sP.reads I ds hs rel
  exact⟨a::as,.list e1 e2 e3 ra⟩
 | .tuple ds,v,u,h,r=>by
  have h:∃a xs,v=.ref a/\pA X.K H a xs/\sP X.K H ds xs:=by simpa only [DA] using h
  obtain⟨a,xs,rfl,hl,hs⟩:=h
  cases r
  obtain⟨its,rel,⟨o,e1,e2,n,e3⟩,_⟩:=I.tuple hl
  obtain⟨as,ra⟩:=sP.reads I ds hs rel
  exact⟨as,.tuple e1 e2 e3 ra⟩
 | .dict _,v,u,h,r=>by
  have h:False:=by simpa only [DA] using h
  exact h.elim
theorem sP.reads(I:Inv X pins σ H s):∀(ds:List PyData) {xs:List V}{us:List Value},sP X.K H ds xs->Vals xs us->∃as,ReadsAll s.heap us ds as
 | [],xs,us,h,r=>by
  have h:xs=[]:=by simpa only [sP] using h
  subst h;cases r;exact⟨[],.nil⟩
 |d::ds,xs,us,h,r=>by
  have h:∃x r,xs=x::r/\DA X.K H d x/\sP X.K H ds r:=by simpa only [sP] using h
  obtain⟨x,ys,rfl,h1,h2⟩:=h
  cases r with
  |cons rx ry=>
   obtain⟨as,ra⟩:=DA.reads I d h1 rx
   obtain⟨bs,rb⟩:=sP.reads I ds h2 ry
   exact⟨as++bs,.cons ra rb⟩
end
def HH(K:PySem.W.Frag)(neg:Bool):R2:=fun x y H Q=>∃dx dy,DA K H dx x/\DA K H dy y/\SeqAt.shaped dx=true/\SeqAt.shaped dy=true/\Q (.bl (if neg then !PyData.eqv dx dy else PyData.eqv dx dy)) H
theorem Lr(hu:X.A.units+64<cLine):jv X (compareOp .Eq) (HH X.K false):=by
 intro pins s σ H x y v u Q I rx ry ⟨dx,dy,hx,hy,sx,sy,q⟩
 obtain⟨as,ra⟩:=DA.reads I dx hx rx
 obtain⟨bs,rb⟩:=DA.reads I dy hy ry
 exact eq_dataH ra rb sx sy hu ⟨.bl (PyData.eqv dx dy),H,I,rfl,q⟩
theorem Lp(hu:X.A.units+64<cLine):jv X (compareOp .NotEq) (HH X.K true):=by
 intro pins s σ H x y v u Q I rx ry ⟨dx,dy,hx,hy,sx,sy,q⟩
 obtain⟨as,ra⟩:=DA.reads I dx hx rx
 obtain⟨bs,rb⟩:=DA.reads I dy hy ry
 exact ne_dataH ra rb sx sy hu ⟨.bl (!PyData.eqv dx dy),H,I,rfl,q⟩
end
end L2
end
section
namespace L2
open PySem PySem.Spec PyProof.Rows
structure sM(P:Program)(w:World)(K:PySem.W.Frag)(mg:Str->Option Value)(base:Heap)(f:Addr)(k:Nat)(sp:Sp):Prop where
 ex:∃fd ps,cA P w K mg base iy k f fd ps sp/\PySem.W.keepIn K (.ref f)=true/\Binds K fd ps []
structure Own(P:Program)(w:World)(K:PySem.W.Frag)(mg:Str->Option Value)(base:Heap)(x:Str)(k:Nat)(sp:Sp):Prop where
 ex:∃f,mg x=some (.ref f)/\sM P w K mg base f k sp
def yV(X:Cx)(i:Nat)(t:TA):TE:=fun σ H Q=>∃f k sp,σ[i]? = some (some (.ref f))/\sM X.prog X.w X.K X.mg X.base f k sp/\dS k X.A/\t σ H fun vs H1=>sp vs H1 Q E0
structure n6(P:Program)(w:World)(base:Heap)(a:Addr)(av:List (Key×V)):Prop where
 ne:(a==sysModules)=false
 ex:∃vs,KV av vs/\base.DictOf (br P w) a vs
section
variable {X:Cx}{k:Nat}{sp:Sp}{x:Str}{p pos:Pos}{e o i:Expr}{es:List Expr}{t:TA}{td ty:TE}
theorem Ld(O:Own X.prog X.w X.K X.mg X.base x k sp)(hr:dS k X.A)(ha:PA X (e::es) t)(hg:Gl X x:=by rfl)(jo:(x==("__debug__":Str))=false:=by decide)
  (he:starEach (e::es) X.env=(false,eval e X.env)::starEach es X.env:=by rfl) (sR:(backTo pos (starEach es X.env)).any (·.1)=false:=by rfl) :
  PE X (.Call (.Name x p) (e::es) [] pos) (uf sp [] E0 t):=by
 obtain⟨f,hm,⟨fd,ps,F,hk,hb⟩⟩:=O
 exact Ii F hr hg hm hk hb .nil JC ha jo he sR
theorem vS{a:Addr}(hm:X.mg x=some (.ref a))(hg:Gl X x:=by rfl)(hd:(x==("__debug__":Str))=false:=by decide):PE X (.Name x p) (tC (.ref a)):=AI (v:=.ref a) hg hm rfl hd
theorem Ia{n:Nat}(ha:PA X (e::es) t)(hN:X.N[n]? = some x:=by rfl)(hv:km X.env.scope x:=by first|exact Or.inl rfl|exact Or.inr (Or.inl rfl)|exact Or.inr (Or.inr rfl))(jo:(x==("__debug__":Str))=false:=by decide)(fu:(x==("__classdict__":Str))=false:=by decide)
  (he:starEach (e::es) X.env=(false,eval e X.env)::starEach es X.env:=by rfl) (sR:(backTo pos (starEach es X.env)).any (·.1)=false:=by rfl) :
  PE X (.Call (.Name x p) (e::es) [] pos) (yV X n t):=by
 intro pins s σ H Q I ⟨f,k,sp,hσ,⟨fd,ps,F,hk,hb⟩,hr,h⟩
 refine wpAny_Call_Name_kw (cn (gh (pos:=p) hN hv jo fu pins s σ H (fun v H1=>v=.ref f/\H1=H) I ⟨_,hσ,rfl,rfl⟩) fun u s1 ⟨v,H1,I1,r,q⟩=>?_)
 obtain⟨rfl,rfl⟩:=q
 cases r
 refine PySem.W.callWith_K (h₀:=X.base) I.ok.mod.Rm hk (cn (ha pos pins s1 σ H1 _ I1 h) fun us s2 ⟨vs,H2,I2,r2,q2⟩=>⟨I2.LO,?_⟩) he sR
 exact Eb F hr hb .nil JC I2 r2 (by rw[List.append_nil];exact q2)
def Ks(X:Cx)(neg:Bool)(ty td:TE):TE:=fun σ H Q=>ty σ H fun y H1=>td σ H1 fun z H2=>∃a av k,z=.ref a/\n6 X.prog X.w X.base a av/\y=kV k/\Q (.bl (if neg then !(f_ av k).isSome else(f_ av k).isSome)) H2
def Jp(X:Cx)(td ty:TE):TE:=fun σ H Q=>td σ H fun z H1=>ty σ H1 fun y H2=>∃a av k v,z=.ref a/\n6 X.prog X.w X.base a av/\y=kV k/\f_ av k=some v/\Q v H2
theorem Lj(hi:PE X i ty)(ho:PE X o td):PC X .In i o (Ks X false ty td):=by
 intro pins s σ H Q I h
 refine cn (hi pins s σ H _ I h) fun iv s1 ⟨y,H1,I1,ry,q1⟩=>cn (ho pins s1 σ H1 _ I1 q1) fun u s2 ⟨z,H2,I2,rx,a,av,k,ex,⟨hd,vs,rel,dd⟩,ey,q2⟩=>?_
 subst ex ey
 obtain rfl:u=Value.ref a:=rx
 refine wpAny_in_of (j8 ry) hd (dd.keep I2.bk).mapOf ?_
 rw[<-(rel.val k).gS]
 exact⟨.bl (f_ av k).isSome,H2,I2.tok _,rfl,q2⟩
theorem Cf(hi:PE X i ty)(ho:PE X o td):PC X .NotIn i o (Ks X true ty td):=by
 intro pins s σ H Q I h
 refine cn (hi pins s σ H _ I h) fun iv s1 ⟨y,H1,I1,ry,q1⟩=>cn (ho pins s1 σ H1 _ I1 q1) fun u s2 ⟨z,H2,I2,rx,a,av,k,ex,⟨hd,vs,rel,dd⟩,ey,q2⟩=>?_
 subst ex ey
 obtain rfl:u=Value.ref a:=rx
 refine wpAny_notIn_of (j8 ry) hd (dd.keep I2.bk).mapOf ?_
 rw[<-(rel.val k).gS]
 exact⟨.bl (!(f_ av k).isSome),H2,I2.tok _,rfl,q2⟩
theorem Ib(ho:PE X o td)(hi:PE X i ty)(hs:wL i):PE X (.Subscript o i pos) (Jp X td ty):=by
 intro pins s σ H Q I h
 refine Au PySem.F.slot_dict_getitem.lookup hs (cn (ho pins s σ H _ I h) fun u s1 ⟨z,H1,I1,rx,q1⟩=>cn (hi pins s1 σ H1 _ I1 q1) fun iv s2 ⟨y,H2,I2,ry,a,av,k,v,ex,⟨hd,vs,rel,dd⟩,ey,l,q2⟩=>?_)
 subst ex ey
 obtain rfl:u=Value.ref a:=rx
 have u5:=dd.keep I2.bk
 obtain⟨w',hw,vN⟩:=lQ.some_of (v:=v) (o:=valueAt vs k) (by rw[<-l];exact rel.val k)
 exact⟨u5.typeIs,wpAny_getItem_of (j8 ry) u5.mapOf hw ⟨v,H2,I2.tok _,vN,q2⟩⟩
theorem wF:hV X (.type "dict") (fun xs H Q=>∃a av,xs=[.ref a]/\Rd H a (.dK av)/\∀q,H q=none->Q (.ref q) (upd H q (.dK av))):=by
 intro pins s σ H xs us Q I r ⟨a,av,e,hd,q⟩
 subst e
 obtain⟨u,rfl,ru⟩:=vals1 r
 cases ru
 exact FP I hd fun b s' hn I'=>⟨.ref b,_,I',rfl,q b hn⟩
end
end L2
end
section
namespace L2
open PySem PySem.Spec PyProof.Rows
def Ev(t:TE)(σ:St)(H:Hp)(v:V):Prop:=∀Q:VK,Q v H->t σ H Q
def Yq(t:TT)(σ:St)(H:Hp)(b:Bool):Prop:=∀Q:Bool->Hp->Prop,Q b H->t σ H Q
def Yr(t:TA)(σ:St)(H:Hp)(vs:List V):Prop:=∀Q:List V->Hp->Prop,Q vs H->t σ H Q
section
variable {σ:St}{H:Hp}{v x y:V}{i j:Int}{ta tb tc td:TE}{tt tu:TT}{t:TA}{K:PySem.W.Frag}{nx bk ct:St->Hp->Prop}{rt:VK}{u w:TS}{b c:Bool}{vs:List V}{n:Nat}
theorem Ev.go{Q:VK}(h:Ev ta σ H v)(q:Q v H):ta σ H Q:=h Q q
theorem Yq.go{Q:Bool->Hp->Prop}(h:Yq tt σ H b)(q:Q b H):tt σ H Q:=h Q q
theorem Yr.go{Q:List V->Hp->Prop}(h:Yr t σ H vs)(q:Q vs H):t σ H Q:=h Q q
end
end L2
end
section
namespace L2
open PySem PySem.Spec PyProof.Rows
def lR(p:Addr)(H H':Hp):Prop:=∀b o,H b=some o->b≠p->H' b=some o
def MT(p:Addr)(H H':Hp):Prop:=∀b,b≠p->H' b=H b
theorem MT.upd{H:Hp}{q:Addr}{o:HO}:MT q H (upd H q o):=fun b n=>aE n
theorem MT.keep{H H':Hp}{p:Addr}(a:MT p H H'):lR p H H':=fun b o e n=>by rw[a b n];exact e
def yz(H H':Hp):Prop:=∀b xs,H b=some (.tup xs)->H' b=some (.tup xs)
theorem ck.upd{H:Hp}{q:Addr}{o:HO}(h:H q=none):ck H (upd H q o):=fun b u e=>by
 rw[aE (cP e h)];exact e
theorem lR.upd{H:Hp}{q:Addr}{o:HO}:lR q H (upd H q o):=fun b u e n=>by rw[aE n];exact e
theorem lR.refl{H:Hp}{p:Addr}:lR p H H:=fun _ _ e _=>e
theorem lR.of{H H':Hp}{p:Addr}(s:ck H H'):lR p H H':=fun b o e _=>s b o e
theorem lR.trans{H H1 H2:Hp}{p:Addr}(a:lR p H H1)(b:lR p H1 H2):lR p H H2:=fun c o e n=>b c o (a c o e n) n
theorem ck.tr{H H1 H2:Hp}{p:Addr}(a:ck H H1)(b:lR p H1 H2)(n:H p=none):ck H H2:=fun c o e=>b c o (a c o e) (cP e n)
theorem lR.free{H H':Hp}{p:Addr}{o:HO}(k:lR p H H')(hp:H' p=some o){q:Addr}(h:H' q=none):H q=none:=by
 cases e:H q with
 |none=>rfl
 |some u=>
  by_cases z:q=p
  ·subst z;rw[hp] at h;cases h
  ·rw[k q u e z] at h;cases h
theorem yz.refl(H:Hp):yz H H:=fun _ _ h=>h
theorem yz.trans{H H1 H2:Hp}(a:yz H H1)(b:yz H1 H2):yz H H2:=fun c o e=>b c o (a c o e)
theorem ck.ts{H H':Hp}(s:ck H H'):yz H H':=fun b xs e=>s _ _ e
theorem lR.ts{H H':Hp}{p:Addr}{ys:List V}(k:lR p H H')(h:H p=some (.lst ys)):yz H H':=fun b xs e=>k _ _ e (EW e h (by intro z;cases z))
theorem fo{n:Nat}(h:n<=1000000):n<sizeLine:=Nat.lt_of_le_of_lt h (by decide)
def Jk(t:TA):TE:=fun σ H Q=>t σ H fun xs H1=>xs.length<=1000000/\∀p H2,H1 p=none->ck H1 H2->H2 p=some (.tup xs)->Q (.ref p) H2
def Jq(t:TA):TE:=fun σ H Q=>t σ H fun xs H1=>xs.length<=1000000/\∀p H2,H1 p=none->ck H1 H2->H2 p=some (.lst xs)->Q (.ref p) H2
section
variable {X:Cx}{es:List Expr}{t:TA}{pos:Pos}
theorem H_{x1}(h:PA X es t):PE X (.Tuple es x1 pos) (Jk t):=by
 intro pins s σ H Q I hq
 refine wpAny_Tuple_spliced (cn (h pos pins s σ H _ I hq) fun us s1 ⟨xs,H1,I1,r,z,q⟩=>⟨by rw[<-r.length];exact Nat.le_of_lt (fo z),?_⟩)
 have hf:H1 s1.heap.objs.size=none:=I1.cg.fresh (Nat.le_refl _)
 refine⟨.ref s1.heap.objs.size,upd H1 s1.heap.objs.size (.tup xs),I1.laid (t':=s1.toks) (fun b u e=>Heap.get?_push_of_some _ e) (Nat.le_refl _) ?_,rfl,q _ _ hf (ck.upd hf) aB⟩
 exact⟨Nat.le_of_lt (fo z),us,r,⟨_,Heap.get?_push_size _ rfl,rfl,_,rfl⟩⟩
theorem Ic(h:PA X es t):PE X (.List es pos) (Jq t):=by
 intro pins s σ H Q I hq
 refine wpAny_List_spliced (cn (h pos pins s σ H _ I hq) fun us s1 ⟨xs,H1,I1,r,z,q⟩=>⟨by rw[<-r.length];exact Nat.le_of_lt (fo z),?_⟩)
 have hf:H1 s1.heap.objs.size=none:=I1.cg.fresh (Nat.le_refl _)
 refine⟨.ref s1.heap.objs.size,upd H1 s1.heap.objs.size (.lst xs),I1.laid (t':=s1.toks) (fun b u e=>Heap.get?_push_of_some _ e) (Nat.le_refl _) ?_,rfl,q _ _ hf (ck.upd hf) aB⟩
 exact⟨Nat.le_of_lt (fo z),us,0,r,Heap.get?_push_size _ rfl⟩
theorem jv.imp{f:Value->Value->Sem Value}{r r':R2}(h:jv X f r)(i:∀x y H Q,r' x y H Q->r x y H Q):jv X f r':=fun pins s σ H x y v u Q I rx ry q=>h pins s σ H x y v u Q I rx ry (i _ _ _ _ q)
def Jy:R2:=fun x y H Q=>∃l b xs zs,x=.ref l/\y=.ref b/\H l=some (.lst xs)/\H b=some (.lst zs)/\xs.length+zs.length<=1000000/\∀p H2,H p=none->ck H H2->H2 p=some (.lst (xs++zs))->Q (.ref p) H2
theorem qo:jv X (binaryOp .Add) Jy:=Ls.imp fun x y H Q ⟨l,b,xs,zs,e1,e2,h1,h2,hl,q⟩=>⟨l,b,xs,zs,e1,e2,h1,h2,Nat.le_of_lt (fo hl),fun p hp=>q p _ hp (ck.upd hp) aB⟩
def KY(K:PySem.W.Frag):V->Option Int->Option Int->Hp->VK->Prop:=fun x lo hi H Q=>∃a xs,x=.ref a/\ju K H a xs/\∀p H2,H p=none->ck H H2->H2 p=some (.lst (kU xs lo hi))->Q (.ref p) H2
theorem xm:J1 X (KY X.K):=fun pins s σ H x v vl vu lo hi sl Q I rx hs pl pu ⟨a,xs,e,h,q⟩=>Hy pins s σ H x v vl vu lo hi sl Q I rx hs pl pu ⟨a,xs,e,h,fun p hp=>q p _ hp (ck.upd hp) aB⟩
def qV:V->List V->Hp->VK->Prop:=fun x vs H Q=>∃l xs y,x=.ref l/\vs=[y]/\H l=some (.lst xs)/\xs.length<=1000000/\∀H3,MT l H H3->H3 l=some (.lst (xs++[y]))->Q .bH H3
theorem mv:Qk X "list.append" qV:=fun pins s σ H x xs v us Q I rx r ⟨l,ys,y,e1,e2,h,hz,q⟩=>Co pins s σ H x xs v us Q I rx r ⟨l,ys,y,e1,e2,h,fo hz,q _ MT.upd aB⟩
def SI:List V->Hp->VK->Prop:=fun xs H Q=>∃a av,xs=[V.ref a]/\H a=some (.dK av)/\∀p H2,H p=none->ck H H2->H2 p=some (.dK av)->Q (.ref p) H2
end
section
variable {σ:St}{H H4:Hp}{v x y:V}{ta tb tc to:TE}{t tr:TA}{Q:VK}{vs xs ys:List V}{nx bk ct:St->Hp->Prop}{rt:VK}{K:PySem.W.Frag}{a l p:Addr}{i j:Nat}{k n:Int}{tb':TS}{r:R2}{b:Bool}
theorem UK{i j:Int}(h:0<j)(h2:j<=2 ^ 62):vg i j:=⟨h,by
 have h0:j.natAbs≠0:=by omega
 have h3:j.natAbs<2 ^ 63:=by omega
 have:=(Nat.log2_lt h0).mpr h3
 omega⟩
theorem pick{xs:List V}{r:Int}(h0:0<=r)(h1:r<xs.length):∃v,il xs r=some v/\v∈xs:=by
 obtain⟨n,rfl⟩:=Int.eq_ofNat_of_zero_le h0
 have hn:n<xs.length:=by omega
 exact⟨xs[n],fA (List.getElem?_eq_getElem hn),List.getElem_mem hn⟩
end
end L2
end
section
namespace L2
open PySem PySem.Spec PyProof.Rows
def aH:Expr->Bool
 | .Starred _ _=>false
 |_=>true
theorem bN{e:Expr}{es:List Expr}{env:Env}(h:aH e=true):starEach (e::es) env=(false,eval e env)::starEach es env:=by
 cases e<;>first|rfl|(cases h)
theorem iz{pos:Pos}{env:Env}:∀{es:List Expr},es.all aH=true->(backTo pos (starEach es env)).any (·.1)=false
 | [],_=>rfl
 |e::es,h=>by
  rw[List.all_cons,Bool.and_eq_true] at h
  rw[bN h.1]
  have q:=iz (pos:=pos) (env:=env) h.2
  simp only[backTo,List.map_cons,List.any_cons] at q ⊢
  rw[q]
  rfl
theorem um{pos:Pos}{env:Env}:∀{es:List Expr},es.all aH=true->(backTo pos (starEach es env)).all (fun x=>!x.1)=true
 | [],_=>rfl
 |e::es,h=>by
  rw[List.all_cons,Bool.and_eq_true] at h
  rw[bN h.1]
  have q:=um (pos:=pos) (env:=env) h.2
  simp only[backTo,List.map_cons,List.all_cons] at q ⊢
  rw[q]
  rfl
theorem Loc.yC{sc:Scope}{x:Str}(h:Loc sc x):km sc x:=h.elim Or.inl fun z=>Or.inr (Or.inl z)
section
variable {X:Cx}{k:Nat}{sp:Sp}{x:Str}{p pos apos bD:Pos}{e o i:Expr}{es:List Expr}{t:TA}{td ty te to:TE}{T id:String}{name:Str}
theorem JD(ha:PE X e te)(hr:PA X es t)(h:aH e=true:=by rfl):PA X (e::es) (lT te t):=Il ha hr (bN h)
theorem Oq(O:Own X.prog X.w X.K X.mg X.base x k sp)(hr:dS k X.A)(ha:PA X (e::es) t)(hg:Gl X x:=by rfl)(jo:(x==("__debug__":Str))=false:=by decide)
  (h1:aH e=true:=by rfl) (h2:es.all aH=true:=by rfl):PE X (.Call (.Name x p) (e::es) [] pos) (uf sp [] E0 t):=Ld O hr ha hg jo (bN h1) (iz h2)
theorem Oo{n:Nat}(ha:PA X (e::es) t)(hN:X.N[n]? = some x:=by rfl)(hv:km X.env.scope x:=by first|exact Or.inl rfl|exact Or.inr (Or.inl rfl)|exact Or.inr (Or.inr rfl))(jo:(x==("__debug__":Str))=false:=by decide)(fu:(x==("__classdict__":Str))=false:=by decide)
  (h1:aH e=true:=by rfl) (h2:es.all aH=true:=by rfl):PE X (.Call (.Name x p) (e::es) [] pos) (yV X n t):=Ia ha hN hv jo fu (bN h1) (iz h2)
theorem Vm{r:V->List V->Hp->VK->Prop}(pa:PlainAttrs T)(slot:Slot T name id)(OU:typeOf (.builtin id)=pure (.type "method_descriptor"))(hm:J2 X id r)(ho:PE X o to)(ha:PA X (e::es) t)
  (eh:attributeBase o name X.env (eval o X.env)=eval o X.env:=by rfl) (hlen:(e::es).length<30:=by simp) (ef:(apos.endLine==bD.line)=true:=by rfl) (h1:aH e=true:=by rfl) (h2:es.all aH=true:=by rfl) :
  PE X (.Call (.Attribute o name apos) (e::es) [] bD) (N8 X.K T r to t):=by
 have h3:(e::es).all aH=true:=by rw[List.all_cons,h1,h2];rfl
 refine Om pa slot OU hm ho ha eh ?_ ef (bN h1) (iz h2)
 rw[um h3]
 show(true&&true&&decide ((e::es).length+0+0<30))=true
 rw[decide_eq_true (by simpa using hlen)]
 rfl
theorem Bh{r:List V->Hp->VK->Prop}(hc:hV X (.type T) r)(hg:Gl X x)(hm:X.mg x=none)(hv:bootBuiltins x=some (.type T))(ha:PA X (e::es) t)(hn:x≠"__name__":=by decide)(jo:(x==("__debug__":Str))=false:=by decide)
  (h1:aH e=true:=by rfl) (h2:es.all aH=true:=by rfl):PE X (.Call (.Name x p) (e::es) [] pos) (Hd r t):=Ce hc hg hm hv ha hn jo (bN h1) (iz h2)
theorem wG{r:List V->Hp->VK->Prop}(hc:hV X (.builtin id) r)(hg:Gl X x)(hm:X.mg x=none)(hv:bootBuiltins x=some (.builtin id))(ha:PA X (e::es) t)(hn:x≠"__name__":=by decide)(jo:(x==("__debug__":Str))=false:=by decide)
  (h1:aH e=true:=by rfl) (h2:es.all aH=true:=by rfl):PE X (.Call (.Name x p) (e::es) [] pos) (Hd r t):=EI hc hg hm hv ha hn jo (bN h1) (iz h2)
end
end L2
end
section
namespace L2
open PySem PySem.Spec PyProof.Rows
structure QE(X:Cx)(e:Expr)(t:TE):Prop where
 h:PE X e t
structure QT(X:Cx)(e:Expr)(t:TT):Prop where
 h:PT X e t
structure QW(X:Cx)(e:Expr)(t:TT):Prop where
 h:PW X e t
structure QA(X:Cx)(es:List Expr)(t:TA):Prop where
 h:PA X es t
structure QC(X:Cx)(op:CmpOp)(a b:Expr)(t:TE):Prop where
 h:PC X op a b t
structure QG(X:Cx)(e:Expr)(t:TG):Prop where
 h:PG X e t
structure QGs(X:Cx)(es:List Expr)(t:C2):Prop where
 h:Nv X es t
structure QI(X:Cx)(tg e:Expr)(t:TI):Prop where
 h:PI X tg e t
structure QO(X:Cx)(e:Option Expr)(t:TO):Prop where
 h:PO X e t
structure QP(X:Cx)(pos:Pos)(ks:List (Option Expr))(vs:List Expr)(t:List (TE×TE)):Prop where
 h:Qg X pos ks vs t
structure QS(X:Cx)(s:Stmt)(t:TS):Prop where
 h:PS X s t
structure QSs(X:Cx)(s:List Stmt)(t:TS):Prop where
 h:Ad X s t
section
variable {X:Cx}{a b c e o i v l:Expr}{es:List Expr}{ta tb tc te to ti tv td ty tx tl':TE}{t u:TA}{tt tt':TT}{g:TG}{gs:C2}{s:Stmt}{ss sa sb:List Stmt}{w w':TS}{pos pos' p p2 apos bD:Pos}{x name:Str}{r r':R2}{n k:Nat}{sp:Sp}{T id:String}
end
end L2
end
section
namespace L2
open PySem PySem.Spec PyProof.Rows
def pv(env:Env):List (Str×NameKind)->List (Str×Addr)->List (Str×Addr)
 | [],cs=>cs
 |(n,k)::r,cs=>pv env r (if (k==.free)=true then(n,(env.cells.lookup n).getD 0)::cs else cs)
theorem u9{env:Env}:∀(names:List (Str×NameKind)) (cs:List (Str×Addr)),(∀x∈names,x.2=.free->∃c,env.cells.lookup x.1=some c) ->
  (forIn names cs fun(x:Str×NameKind) (r:List (Str×Addr))=>if (x.2==.free)=true then(cellOf env x.1 >>= fun a=>pure (ForInStep.yield ((x.1,a)::r))) else pure (ForInStep.yield r):Sem (List (Str×Addr)))=pure (pv env names cs)
 | [],cs,_=>rfl
 |(n,k)::r,cs,h=>by
  have ih:=fun cs=>u9 (env:=env) r cs fun x hx=>h x (List.mem_cons_of_mem _ hx)
  rw[List.forIn_cons]
  unfold pv
  by_cases hk:(k==NameKind.free)=true
  ·rw[if_pos hk,if_pos hk]
   obtain⟨c,e⟩:=h (n,k) List.mem_cons_self (by simpa using hk)
   have e1:cellOf env n=pure c:=by unfold cellOf;rw[e]
   show((cellOf env n >>= fun a=>pure (ForInStep.yield ((n,a)::cs))) >>= _)=_
   rw[e1,e]
   exact ih ((n,c)::cs)
  ·rw[if_neg hk,if_neg hk]
   exact ih cs
theorem g7{sc:Scope}{env:Env}(h:∀x∈sc.names,x.2=.free->∃c,env.cells.lookup x.1=some c):closureFor sc env=pure (pv env sc.names []):=by
 unfold closureFor
 show(forIn sc.names [] _ >>= pure)=_
 have q:=u9 (env:=env) sc.names [] h
 have e:(forIn sc.names ([]:List (Str×Addr)) fun(x:Str×NameKind) (r:List (Str×Addr))=>if (x.2==.free)=true then(cellOf env x.1 >>= fun a=>pure (ForInStep.yield ((x.1,a)::r))) else pure (ForInStep.yield r):Sem (List (Str×Addr))) >>= pure=pure (pv env sc.names []):=by rw[q];rfl
 exact e
theorem FQ{env:Env}:∀(names:List (Str×NameKind)) (cs:List (Str×Addr)),(∀x∈names,x.2=.free->∃c,env.cells.lookup x.1=some c)->(∀n c,cs.lookup n=some c->env.cells.lookup n=some c) ->
  ∀n c,(pv env names cs).lookup n=some c->env.cells.lookup n=some c
 | [],cs,_,h=>h
 |(m,k)::r,cs,hf,h=>by
  unfold pv
  refine FQ r _ (fun x hx=>hf x (List.mem_cons_of_mem _ hx)) fun n c e=>?_
  by_cases hk:(k==NameKind.free)=true
  ·rw[if_pos hk] at e
   obtain⟨c',e'⟩:=hf (m,k) List.mem_cons_self (by simpa using hk)
   rw[e'] at e
   rw[List.lookup_cons] at e
   cases hx:n==m with
   |true=>
    rw[hx] at e
    cases e
    rw[show n=m by simpa using hx];exact e'
   |false=>rw[hx] at e;exact h n c e
  ·rw[if_neg hk] at e;exact h n c e
theorem z_{env:Env}:∀(names:List (Str×NameKind)) (cs:List (Str×Addr)) (n:Str),((n,NameKind.free)∈names\/∃c,cs.lookup n=some c)->∃c,(pv env names cs).lookup n=some c
 | [],cs,n,h=>h.elim (fun z=>nomatch z) id
 |(m,k)::r,cs,n,h=>by
  unfold pv
  refine z_ r _ n ?_
  rcases h with h|⟨c,e⟩
  ·rcases List.mem_cons.mp h with e|h
   ·cases e
    right
    rw[if_pos (by rfl),List.lookup_cons]
    simp
   ·exact .inl h
  ·right
   by_cases hk:(k==NameKind.free)=true
   ·rw[if_pos hk,List.lookup_cons]
    cases hx:n==m with
    |true=>exact⟨_,rfl⟩
    |false=>exact⟨c,e⟩
   ·rw[if_neg hk];exact⟨c,e⟩
theorem iK{env:Env}:∀(names:List (Str×NameKind)) (x:Str),(names.map fun(n,k)=>if (k==NameKind.free&&env.scope.kind==.function&&env.kindOf n==some .cell) then(n,NameKind.cell) else(n,k)).lookup x =
  (names.lookup x).map fun k=>if (k==NameKind.free&&env.scope.kind==.function&&env.kindOf x==some .cell) then NameKind.cell else k
 | [],_=>rfl
 |(n,k)::r,x=>by
  have ih:=iK (env:=env) r x
  rw[List.map_cons]
  have e:(match (n,k) with|(n,k)=>if (k==NameKind.free&&env.scope.kind==.function&&env.kindOf n==some .cell)=true then(n,NameKind.cell) else(n,k))=(n,if (k==NameKind.free&&env.scope.kind==.function&&env.kindOf n==some .cell)=true then NameKind.cell else k):=by
   show(if _ then _ else _)=_
   split<;>rfl
  rw[e,List.lookup_cons,List.lookup_cons]
  cases hx:x==n with
  |true=>
   have:x=n:=by simpa using hx
   subst this
   rfl
  |false=>exact ih
theorem iH{names:List (Str×NameKind)}{x:Str}{k:NameKind}(h:names.lookup x=some k):(x,k)∈names:=PySem.mem_of_lookup h
structure wM(X:Cx)(sc:Scope)(ks N2:List Str):Prop where
 kind:sc.kind=.function
 EU:∀y∈sc.names,y.2≠.cell
 names:∀y∈sc.names,y.2=.local->sc.names.lookup y.1=some .local
 free:∀y∈sc.names,y.2=.free->X.env.kindOf y.1=some .cell\/X.env.kindOf y.1=some .free
 len:N2.length=X.N.length
 nd:(ks++N2).Nodup
 at_:∀(j:Nat) x,N2[j]? = some x->sc.names.lookup x=none\/(sc.names.lookup x=some .free/\X.N[j]? = some x)
abbrev dE(X:Cx)(sc:Scope)(N:List Str)(C:Addr)(s:Shared)(H:Hp)(fp:List Addr)(pins:List (Addr×Obj)):Cx:=
 {X with N:=N,h_:=s,CQ:=H,env:=compEnvC sc (pv X.env sc.names []) C X.env,outer:=X.stack,stack:=X.stack,ex:=fp,fn:=fun _=>false,pn:=X.pn++pins,xe:=fun _ _=>False}
section
variable {X:Cx}{pins:List (Addr×Obj)}{σ:St}{H:Hp}{s:Shared}{sc:Scope}{ks N2:List Str}{fp:List Addr}
theorem wM.cells(S:wM X sc ks N2)(ok:X.Ok):∀x∈sc.names,x.2=.free->∃c,X.env.cells.lookup x.1=some c:=fun x hx e=>ok.has x.1 (S.free x hx e)
theorem wM.sub(S:wM X sc ks N2)(ok:X.Ok):∀n c,(pv X.env sc.names []).lookup n=some c->X.env.cells.lookup n=some c:=
 FQ sc.names [] (S.cells ok) fun n c e=>by cases e
theorem Inv.block(I:Inv X pins σ H s)(S:wM X sc ks N2)(hf:∀b∈fp,n9 X pins H b)(ho:∀b∈fp,∃o,s.heap.get? b=some o){h':Heap}{m0:Str->Option Value}{t':Nat}(hn:h'.Ns s.heap.objs.size m0)(k:∀b o,s.heap.get? b=some o->h'.get? b=some o) :
  Inv (dE X sc (ks++N2) s.heap.objs.size s H fp pins) [] (List.replicate ks.length none++σ) H {s with heap:=h',toks:=t'}:=by
 have sub:=S.sub I.ok
 have LB:∀b o,s.heap.get? b=some o->b≠s.heap.objs.size:=fun b o e=>Nat.ne_of_lt (Heap.lt_size e)
 have rl:∀x,(relabel sc X.env).names.lookup x=(sc.names.lookup x).map fun k=>if (k==NameKind.free&&X.env.scope.kind==.function&&X.env.kindOf x==some .cell) then NameKind.cell else k:=fun x=>iK (env:=X.env) sc.names x
 have ok:(dE X sc (ks++N2) s.heap.objs.size s H fp pins).Ok:=by
  refine⟨I.ok.mod,S.kind,I.ok.glob,I.ok.blt,Nat.le_refl _,fun x y c h1 h2=>I.ok.inj x y c (sub x c h1) (sub y c h2),fun x hx=>?_,fun x c h=>(by cases h),I.ok.hd,I.ok.frames,.inl rfl,fun b hb=>⟨?_,fun x c e=>(hf b hb).2.2.2.2.1 x c (sub x c e)⟩,I.bs,Nat.le_trans I.ok.FU I.sz,fun b o e hb=>?_,fun b hb wU=>?_,I.stack,I.Aw⟩
  ·have hx:(relabel sc X.env).names.lookup x=some .cell\/(relabel sc X.env).names.lookup x=some .free:=hx
   rw[rl] at hx
   cases q:sc.names.lookup x with
   |none=>rw[q] at hx;rcases hx with z|z<;>cases z
   |some k=>
    have hm:=iH q
    have nc:=S.EU _ hm
    refine z_ sc.names [] x (.inl ?_)
    cases k with
    |free=>exact hm
    |cell=>exact absurd rfl nc
    |_=>rw[q] at hx;rcases hx with z|z<;>cases z
  ·obtain⟨o,e⟩:=ho b hb
   exact LB b o e
  ·obtain⟨f0,f1,f2,f3,f4,f5⟩:=hf b hb
   rcases f3 with z|z
   ·exact I.ok.ET b o e z
   ·exact absurd (Nat.lt_of_lt_of_le (Heap.lt_size e) (Nat.le_trans I.ok.FU z)) (Nat.lt_irrefl _)
  ·obtain⟨f0,f1,f2,f3,f4,f5⟩:=hf b hb
   rcases List.mem_cons.mp (I.qJ b wU) with z|z
   ·exact f1 z
   ·exact f2 z
 obtain⟨m,hm,hl⟩:=id I.loc
 refine⟨ok,rfl,I.bare,Un.kept k,⟨m0,hn,fun i x v h1 h2 h3=>?_⟩,fun x c e=>?_,I.cg.fresh (Nat.le_refl _),fun x c e=>I.j_ x c (sub x c e),fun p hp=>?_,I.cg.kept k,?_⟩
 ·have h1:(ks++N2)[i]? = some x:=h1
  have hi:ks.length<=i:=by
   refine Nat.le_of_not_lt fun hi=>?_
   rw[List.getElem?_append_left (by simpa using hi),List.getElem?_replicate] at h2
   split at h2<;>cases h2
  rw[List.getElem?_append_right hi] at h1
  rw[List.getElem?_append_right (by simpa using hi),List.length_replicate] at h2
  rcases S.at_ _ x h1 with z|⟨z,hN⟩
  ·have h3:(relabel sc X.env).names.lookup x=some .local\/(relabel sc X.env).names.lookup x=some .cell\/(relabel sc X.env).names.lookup x=some .free:=h3
   rw[rl,z] at h3
   rcases h3 with h3|h3|h3<;>cases h3
  ·have hk:=S.free _ (iH z) rfl
   have hv:km X.env.scope x:=hk.elim (fun e=>.inr (.inl e)) fun e=>.inr (.inr e)
   obtain⟨u,r,l⟩:=hl _ x v hN h2 hv
   refine⟨u,r,?_⟩
   rcases l with⟨l,_⟩|⟨_,c,e,hc⟩
   ·rcases hk with hk|hk<;>(have l:X.env.kindOf x=some .local:=l;rw[hk] at l;cases l)
   ·right
    refine⟨?_,?_⟩
    ·show(relabel sc X.env).names.lookup x=some .cell\/(relabel sc X.env).names.lookup x=some .free
     rw[rl,z]
     by_cases q:(NameKind.free==NameKind.free&&X.env.scope.kind==.function&&X.env.kindOf x==some .cell)=true
     ·left;show some (if _ then _ else _)=_;rw[if_pos q]
     ·right;show some (if _ then _ else _)=_;rw[if_neg q]
    ·obtain⟨c',e'⟩:=z_ (env:=X.env) sc.names [] x (.inl (iH z))
     have e2:=sub x c' e'
     rw[e] at e2;cases e2
     obtain⟨o,ho,hd⟩:=hc
     exact⟨c,e',o,k _ _ ho,hd⟩
 ·obtain⟨v,o,ho,hd⟩:=I.cell x c (sub x c e)
  exact⟨v,o,k _ _ ho,hd⟩
 ·have hp:p∈X.pn++pins:=by simpa using hp
  obtain⟨e,n,ne,nf,d⟩:=I.pin p hp
  refine⟨k _ _ e,n,LB _ _ e,fun hb=>?_,d⟩
  rcases List.mem_cons.mp (I.qJ _ hb) with z|z
  ·exact ne z
  ·exact nf z
 ·show _=(ks++N2).length
  rw[List.length_append,List.length_append,List.length_replicate,S.len,I.len]
theorem Inv.GY{N:List Str}{τ:St}{H0:Hp}{s0:Shared}{C:Addr}{o:Obj}(I0:Inv X pins σ H0 s0)(hC:C=s0.heap.objs.size)(hf:∀b∈fp,n9 X pins H0 b)(I:Inv (dE X sc N C s0 H0 fp pins) [] τ H s)(ho:s.heap.get? C=some o)(hd:∀v,o.data≠.cell v):Inv X (pins++[(C,o)]) σ H s:=by
 have J:Inv X pins σ H s:=I0.PY (ch:=fp) I.os I.base I.cg I.bare fun b hb=>by
  obtain⟨f0,f1,f2,f3,f4,f5⟩:=hf b hb
  exact⟨f3,f1,f4,f5⟩
 refine J.vQ fun p hp=>(List.mem_append.mp hp).elim (fun z=>J.pin p (List.mem_append_right _ z)) fun z=>?_
 have z:p=(C,o):=by simpa using z
 subst z
 refine⟨ho,I.free,?_,I0.OA (by rw[hC];exact Nat.le_refl _),hd⟩
 rw[hC]
 exact Nat.ne_of_gt I0.lt
theorem Inv.loose{C:Addr}{o:Obj}{h':Heap}(I:Inv X (pins++[(C,o)]) σ H s)(TU:X.h_.heap.objs.size<=C)(hp:∀p∈X.pn++pins,p.1≠C)(hs:Heap.SameBut C s.heap h'):Inv X pins σ H {s with heap:=h'}:=by
 obtain⟨e,n,ne,nf,d⟩:=I.pin (C,o) (by simp)
 refine(I.ku).turned (t':=s.toks) (fun b ob hb q=>(hs.2 b hb).trans q) n ne (.inr TU) (fun x c hc z=>?_) hp
 obtain⟨v,ob,TR,hdc⟩:=I.cell x c hc
 rw[z] at TR
 have e:s.heap.get? C=some o:=e
 rw[e] at TR
 cases TR
 exact d v hdc
end
end L2
end
section
namespace L2
open PySem PySem.Spec PyProof.Rows
def gI(g:Comprehension)(inner:Sem Unit)(e:Expr)(d:Nat)(it acc:Value)(env:Env):Sem Fin:=do
 standAt g.iter.pos
 match <-pyNext it with
 |none=>pure (.done .next)
 |some v=>
  letOwnedTupleGo g.target it v
  assign g.target env v
  let mut ok:=true
  for c in g.ifs do
   if ok then ok <-isTrue c env (eval c env)
  if ok then inner
  again (.compLoop e d it acc env)
abbrev TL:=(St->Hp->Prop)->St->Hp->Prop
def PN(X:Cx)(inner:Sem Unit)(t:TL):Prop:=∀(pins:List (Addr×Obj)) (s:Shared) (τ:St) (H:Hp) (k:St->Hp->Prop),Inv X pins τ H s->t k τ H ->
 wpAny (model X.prog X.w) X.A inner (fun _ s'=>∃iS H',Inv X pins iS H' s'/\k iS H') X.xe s
def C3(X:Cx)(ifs:List Expr)(t:TT):Prop:=∀(pins:List (Addr×Obj)) (s:Shared) (σ:St) (H:Hp) (Q:Bool->Hp->Prop),Inv X pins σ H s->t σ H Q ->
 wpAny (model X.prog X.w) X.A (forIn ifs true fun c r=>if r=true then do let ok <-isTrue c X.env (eval c X.env);pure (ForInStep.yield ok) else pure (ForInStep.yield r)) (TP X pins σ Q) X.xe s
def NZ:TT:=fun _ H Q=>Q true H
theorem HP{X:Cx}:C3 X [] NZ:=fun pins s σ H Q I h=>wpAny_tests_nil ⟨H,I,h⟩
theorem HN{X:Cx}{c:Expr}{t:TT}(h:PT X c t):C3 X [c] t:=fun pins s σ H Q I q=>wpAny_tests_one (h pins s σ H Q I q)
def uK(J:It)(g:TG)(tt:TT)(tl:TL):TL:=fun k τ H=>∃W:Nat->Nat->St->Hp->Prop,(∃m,W 0 m τ H)/\∀i m τ H,W i m τ H ->
 (J.stop i H/\k τ H)\/(J.go i H/\∃N:St->Hp->Prop,(∀iS H',N iS H'->∃m',m'<m/\W (i+1) m' iS H')/\∀x H',J.MV i H x H'->g x τ H' fun Gg H2=>tt Gg H2 fun b H3=>if b=true then tl N Gg H3 else N Gg H3)
structure pV(e:Expr):Prop where
 u1:∀(A:Around) (d:Nat) (it acc:Value) (env:Env),A.under (.compLoop e d it acc env)=A
 d1:∀(P:Program) (w:World) (d:Nat) (it acc:Value) (env:Env),(model P w).den (.compLoop e d it acc env)=(compTurn e d it acc env).onRaise (fun x=>do noteFrame x env;theTreesLotGoes x)
 u2:∀(A:Around) (d:Nat) (it acc:Value) (env:Env),A.under (.compStart e d it acc env)=A
 d2:∀(P:Program) (w:World) (d:Nat) (it acc:Value) (env:Env),(model P w).den (.compStart e d it acc env)=(compStart e d it acc env).onRaise (fun x=>do noteFrame x env;standAt theWindowsPlace)
 q:∀(d:Nat) (it acc:Value) (env:Env),(Code.compLoop e d it acc env).quiet=true
theorem jY{elt:Expr}{gens:List Comprehension}{sc:Scope}{pos:Pos}:pV (.ListComp elt gens sc pos):=⟨fun _ _ _ _ _=>rfl,fun _ _ _ _ _ _=>rfl,fun _ _ _ _ _=>rfl,fun _ _ _ _ _ _=>rfl,fun _ _ _ _=>rfl⟩
theorem sq{kx vx:Expr}{gens:List Comprehension}{sc:Scope}{pos:Pos}:pV (.DictComp kx vx gens sc pos):=⟨fun _ _ _ _ _=>rfl,fun _ _ _ _ _ _=>rfl,fun _ _ _ _ _=>rfl,fun _ _ _ _ _ _=>rfl,fun _ _ _ _=>rfl⟩
section
variable {X:Cx}
theorem u6{e:Expr}{d:Nat}{g:Comprehension}{inner:Sem Unit}{it:Addr}{acc:Value}{fp:List Addr}{tn:Nat->Heap->Prop}{J:It}{tg:TG}{tt:TT}{tl:TL}
  (ce:pV e) (gx:compTurn e d (.ref it) acc X.env=gI g inner e d (.ref it) acc X.env) (T:Turn X.prog X.w X.K g.target J fp it tn) (hg:PG X g.target tg) (ht:C3 X g.ifs tt) (yd:PN X inner tl) (hc:X.calm=true) (L1:X.xe=fun _ _=>False)
  {pins:List (Addr×Obj)}{s:Shared}{τ:St}{H:Hp}{k:St->Hp->Prop} (I:Inv X pins τ H s) (YG:tn 0 s.heap) (f0:∀b∈fp,n9 X pins H b) (h:uK J tg tt tl k τ H) {R:Result->Shared->Prop}
  (hR:∀iS H' s',Inv X pins iS H' s'->k iS H'->R (.ok .next) s'):codeAny (model X.prog X.w) X.A (.compLoop e d (.ref it) acc X.env) R s:=by
 obtain⟨W,⟨m0,w0⟩,turn⟩:=h
 have yE:∀{α:Type}{t:Sem α}{Q:α->Shared->Prop}{E:Value->Shared->Prop}{s:Shared},wpAny (model X.prog X.w) X.A t Q X.xe s->wpAny (model X.prog X.w) X.A t Q E s:=fun h=>wpAny_mono h (fun _ _ q=>q) fun _ _ q=>by rw[L1] at q;exact q.elim
 have yY:∀{H':Hp},(∀b∈fp,H' b=none)->∀b∈fp,n9 X pins H' b:=fun hn b hb=>⟨hn b hb,(f0 b hb).2⟩
 refine codeAny_loop (ce.q _ _ _ _) (fun n s'=>∃i bR H',Inv X pins bR H' s'/\tn i s'.heap/\(∀b∈fp,H' b=none)/\W i n bR H') (fun n s3 hI=>?_) m0 ⟨0,τ,H,I,YG,fun b hb=>(f0 b hb).1,w0⟩
 obtain⟨i,wX,H3,I3,BJ,Pz,w3⟩:=hI
 rw[ce.u1,ce.d1]
 refine wpAny_noted ?_
 rw[gx]
 unfold gI
 refine wpAny_bind (wpAny_standAt (wpAny_bind ?_))
 rcases turn i n wX H3 w3 with⟨stop,qn⟩|⟨go,N,hN,step⟩
 ·refine yE (cn (T.done X rfl rfl rfl hc i pins s3 wX H3 X.xe I3 (yY Pz) BJ stop) fun r s4 ⟨hr,I4⟩=>?_)
  subst hr
  exact wpAny_pure (hR wX H3 s4 I4 qn)
 ·refine yE (cn (T.item X rfl rfl rfl hc i pins s3 wX H3 X.xe I3 (yY Pz) BJ go) fun r s4 ⟨u,hr,h4⟩=>?_)
  subst hr
  refine wpAny_bind (yE (cn h4 fun _ s5 ⟨x,H5,I5,r5,y5,Kv,Ux⟩=>?_))
  have Vz:=I5.pinned (yY Ux) (T.obj _ _ Kv)
  refine wpAny_bind (yE (cn (hg _ s5 wX H5 x u _ Vz r5 (step x H5 y5)) fun _ s6 ⟨Qq,H6,I6,q6⟩=>?_))
  have again:∀{wW:St}{H7:Hp}{s7:Shared},Inv X (pins++rg fp s5.heap) wW H7 s7->N wW H7->∃m,m<n/\∃i bR H',Inv X pins bR H' s7/\tn i s7.heap/\(∀b∈fp,H' b=none)/\W i m bR H':=fun{wW H7 s7} I7 n7=>by
   obtain⟨m',hm,w7⟩:=hN wW H7 n7
   refine⟨m',hm,i+1,wW,H7,I7.ku,T.keep _ _ _ Kv fun b hb o e=>(I7.pin (b,o) (List.mem_append_right _ (List.mem_append_right _ (jU hb e)))).1,fun b hb=>?_,w7⟩
   obtain⟨o,e,d⟩:=T.obj _ _ Kv b hb
   exact(I7.pin (b,o) (List.mem_append_right _ (List.mem_append_right _ (jU hb e)))).2.1
  refine wpAny_bind (yE (cn (ht _ s6 Qq H6 _ I6 q6) fun ok s7 ⟨H7,I7,q7⟩=>?_))
  cases ok with
  |false=>exact wpAny_pure ⟨rfl,again I7 q7⟩
  |true=>
   refine wpAny_bind (yE (cn (yd _ s7 Qq H7 _ I7 q7) fun _ s8 ⟨σ8,H8,I8,q8⟩=>?_))
   exact wpAny_pure ⟨rfl,again I8 q8⟩
theorem sk{prog:Program}{w:World}{A:Around}{R:Result->Shared->Prop}{s:Shared}{e:Expr}{d:Nat}{g:Comprehension}{it acc:Value}{env:Env}(ce:pV e)(wk:(clausesOf e)[d]? = some g)(ha:g.is_async=0)
  (h0:codeAny (model prog w) A (.compLoop e d it acc env) R s)
  (h:wpAny (model prog w) A (pyIter it) (fun Tb s'=>codeAny (model prog w) A (.compLoop e d Tb acc env) R s') (notedBy (model prog w) A env fun x s'=>R (.error x) s') s) :
  codeAny (model prog w) A (.compStart e d it acc env) R s:=by
 refine codeAny_of_tree ?_
 rw[ce.u2,ce.d2]
 refine wpAny_notedAt ?_
 unfold compStart
 have e1:((clausesOf e)[d]?).elim false (fun x=>x.is_async != 0)=false:=by rw[wk];show(g.is_async != 0)=false;rw[ha];rfl
 rw[e1,wk]
 show wpAny _ _ (ask >>= _) _ _ s
 refine wpAny_bind (wpAny_askSetting (wpAny_ite ?_))
 split
 ·first
   |exact wpAny_bind (wpAny_pure (wpAny_pure (And.intro (ce.q _ _ _ _) h0)))
   |exact wpAny_pure (And.intro (ce.q _ _ _ _) h0)
 ·first
   |exact wpAny_bind (wpAny_rule (wpAny_bind (wpAny_standAt (wpAny_bind (wpAny_mono h (fun Tb s' h'=>wpAny_pure (And.intro (ce.q _ _ _ _) h')) fun _ _ x=>x)))))
   |(refine wpAny_bind (wpAny_rule ?_);show wpAny _ _ (standAt g.iter.pos >>= _) _ _ s;exact wpAny_bind (wpAny_standAt (wpAny_bind (wpAny_mono h (fun Tb s' h'=>wpAny_pure (And.intro (ce.q _ _ _ _) h')) fun _ _ x=>x))))
def Jr(te:TE)(p:Addr):TL:=fun k τ H=>te τ H fun y H4=>∃acc,H4 p=some (.lst acc)/\acc.length<=1000000/\∀H5,MT p H4 H5->H5 p=some (.lst (acc++[y]))->k τ H5
theorem HX{elt:Expr}{te:TE}{D:Addr}(h:PE X elt te):PN X (do let _ <-call (.builtin "list.append") [.ref D,<-eval elt X.env]) (Jr te D):=by
 intro pins s τ H k I q
 refine wpAny_bind (cn (h pins s τ H _ I q) fun y s4 ⟨v,H4,I4,r,acc,ha,hz,q4⟩=>?_)
 refine wpAny_bind (cn (mv pins s4 τ H4 (.ref D) [v] (.ref D) [y] (fun _ H5=>k τ H5) I4 rfl (.cons r .nil) ⟨D,acc,v,rfl,rfl,ha,hz,q4⟩) fun _ s5 ⟨_,H5,I5,_,q5⟩=>?_)
 exact wpAny_pure ⟨τ,H5,I5,q5⟩
def ql(wi:TI)(g:TG)(tt:TT)(tl:TL):TL:=fun k τ H=>wi τ H fun J H1=>uK J g tt tl k τ H1
theorem uD{e iter tg:Expr}{ifs:List Expr}{d:Nat}{acc:Value}{inner:Sem Unit}{wi:TI}{g:TG}{tt:TT}{tl:TL}(ce:pV e)(wk:(clausesOf e)[d]? = some ⟨tg,iter,ifs,0⟩)
  (gx:∀it,compTurn e d (.ref it) acc X.env=gI ⟨tg,iter,ifs,0⟩ inner e d (.ref it) acc X.env) (hi:PI X tg iter wi) (hg:PG X tg g) (ht:C3 X ifs tt) (yd:PN X inner tl) (hc:X.calm=true) (L1:X.xe=fun _ _=>False) (hh:X.A.handled=none)
  (hs:∀x,foldedSetIterable iter X.env x=pure x:=by intro _;rfl) :
  PN X (do
   let x <-eval iter X.env
   standAt iter.pos
   let x <-foldedSetIterable iter X.env x
   let _ <-runOwn (.compStart e d (<-holding [x] (pyIter x)) acc X.env) X.env) (ql wi g tt tl):=by
 intro pins s τ H k I q
 have mk:X.A.mark none=X.A:=by cases X;rfl
 refine wpAny_bind (cn (hi pins s τ H _ I q) fun v s1 h1=>wpAny_bind (wpAny_standAt (wpAny_bind (wpAny_of_eq (hs v) (wpAny_bind (wpAny_holding (cn h1 fun LS s2 h2=>?_)))))))
 obtain⟨it,fp,tn,J,H2,e2,I2,T,yD,f2,q2⟩:=h2
 subst e2
 have loop:codeAny (model X.prog X.w) X.A (.compLoop e d (.ref it) acc X.env) (fun r s'=>match r with | .ok f=>(∃iS H',Inv X pins iS H' s'/\k iS H') | .error e=>False) s2:=
  u6 ce (gx it) T hg ht yd hc L1 I2 yD f2 q2 fun iS H' s' I' q'=>⟨iS,H',I',q'⟩
 refine wpAny_bind (wpAny_runOwn (env:=X.env) ?_)
 rw[mk]
 refine sk ce wk rfl ?_ (T.self _ 0 _ _ _ yD ?_)
 all_goals
  refine codeAny_mono loop fun r s' hr=>?_
  cases r with
  |ok f=>exact wpAny_pure hr
  |error e=>exact hr.elim
end
end L2
end
section
namespace L2
open PySem PySem.Spec PyProof.Rows
section
variable {X:Cx}
theorem nI{e:Expr}{g:Comprehension}{inner:Env->Sem Unit}{it:Addr}{acc:Value}{fp:List Addr}{tn:Nat->Heap->Prop}{J:It}{tg:TG}{tt:TT}{tl:TL}{sc:Scope}{ks N2:List Str}(ce:pV e)(wk:(clausesOf e)[0]? = some g)(ha:g.is_async=0)(S:wM X sc ks N2)(hc:X.calm=true)
  (gx:∀it env,compTurn e 0 (.ref it) acc env=gI g (inner env) e 0 (.ref it) acc env) {pins:List (Addr×Obj)}{s:Shared}{σ:St}{H:Hp}{k:St->Hp->Prop} (hb:PG (dE X sc (ks++N2) s.heap.objs.size s H fp pins) g.target tg/\C3 (dE X sc (ks++N2) s.heap.objs.size s H fp pins) g.ifs tt/\PN (dE X sc (ks++N2) s.heap.objs.size s H fp pins) (inner (dE X sc (ks++N2) s.heap.objs.size s H fp pins).env) tl) (I:Inv X pins σ H s) (T:Turn X.prog X.w X.K g.target J fp it tn) (st:tn 0 s.heap) (f:∀b∈fp,n9 X pins H b)
  (h:uK J tg tt tl k (List.replicate ks.length none++σ) H) {E:Value->Shared->Prop}{RR:Addr->Result->Shared->Prop}
  (hRR:∀C o m iS H' s',Inv X (pins++[(C,o)]) σ H' s'->s'.heap.Ns C m->X.h_.heap.objs.size<=C->(∀p∈X.pn++pins,p.1≠C)->k iS H'->RR C (.ok .next) s') :
  wpAny (model X.prog X.w) X.A (newFunctionEnv sc X.env.globals (pv X.env sc.names []) [] X.env.qual none .none (some X.env)) (fun PX s4=>codeAny (model X.prog X.w) X.A (.compStart e 0 (.ref it) acc {PX with scope:=relabel sc X.env}) (RR PX.locals) s4) E s:=by
 refine wpAny_newFunctionEnv S.EU (fun x hx=>absurd hx (by simp)) (fun h1 Rz L9=>?_) S.kind
 have keep:∀b o,s.heap.get? b=some o->h1.get? b=some o:=fun b o e=>(L9.2 b (Nat.ne_of_lt (Heap.lt_size e))).trans (Heap.get?_push_of_some _ e)
 have ho:∀b∈fp,∃o,s.heap.get? b=some o:=fun b hb=>let ⟨o,e,_⟩:=T.obj 0 _ st b hb;⟨o,e⟩
 have I4:=I.block (t':=s.toks+([]:List (Str×Value)).length) S f ho Rz keep
 have Wa:tn 0 h1:=T.keep _ _ _ st fun b _ o e=>keep b o e
 obtain⟨hg,ht,yd⟩:=hb
 have f4:∀b∈fp,n9 (dE X sc (ks++N2) s.heap.objs.size s H fp pins) [] H b:=fun b hb=>by
  obtain⟨f0,f1,f2,f3,f4,f5⟩:=f b hb
  refine⟨f0,?_,fun z=>?_,.inl hb,fun x c e=>f4 x c (S.sub I.ok x c e),fun p hp=>f5 p (by simpa using hp)⟩
  ·obtain⟨o,e⟩:=ho b hb
   exact Nat.ne_of_lt (Heap.lt_size e)
  ·rcases List.mem_cons.mp (I.qJ b z) with z|z
   ·exact f1 z
   ·exact f2 z
 have loop:codeAny (model X.prog X.w) X.A (.compLoop e 0 (.ref it) acc (compEnvC sc (pv X.env sc.names []) s.heap.objs.size X.env)) (RR s.heap.objs.size) {s with heap:=h1,toks:=s.toks+([]:List (Str×Value)).length}:=by
  refine u6 (X:=dE X sc (ks++N2) s.heap.objs.size s H fp pins) ce (gx it _) T hg ht yd hc rfl I4 Wa f4 h fun iS H' s' I' q'=>?_
  obtain⟨m,⟨o,es,ep,gH,qt,r⟩,_⟩:=id I'.loc
  refine hRR s.heap.objs.size o m iS H' s' (Inv.GY I rfl f I' gH fun v z=>?_) ⟨o,es,ep,gH,qt,r⟩ I.sz (fun p hp=>?_) q'
  ·rw[qt] at z;cases z
  ·exact Nat.ne_of_lt (Heap.lt_size (I.pin p hp).1)
 exact sk ce wk ha loop (T.self _ 0 _ _ _ Wa loop)
def jA(X:Cx)(sc:Scope)(N:List Str)(tg:Expr)(ifs:List Expr)(inner:Value->Env->Sem Unit)(u0:HO)(n:Nat)(wi:TI):TE:=fun σ H Q=>wi σ H fun J H1=>∀p H2,H1 p=none->ck H1 H2->H2 p=some u0->(∀b,b≠p->H2 b=H1 b) ->
 ∀C s H0 fp pins,∃g tt tl,PG (dE X sc N C s H0 fp pins) tg g/\C3 (dE X sc N C s H0 fp pins) ifs tt/\PN (dE X sc N C s H0 fp pins) (inner (.ref p) (dE X sc N C s H0 fp pins).env) tl/\uK J g tt tl (fun _ H'=>Q (.ref p) H') (List.replicate n none++σ) H2
theorem Bo{fp:List Addr}{pins:List (Addr×Obj)}{H H':Hp}(f:∀b∈fp,n9 X pins H b)(hn:∀b∈fp,H' b=none):∀b∈fp,n9 X pins H' b:=fun b hb=>⟨hn b hb,(f b hb).2⟩
theorem Ig{elt iter tg:Expr}{ifs:List Expr}{rest:List Comprehension}{sc:Scope}{pos:Pos}{ks N2:List Str}{inner:Value->Env->Sem Unit}{wi:TI}(S:wM X sc ks N2)(hc:X.calm=true)(hi:PI X tg iter wi)
  (gx:∀D it env,compTurn (.ListComp elt (⟨tg,iter,ifs,0⟩::rest) sc pos) 0 (.ref it) (.ref D) env=gI ⟨tg,iter,ifs,0⟩ (inner (.ref D) env) (.ListComp elt (⟨tg,iter,ifs,0⟩::rest) sc pos) 0 (.ref it) (.ref D) env)
  (hs:∀x,foldedSetIterable iter X.env x=pure x:=by intro _;rfl):PE X (.ListComp elt (⟨tg,iter,ifs,0⟩::rest) sc pos) (jA X sc (ks++N2) tg ifs inner (.lst []) ks.length wi):=by
 intro pins s σ H Q I h
 rw[eval_ListComp]
 refine wpAny_comprehension_free (use:=none) rfl hs (g7 (S.cells I.ok)) S.kind S.names (cn (hi pins s σ H _ I h) fun v s1 h1=>cn h1 fun LS s2 h2=>?_)
 obtain⟨it,fp,tn,J,H2,e2,I2,T,yD,f2,q2⟩:=h2
 subst e2
 refine wpAny_newObj_type ?_
 have I3:=I2.LI (ys:=[]) (its:=[]) (t':=s2.toks) .nil (Nat.zero_le _)
 have hn:H2 s2.heap.objs.size=none:=I2.cg.fresh (Nat.le_refl _)
 have BJ:tn 0 (s2.heap.push {cls:=.type "list",data:=.seq ([]:List Value).toArray}):=T.keep _ _ _ yD fun b _ o e=>Heap.get?_push_of_some _ e
 have f3:=Bo (H':=upd H2 s2.heap.objs.size (.lst [])) f2 fun b hb=>by
  obtain⟨o,e,_⟩:=T.obj 0 _ yD b hb
  rw[aE (Nat.ne_of_lt (Heap.lt_size e))]
  exact(f2 b hb).1
 obtain⟨g,tt,tl,hg,ht,yd,loop⟩:=q2 _ _ hn (ck.upd hn) aB (fun b hb=>aE hb) _ _ _ fp pins
 refine nI (inner:=inner (.ref s2.heap.objs.size)) (RR:=compPost (model X.prog X.w) X.A X.xe none (EP X pins σ Q) (.ref s2.heap.objs.size)) jY rfl rfl S hc (gx _) ⟨hg,ht,yd⟩ I3 T BJ f3 loop fun C o m iS H' s' I' hm hz hp q'=>?_
 exact⟨m,hm,fun h' IU=>⟨.ref s2.heap.objs.size,H',I'.loose hz hp IU,rfl,q'⟩⟩
theorem rf{elt iter tg:Expr}{ifs:List Expr}{rest:List Comprehension}{sc:Scope}{pos jC py:Pos}{y:Str}{ks N2:List Str}{inner:Value->Env->Sem Unit}{wi:TI}{gy:TG}(S:wM X sc ks N2)(hc:X.calm=true)(hi:PI X tg iter wi)
  (gx:∀D it env,compTurn (.ListComp elt (⟨tg,iter,ifs,0⟩::rest) sc pos) 0 (.ref it) (.ref D) env=gI ⟨tg,iter,ifs,0⟩ (inner (.ref D) env) (.ListComp elt (⟨tg,iter,ifs,0⟩::rest) sc pos) 0 (.ref it) (.ref D) env)
  (hy:PG X (.Name y py) gy) (Cw:swapsWith (.ListComp elt (⟨tg,iter,ifs,0⟩::rest) sc pos) (some (.Name y py)) jC.line X.env=pure true)
  (hs:∀x,foldedSetIterable iter X.env x=pure x:=by intro _;rfl):PS X (.Assign [.Name y py] (.ListComp elt (⟨tg,iter,ifs,0⟩::rest) sc pos) jC) (yW (jA X sc (ks++N2) tg ifs inner (.lst []) ks.length wi) gy):=by
 intro pins s σ H D I h
 rw[exec_Assign_Name_used _ _ _ _ Cw]
 refine wpAny_bind (wpAny_standAt (wpAny_bind ?_))
 show wpAny _ X.A (do let _ <-comprehension (.ListComp elt (⟨tg,iter,ifs,0⟩::rest) sc pos) sc X.env _ (newList []) false (eval iter X.env) (some (assign (.Name y py) X.env))) _ _ s
 refine wpAny_bind (cn (wpAny_comprehension_free (use:=some (assign (.Name y py) X.env)) (Q:=fun _ s'=>∃bR H',Inv X pins bR H' s'/\D.nx bR H') rfl hs (g7 (S.cells I.ok)) S.kind S.names (cn (hi pins s σ H _ I h) fun v s1 h1=>cn h1 fun LS s2 h2=>?_)) fun _ s' q=>wpAny_pure (wpAny_pure q))
 obtain⟨it,fp,tn,J,H2,e2,I2,T,yD,f2,q2⟩:=h2
 subst e2
 refine wpAny_newObj_type ?_
 have I3:=I2.LI (ys:=[]) (its:=[]) (t':=s2.toks) .nil (Nat.zero_le _)
 have hn:H2 s2.heap.objs.size=none:=I2.cg.fresh (Nat.le_refl _)
 have BJ:tn 0 (s2.heap.push {cls:=.type "list",data:=.seq ([]:List Value).toArray}):=T.keep _ _ _ yD fun b _ o e=>Heap.get?_push_of_some _ e
 have f3:=Bo (H':=upd H2 s2.heap.objs.size (.lst [])) f2 fun b hb=>by
  obtain⟨o,e,_⟩:=T.obj 0 _ yD b hb
  rw[aE (Nat.ne_of_lt (Heap.lt_size e))]
  exact(f2 b hb).1
 obtain⟨g,tt,tl,hg,ht,yd,loop⟩:=q2 _ _ hn (ck.upd hn) aB (fun b hb=>aE hb) _ _ _ fp pins
 refine nI (inner:=inner (.ref s2.heap.objs.size)) (RR:=compPost (model X.prog X.w) X.A X.xe (some (assign (.Name y py) X.env)) (fun _ s'=>∃bR H',Inv X pins bR H' s'/\D.nx bR H') (.ref s2.heap.objs.size)) jY rfl rfl S hc (gx _) ⟨hg,ht,yd⟩ I3 T BJ f3 loop fun C o m iS H' s' I' hm hz hp q'=>?_
 refine cn (hy _ s' σ H' (.ref s2.heap.objs.size) (.ref s2.heap.objs.size) _ I' rfl q') fun _ HE ⟨J7,lE,Qn,SU⟩=>?_
 obtain⟨o',es,ep,gH,r⟩:=hm
 have e:=(I'.pin (C,o) (by simp)).1
 have e':HE.heap.get? C=some o:=(Qn.pin (C,o) (by simp)).1
 have e:s'.heap.get? C=some o:=e
 rw[gH] at e
 obtain rfl:o'=o:=Option.some.inj e
 exact⟨m,⟨o',es,ep,e',r⟩,fun h' IU=>⟨J7,lE,Qn.loose hz hp IU,SU⟩⟩
theorem CN{pins:List (Addr×Obj)}{σ:St}{H H':Hp}{s:Shared}{a:Addr}{y v:V}{u r:Value}{A:Around}{E:Value->Shared->Prop}{Q:Unit->Shared->Prop}(hu:A.units+1<cLine)(I:Inv X pins σ H s)(g:t4 H a y v H')(ry:RelV y u)(rv:RelV v r)(h:∀s',Inv X pins σ H' s'->Q () s') :
  wpAny (model X.prog X.w) A (dictSet a u r) Q E s:=by
 rcases g with⟨av,k,e,ey,l,eH⟩|⟨av,k,b,e,ey,eb,l,eH⟩
 ·subst ey eH
  obtain⟨z,hd,vs,rel,dd⟩:=Bc I.cg e
  have hz:vs.length<=sizeLine:=by rw[<-rel.length];exact z
  have hl:(putK av k v).length<=sizeLine:=by have:=g_ av k v;omega
  refine wpAny_dictSet_pairs (hsz:=hz) (j8 ry) dd fun h' u5 hs=>h _ ?_
  have he:∃q,h'.get? a=some q:=let ⟨q,_,_,hq,_⟩:=u5;⟨q,hq⟩
  exact lA I (by rw[e];exact True.intro) hs he (ph hl hd (rel.put k rv) u5)
 ·subst ey eH
  cases (show u=Value.ref b from ry)
  obtain⟨z,hd,xs,rel,dd⟩:=JX I.cg e
  have hz:xs.length<=sizeLine:=by rw[<-Paired.length rel];exact z
  have hl:(putK av k v).length<=sizeLine:=by have:=g_ av k v;omega
  refine wpAny_dictSet_heap (hsz:=hz) (by show A.units<cLine;omega) (mz I.cg eb) dd fun h' u5 hs=>h _ ?_
  obtain⟨q,es,ep,hq,h2,h3,h4,_,h5⟩:=u5
  refine lA I (by rw[e];exact True.intro) hs ⟨q,hq⟩ ⟨hl,hd,_,(rel.put k eb rv).keeps fun c ys ec=>?_,q,es,ep,hq,h2,h3,h4,h5⟩
  rw[aE (EW ec e (fun z=>nomatch z))]
  exact ec
def Dv(tk tv:TE)(p:Addr):TL:=fun k τ H=>tk τ H fun y H1=>tv τ H1 fun z H2=>∃H3,t4 H2 p y z H3/\k τ H3
theorem Ez{kx vx:Expr}{tk tv:TE}{D:Addr}{q:Pos}(hu:X.A.units+1<cLine)(hk:PE X kx tk)(hv:PE X vx tv):PN X (do
      let kv <-eval kx X.env
      let vv <-holding [kv] (eval vx X.env)
      standAt q
      holding [kv,vv] (dictSet D kv vv)) (Dv tk tv D):=by
 intro pins s τ H k I h
 refine wpAny_bind (cn (hk pins s τ H _ I h) fun yv s1 ⟨y,H1,I1,ry,q1⟩=>wpAny_bind (wpAny_holding (cn (hv pins s1 τ H1 _ I1 q1) fun zv s2 ⟨z,H2,I2,rz,H3,hp,q2⟩=>wpAny_bind (wpAny_standAt (wpAny_holding ?_)))))
 exact CN hu I2 hp ry rz fun s' I'=>⟨τ,H3,I',q2⟩
def d0:Bool->HO
 |false=>.dK []
 |true=>.dT []
theorem Inv.PL{pins:List (Addr×Obj)}{σ:St}{H:Hp}{s:Shared}(I:Inv X pins σ H s)(t:Bool):Inv X pins σ (upd H s.heap.objs.size (d0 t)) {s with heap:=s.heap.push {cls:=.type "dict",data:=.dict #[]}}:=by
 cases t with
 |false=>exact I.laid (a:=s.heap.objs.size) (o:=.dK []) (t':=s.toks) (fun _ _ q=>Heap.get?_push_of_some _ q) (Nat.le_refl _) (r8 s.heap I.big)
 |true=>exact I.laid (a:=s.heap.objs.size) (o:=.dT []) (t':=s.toks) (fun _ _ q=>Heap.get?_push_of_some _ q) (Nat.le_refl _) (FJ s.heap I.big)
theorem rZ(kx vx gens scope pos){env:Env}:eval (.DictComp kx vx gens scope pos) env =
  comprehension (.DictComp kx vx gens scope pos) scope env (firstIterPos gens pos) newDict (firstAsync gens) (firstIter gens env):=rfl
theorem EH(t:Bool){kx vx iter tg:Expr}{ifs:List Expr}{rest:List Comprehension}{sc:Scope}{pos:Pos}{ks N2:List Str}{inner:Value->Env->Sem Unit}{wi:TI}(S:wM X sc ks N2)(hc:X.calm=true)(hi:PI X tg iter wi)
  (gx:∀D it env,compTurn (.DictComp kx vx (⟨tg,iter,ifs,0⟩::rest) sc pos) 0 (.ref it) (.ref D) env=gI ⟨tg,iter,ifs,0⟩ (inner (.ref D) env) (.DictComp kx vx (⟨tg,iter,ifs,0⟩::rest) sc pos) 0 (.ref it) (.ref D) env)
  (hs:∀x,foldedSetIterable iter X.env x=pure x:=by intro _;rfl):PE X (.DictComp kx vx (⟨tg,iter,ifs,0⟩::rest) sc pos) (jA X sc (ks++N2) tg ifs inner (d0 t) ks.length wi):=by
 intro pins s σ H Q I h
 rw[rZ]
 refine wpAny_comprehension_free (use:=none) rfl hs (g7 (S.cells I.ok)) S.kind S.names (cn (hi pins s σ H _ I h) fun v s1 h1=>cn h1 fun LS s2 h2=>?_)
 obtain⟨it,fp,tn,J,H2,e2,I2,T,yD,f2,q2⟩:=h2
 subst e2
 refine wpAny_newObj_type ?_
 have I3:=I2.PL t
 have hn:H2 s2.heap.objs.size=none:=I2.cg.fresh (Nat.le_refl _)
 have BJ:tn 0 (s2.heap.push {cls:=.type "dict",data:=.dict #[]}):=T.keep _ _ _ yD fun b _ o e=>Heap.get?_push_of_some _ e
 have f3:=Bo (H':=upd H2 s2.heap.objs.size (d0 t)) f2 fun b hb=>by
  obtain⟨o,e,_⟩:=T.obj 0 _ yD b hb
  rw[aE (Nat.ne_of_lt (Heap.lt_size e))]
  exact(f2 b hb).1
 obtain⟨g,tt,tl,hg,ht,yd,loop⟩:=q2 _ _ hn (ck.upd hn) aB (fun b hb=>aE hb) _ _ _ fp pins
 refine nI (inner:=inner (.ref s2.heap.objs.size)) (RR:=compPost (model X.prog X.w) X.A X.xe none (EP X pins σ Q) (.ref s2.heap.objs.size)) sq rfl rfl S hc (gx _) ⟨hg,ht,yd⟩ I3 T BJ f3 loop fun C o m iS H' s' I' hm hz hp q'=>?_
 exact⟨m,hm,fun h' IU=>⟨.ref s2.heap.objs.size,H',I'.loose hz hp IU,rfl,q'⟩⟩
theorem xD(t:Bool){kx vx iter tg:Expr}{ifs:List Expr}{rest:List Comprehension}{sc:Scope}{pos jC py:Pos}{y:Str}{ks N2:List Str}{inner:Value->Env->Sem Unit}{wi:TI}{gy:TG}(S:wM X sc ks N2)(hc:X.calm=true)(hi:PI X tg iter wi)
  (gx:∀D it env,compTurn (.DictComp kx vx (⟨tg,iter,ifs,0⟩::rest) sc pos) 0 (.ref it) (.ref D) env=gI ⟨tg,iter,ifs,0⟩ (inner (.ref D) env) (.DictComp kx vx (⟨tg,iter,ifs,0⟩::rest) sc pos) 0 (.ref it) (.ref D) env)
  (hy:PG X (.Name y py) gy) (Cw:swapsWith (.DictComp kx vx (⟨tg,iter,ifs,0⟩::rest) sc pos) (some (.Name y py)) jC.line X.env=pure true)
  (hs:∀x,foldedSetIterable iter X.env x=pure x:=by intro _;rfl):PS X (.Assign [.Name y py] (.DictComp kx vx (⟨tg,iter,ifs,0⟩::rest) sc pos) jC) (yW (jA X sc (ks++N2) tg ifs inner (d0 t) ks.length wi) gy):=by
 intro pins s σ H D I h
 rw[exec_Assign_Name_used _ _ _ _ Cw]
 refine wpAny_bind (wpAny_standAt (wpAny_bind ?_))
 show wpAny _ X.A (do let _ <-comprehension (.DictComp kx vx (⟨tg,iter,ifs,0⟩::rest) sc pos) sc X.env _ newDict false (eval iter X.env) (some (assign (.Name y py) X.env))) _ _ s
 refine wpAny_bind (cn (wpAny_comprehension_free (use:=some (assign (.Name y py) X.env)) (Q:=fun _ s'=>∃bR H',Inv X pins bR H' s'/\D.nx bR H') rfl hs (g7 (S.cells I.ok)) S.kind S.names (cn (hi pins s σ H _ I h) fun v s1 h1=>cn h1 fun LS s2 h2=>?_)) fun _ s' q=>wpAny_pure (wpAny_pure q))
 obtain⟨it,fp,tn,J,H2,e2,I2,T,yD,f2,q2⟩:=h2
 subst e2
 refine wpAny_newObj_type ?_
 have I3:=I2.PL t
 have hn:H2 s2.heap.objs.size=none:=I2.cg.fresh (Nat.le_refl _)
 have BJ:tn 0 (s2.heap.push {cls:=.type "dict",data:=.dict #[]}):=T.keep _ _ _ yD fun b _ o e=>Heap.get?_push_of_some _ e
 have f3:=Bo (H':=upd H2 s2.heap.objs.size (d0 t)) f2 fun b hb=>by
  obtain⟨o,e,_⟩:=T.obj 0 _ yD b hb
  rw[aE (Nat.ne_of_lt (Heap.lt_size e))]
  exact(f2 b hb).1
 obtain⟨g,tt,tl,hg,ht,yd,loop⟩:=q2 _ _ hn (ck.upd hn) aB (fun b hb=>aE hb) _ _ _ fp pins
 refine nI (inner:=inner (.ref s2.heap.objs.size)) (RR:=compPost (model X.prog X.w) X.A X.xe (some (assign (.Name y py) X.env)) (fun _ s'=>∃bR H',Inv X pins bR H' s'/\D.nx bR H') (.ref s2.heap.objs.size)) sq rfl rfl S hc (gx _) ⟨hg,ht,yd⟩ I3 T BJ f3 loop fun C o m iS H' s' I' hm hz hp q'=>?_
 refine cn (hy _ s' σ H' (.ref s2.heap.objs.size) (.ref s2.heap.objs.size) _ I' rfl q') fun _ HE ⟨J7,lE,Qn,SU⟩=>?_
 obtain⟨o',es,ep,gH,r⟩:=hm
 have e:=(I'.pin (C,o) (by simp)).1
 have e':HE.heap.get? C=some o:=(Qn.pin (C,o) (by simp)).1
 have e:s'.heap.get? C=some o:=e
 rw[gH] at e
 obtain rfl:o'=o:=Option.some.inj e
 exact⟨m,⟨o',es,ep,e',r⟩,fun h' IU=>⟨J7,lE,Qn.loose hz hp IU,SU⟩⟩
end
end L2
end
section
namespace VS
open PySem L2
inductive DK where
 |s (k:Key)|t (ks:List Key)
 deriving DecidableEq
inductive D where
 |bH|bl (b:Bool)|int (i:Int)|str (x:Str)|fn (a:Addr)
 |tup (ds:List D)|lst (o:Bool) (ds:List D)|cB (o t:Bool) (ks:List DK) (ds:List D)
abbrev Set:=Addr->Prop
def cx:Set:=fun _=>False
def DictAt:Bool->HO->List DK->List V->Prop
 |false,ho,ks,vs=>∃kl:List Key,ks=kl.map .s/\kl.length=vs.length/\kl.Nodup/\ho=.dK (kl.zip vs)
 |true,ho,ks,vs=>∃kl:List (List Key),ks=kl.map .t/\kl.length=vs.length/\kl.Nodup/\ho=.dT (kl.zip vs)
mutual
def Own(Z:Set)(H:Hp):D->V->Set->Prop
 | .bH,v,_=>v=.bH
 | .bl b,v,_=>v=.bl b
 | .int i,v,_=>v=.int i
 | .str x,v,_=>v=.str x
 | .fn a,v,_=>v=.ref a
 | .tup ds,v,F=>∃a vs,v=.ref a/\H a=some (.tup vs)/\ar Z H ds vs F
 | .lst true ds,v,F=>∃a vs,v=.ref a/\H a=some (.lst vs)/\F a/\ar Z H ds vs (fun b=>F b/\b≠a)
 | .lst false ds,v,_=>∃a vs,v=.ref a/\Rd H a (.lst vs)/\Z a/\ar Z H ds vs cx
 | .cB true t ks ds,v,F=>∃a vs u,v=.ref a/\H a=some u/\DictAt t u ks vs/\F a/\ar Z H ds vs (fun b=>F b/\b≠a)
 | .cB false t ks ds,v,_=>∃a vs u,v=.ref a/\Rd H a u/\DictAt t u ks vs/\Z a/\ar Z H ds vs cx
def ar(Z:Set)(H:Hp):List D->List V->Set->Prop
 | [],vs,_=>vs=[]
 |d::ds,vs,F=>∃v r F1 F2,vs=v::r/\Own Z H d v F1/\ar Z H ds r F2/\(∀b,F1 b->F b)/\(∀b,F2 b->F b)/\(∀b,F1 b->¬F2 b)
end
mutual
def bare:D->Bool
 | .tup ds=>a9 ds
 | .lst o ds=>!o&&a9 ds
 | .cB o _ _ ds=>!o&&a9 ds
 |_=>true
def a9:List D->Bool
 | []=>true
 |d::r=>bare d&&a9 r
end
mutual
def eX:D->Bool
 | .tup ds=>jR ds
 | .lst o ds=>o&&jR ds
 | .cB o _ _ ds=>o&&jR ds
 |_=>true
def jR:List D->Bool
 | []=>true
 |d::r=>eX d&&jR r
end
mutual
def aU:D->D
 | .tup ds=>.tup (eA ds)
 | .lst _ ds=>.lst false (eA ds)
 | .cB _ t ks ds=>.cB false t ks (eA ds)
 | .bH=>.bH | .bl b=>.bl b | .int i=>.int i | .str x=>.str x | .fn a=>.fn a
def eA:List D->List D
 | []=>[]
 |d::r=>aU d::eA r
end
section
variable {Z Z':Set}{H H':Hp}{F F':Set}
theorem Rd.up{a:Addr}{u:HO}(k:∀o,H a=some o->H' a=some o)(h:Rd H a u):Rd H' a u:=h.elim (fun e=>.inl (k _ e)) fun⟨o,e⟩=>.inr ⟨o,k _ e⟩
mutual
theorem Own.step(W:Set)(hZ:∀a,Z a->Z' a)(k:∀a o,H a=some o->¬W a->H' a=some o)(wz:∀a,W a->¬Z a)(wt:∀a vs,W a->¬H a=some (.tup vs)):∀(d:D) {v:V}{F F':Set},(∀a,F a->F' a)->(∀a,W a->¬F a)->Own Z H d v F->Own Z' H' d v F'
 | .bH,v,F,F',_,_,h=>by simpa only [Own] using h
 | .bl b,v,F,F',_,_,h=>by simpa only [Own] using h
 | .int i,v,F,F',_,_,h=>by simpa only [Own] using h
 | .str x,v,F,F',_,_,h=>by simpa only [Own] using h
 | .fn a,v,F,F',_,_,h=>by simpa only [Own] using h
 | .tup ds,v,F,F',hF,hW,h=>by
  simp only[Own] at h ⊢
  obtain⟨a,vs,e,hr,hl⟩:=h
  exact⟨a,vs,e,k a _ hr fun z=>wt a vs z hr,ar.step W hZ k wz wt ds hF hW hl⟩
 | .lst true ds,v,F,F',hF,hW,h=>by
  simp only[Own] at h ⊢
  obtain⟨a,vs,e,hr,ha,hl⟩:=h
  exact⟨a,vs,e,k a _ hr fun z=>hW a z ha,hF a ha,ar.step W hZ k wz wt ds (fun b hb=>⟨hF b hb.1,hb.2⟩) (fun b hb z=>hW b hb z.1) hl⟩
 | .lst false ds,v,F,F',hF,hW,h=>by
  simp only[Own] at h ⊢
  obtain⟨a,vs,e,hr,ha,hl⟩:=h
  exact⟨a,vs,e,Rd.up (fun o q=>k a o q fun z=>wz a z ha) hr,hZ a ha,ar.step W hZ k wz wt ds (fun _ z=>z) (fun _ _ z=>z) hl⟩
 | .cB true t ks ds,v,F,F',hF,hW,h=>by
  simp only[Own] at h ⊢
  obtain⟨a,vs,u,e,hr,hd,ha,hl⟩:=h
  exact⟨a,vs,u,e,k a _ hr fun z=>hW a z ha,hd,hF a ha,ar.step W hZ k wz wt ds (fun b hb=>⟨hF b hb.1,hb.2⟩) (fun b hb z=>hW b hb z.1) hl⟩
 | .cB false t ks ds,v,F,F',hF,hW,h=>by
  simp only[Own] at h ⊢
  obtain⟨a,vs,u,e,hr,hd,ha,hl⟩:=h
  exact⟨a,vs,u,e,Rd.up (fun o q=>k a o q fun z=>wz a z ha) hr,hd,hZ a ha,ar.step W hZ k wz wt ds (fun _ z=>z) (fun _ _ z=>z) hl⟩
theorem ar.step(W:Set)(hZ:∀a,Z a->Z' a)(k:∀a o,H a=some o->¬W a->H' a=some o)(wz:∀a,W a->¬Z a)(wt:∀a vs,W a->¬H a=some (.tup vs)):∀(ds:List D) {vs:List V}{F F':Set},(∀a,F a->F' a)->(∀a,W a->¬F a)->ar Z H ds vs F->ar Z' H' ds vs F'
 | [],vs,F,F',_,_,h=>by simpa only [ar] using h
 |d::ds,vs,F,F',hF,hW,h=>by
  simp only[ar] at h ⊢
  obtain⟨v,r,F1,F2,e,h1,h2,s1,s2,dj⟩:=h
  exact⟨v,r,F1,F2,e,Own.step W hZ k wz wt d (fun _ z=>z) (fun b hb z=>hW b hb (s1 b z)) h1,ar.step W hZ k wz wt ds (fun _ z=>z) (fun b hb z=>hW b hb (s2 b z)) h2,fun b z=>hF b (s1 b z),fun b z=>hF b (s2 b z),dj⟩
end
theorem Own.mono{d:D}{v:V}(hF:∀a,F a->F' a)(h:Own Z H d v F):Own Z H d v F':=Own.step (fun _=>False) (fun _ z=>z) (fun _ _ e _=>e) (fun _ z=>z.elim) (fun _ _ z=>z.elim) d hF (fun _ z=>z.elim) h
theorem ar.mono{ds:List D}{vs:List V}(hF:∀a,F a->F' a)(h:ar Z H ds vs F):ar Z H ds vs F':=ar.step (fun _=>False) (fun _ z=>z) (fun _ _ e _=>e) (fun _ z=>z.elim) (fun _ _ z=>z.elim) ds hF (fun _ z=>z.elim) h
theorem Own.grow{d:D}{v:V}(hs:ck H H')(h:Own Z H d v F):Own Z H' d v F:=Own.step (fun _=>False) (fun _ z=>z) (fun a o e _=>hs a o e) (fun _ z=>z.elim) (fun _ _ z=>z.elim) d (fun _ z=>z) (fun _ z=>z.elim) h
theorem ar.grow{ds:List D}{vs:List V}(hs:ck H H')(h:ar Z H ds vs F):ar Z H' ds vs F:=ar.step (fun _=>False) (fun _ z=>z) (fun a o e _=>hs a o e) (fun _ z=>z.elim) (fun _ _ z=>z.elim) ds (fun _ z=>z) (fun _ z=>z.elim) h
end
theorem Own.iB{Z Z':Set}{H:Hp}{d:D}{v:V}{F:Set}(h:Own Z H d v F)(hZ:∀a,Z a->Z' a):Own Z' H d v F:=Own.step (fun _=>False) hZ (fun _ _ e _=>e) (fun _ z=>z.elim) (fun _ _ z=>z.elim) d (fun _ z=>z) (fun _ z=>z.elim) h
theorem ar.iB{Z Z':Set}{H:Hp}{ds:List D}{vs:List V}{F:Set}(h:ar Z H ds vs F)(hZ:∀a,Z a->Z' a):ar Z' H ds vs F:=ar.step (fun _=>False) hZ (fun _ _ e _=>e) (fun _ z=>z.elim) (fun _ _ z=>z.elim) ds (fun _ z=>z) (fun _ z=>z.elim) h
section
variable {Z Z':Set}{H H':Hp}{F F':Set}
mutual
theorem Own.aU:∀(d:D) {v:V}{F:Set},Own Z H d v F->Own (fun a=>Z a\/F a) H (aU d) v cx
 | .bH,v,F,h=>by simpa only [Own,VS.aU] using h
 | .bl b,v,F,h=>by simpa only [Own,VS.aU] using h
 | .int i,v,F,h=>by simpa only [Own,VS.aU] using h
 | .str x,v,F,h=>by simpa only [Own,VS.aU] using h
 | .fn a,v,F,h=>by simpa only [Own,VS.aU] using h
 | .tup ds,v,F,h=>by
  simp only[Own,VS.aU] at h ⊢
  obtain⟨a,vs,e,hr,hl⟩:=h
  exact⟨a,vs,e,hr,ar.aU ds hl⟩
 | .lst true ds,v,F,h=>by
  simp only[Own,VS.aU] at h ⊢
  obtain⟨a,vs,e,hr,ha,hl⟩:=h
  exact⟨a,vs,e,.inl hr,.inr ha,ar.iB (ar.aU ds hl) fun b z=>z.elim .inl fun z=>.inr z.1⟩
 | .lst false ds,v,F,h=>by
  simp only[Own,VS.aU] at h ⊢
  obtain⟨a,vs,e,hr,ha,hl⟩:=h
  exact⟨a,vs,e,hr,.inl ha,ar.iB (ar.aU ds hl) fun b z=>z.elim .inl fun z=>z.elim⟩
 | .cB true t ks ds,v,F,h=>by
  simp only[Own,VS.aU] at h ⊢
  obtain⟨a,vs,u,e,hr,hd,ha,hl⟩:=h
  exact⟨a,vs,u,e,.inl hr,hd,.inr ha,ar.iB (ar.aU ds hl) fun b z=>z.elim .inl fun z=>.inr z.1⟩
 | .cB false t ks ds,v,F,h=>by
  simp only[Own,VS.aU] at h ⊢
  obtain⟨a,vs,u,e,hr,hd,ha,hl⟩:=h
  exact⟨a,vs,u,e,hr,hd,.inl ha,ar.iB (ar.aU ds hl) fun b z=>z.elim .inl fun z=>z.elim⟩
theorem ar.aU:∀(ds:List D) {vs:List V}{F:Set},ar Z H ds vs F->ar (fun a=>Z a\/F a) H (eA ds) vs cx
 | [],vs,F,h=>by simpa only [ar,VS.eA] using h
 |d::ds,vs,F,h=>by
  simp only[ar,VS.eA] at h ⊢
  obtain⟨v,r,F1,F2,e,h1,h2,s1,s2,dj⟩:=h
  refine⟨v,r,cx,cx,e,Own.iB (Own.aU d h1) fun b z=>z.imp id (s1 b),ar.iB (ar.aU ds h2) fun b z=>z.imp id (s2 b),fun _ z=>z,fun _ z=>z,fun _ z _=>z⟩
end
end
end VS
end
section
namespace VS
open PySem L2
section
variable {Z Z':Set}{H H':Hp}{F F':Set}
mutual
theorem Own.bare:∀(d:D) {v:V}{F:Set},bare d=true->Own Z H d v F->Own Z H d v cx
 | .bH,v,F,_,h=>by simpa only [Own] using h
 | .bl b,v,F,_,h=>by simpa only [Own] using h
 | .int i,v,F,_,h=>by simpa only [Own] using h
 | .str x,v,F,_,h=>by simpa only [Own] using h
 | .fn a,v,F,_,h=>by simpa only [Own] using h
 | .tup ds,v,F,hb,h=>by
  simp only[Own,VS.bare] at h hb ⊢
  obtain⟨a,vs,e,hr,hl⟩:=h
  exact⟨a,vs,e,hr,ar.bare ds hb hl⟩
 | .lst true ds,v,F,hb,h=>by simp[VS.bare] at hb
 | .lst false ds,v,F,_,h=>by simpa only [Own] using h
 | .cB true t ks ds,v,F,hb,h=>by simp[VS.bare] at hb
 | .cB false t ks ds,v,F,_,h=>by simpa only [Own] using h
theorem ar.bare:∀(ds:List D) {vs:List V}{F:Set},a9 ds=true->ar Z H ds vs F->ar Z H ds vs cx
 | [],vs,F,_,h=>by simpa only [ar] using h
 |d::ds,vs,F,hb,h=>by
  simp only[ar,VS.a9,Bool.and_eq_true] at h hb ⊢
  obtain⟨v,r,F1,F2,e,h1,h2,s1,s2,dj⟩:=h
  exact⟨v,r,cx,cx,e,Own.bare d hb.1 h1,ar.bare ds hb.2 h2,fun _ z=>z,fun _ z=>z,fun _ z _=>z⟩
end
mutual
theorem Own.eX:∀(d:D) {v:V}{F:Set},eX d=true->Own Z H d v F->Own Z' H d v F
 | .bH,v,F,_,h=>by simpa only [Own] using h
 | .bl b,v,F,_,h=>by simpa only [Own] using h
 | .int i,v,F,_,h=>by simpa only [Own] using h
 | .str x,v,F,_,h=>by simpa only [Own] using h
 | .fn a,v,F,_,h=>by simpa only [Own] using h
 | .tup ds,v,F,hb,h=>by
  simp only[Own,VS.eX] at h hb ⊢
  obtain⟨a,vs,e,hr,hl⟩:=h
  exact⟨a,vs,e,hr,ar.eX ds hb hl⟩
 | .lst false ds,v,F,hb,h=>by simp[VS.eX] at hb
 | .lst true ds,v,F,hb,h=>by
  simp only[Own,VS.eX,Bool.true_and] at h hb ⊢
  obtain⟨a,vs,e,hr,ha,hl⟩:=h
  exact⟨a,vs,e,hr,ha,ar.eX ds hb hl⟩
 | .cB false t ks ds,v,F,hb,h=>by simp[VS.eX] at hb
 | .cB true t ks ds,v,F,hb,h=>by
  simp only[Own,VS.eX,Bool.true_and] at h hb ⊢
  obtain⟨a,vs,u,e,hr,hd,ha,hl⟩:=h
  exact⟨a,vs,u,e,hr,hd,ha,ar.eX ds hb hl⟩
theorem ar.eX:∀(ds:List D) {vs:List V}{F:Set},jR ds=true->ar Z H ds vs F->ar Z' H ds vs F
 | [],vs,F,_,h=>by simpa only [ar] using h
 |d::ds,vs,F,hb,h=>by
  simp only[ar,VS.jR,Bool.and_eq_true] at h hb ⊢
  obtain⟨v,r,F1,F2,e,h1,h2,s1,s2,dj⟩:=h
  exact⟨v,r,F1,F2,e,Own.eX d hb.1 h1,ar.eX ds hb.2 h2,s1,s2,dj⟩
end
mutual
theorem FV:∀d:D,bare (aU d)=true
 | .tup ds=>by simp only[aU,bare];exact lC ds
 | .lst _ ds=>by simp only[aU,bare];simpa using lC ds
 | .cB _ _ _ ds=>by simp only[aU,bare];simpa using lC ds
 | .bH=>rfl | .bl _=>rfl | .int _=>rfl | .str _=>rfl | .fn _=>rfl
theorem lC:∀ds:List D,a9 (eA ds)=true
 | []=>rfl
 |d::r=>by simp only[eA,a9,FV d,lC r,Bool.and_self]
end
mutual
theorem Fz:∀d:D,bare d=true->aU d=d
 | .tup ds,h=>by simp only[bare] at h;simp only[aU,lx ds h]
 | .lst o ds,h=>by
  simp only[bare,Bool.and_eq_true,Bool.not_eq_true'] at h
  simp only[aU,lx ds h.2,h.1]
 | .cB o _ _ ds,h=>by
  simp only[bare,Bool.and_eq_true,Bool.not_eq_true'] at h
  simp only[aU,lx ds h.2,h.1]
 | .bH,_=>rfl | .bl _,_=>rfl | .int _,_=>rfl | .str _,_=>rfl | .fn _,_=>rfl
theorem lx:∀ds:List D,a9 ds=true->eA ds=ds
 | [],_=>rfl
 |d::r,h=>by
  simp only[a9,Bool.and_eq_true] at h
  simp only[eA,Fz d h.1,lx r h.2]
end
end
abbrev ai:=List (Option D)
def mJ:Option HO->Prop
 |some (.lst _)=>True
 |some (.dK _)=>True
 |some (.dT _)=>True
 |_=>False
theorem mJ.ne{o:Option HO}(h:mJ o):o≠none:=fun z=>by rw[z] at h;exact h
theorem mJ.gG{H:Hp}{a:Addr}{vs:List V}(h:mJ (H a)):¬H a=some (.tup vs):=fun z=>by rw[z] at h;exact h
theorem mJ.up{H H':Hp}{a:Addr}(h:mJ (H a))(k:∀o,H a=some o->H' a=some o):mJ (H' a):=by
 cases e:H a with
 |none=>rw[e] at h;exact h.elim
 |some o=>rw[k o e,<-e];exact h
def cT(φ:Nat->Set):Set:=fun a=>∃i,φ i a
structure Ok(Z:Set)(H:Hp)(env:ai)(σ:St)(φ:Nat->Set):Prop where
 own:∀i d,env[i]? = some (some d)->∃v,σ[i]? = some (some v)/\Own Z H d v (φ i)
 dj:∀i j a,φ i a->φ j a->i=j
 fz:∀i a,φ i a->¬Z a
 fm:∀i a,φ i a->mJ (H a)
 zh:∀a,Z a->H a≠none
 len:env.length=σ.length
structure Res(Z:Set)(H:Hp)(F:Set)(Z':Set)(H':Hp)(F' G:Set):Prop where
 z:∀a,Z a->Z' a
 zn:∀a,Z' a->Z a\/F a\/H a=none
 k:∀a o,H a=some o->¬F a->H' a=some o
 f:∀a,F' a->F a\/H a=none
 g:∀a,G a->F a\/H a=none
 d:∀a,F' a->¬G a
 gz:∀a,G a->¬Z' a
 gm:∀a,G a->mJ (H' a)
section
variable {Z Z1 Z2:Set}{H H1 H2:Hp}{F F1 F2 G G1 G2:Set}{env aK:ai}{σ:St}{φ bE:Nat->Set}
theorem Res.refl:Res Z H F Z H F cx:=⟨fun _ z=>z,fun _ z=>.inl z,fun _ _ e _=>e,fun _ z=>.inl z,fun _ z=>z.elim,fun _ _ z=>z,fun _ z=>z.elim,fun _ z=>z.elim⟩
theorem Res.kn(r:Res Z H F Z1 H1 F1 G1){a:Addr}(h:F1 a\/H1 a=none):F a\/H a=none:=by
 rcases h with h|h
 ·exact r.f a h
 ·cases e:H a with
  |none=>exact .inr rfl
  |some o=>
   refine .inl (Classical.byContradiction fun n=>?_)
   rw[r.k a o e n] at h;cases h
theorem Res.seq(r1:Res Z H F Z1 H1 F1 G1)(r2:Res Z1 H1 F1 Z2 H2 F2 G2):Res Z H F Z2 H2 F2 (fun a=>G1 a\/G2 a)/\∀a,G1 a->¬G2 a:=by
 have g1:∀a,G1 a->¬(F1 a\/H1 a=none):=fun a h z=>z.elim (fun z=>r1.d a z h) fun z=>(r1.gm a h).ne z
 have n1:∀a o,H1 a=some o->¬F1 a->H2 a=some o:=r2.k
 refine⟨⟨fun a h=>r2.z a (r1.z a h),fun a h=>?_,fun a o e n=>?_,fun a h=>r1.kn (r2.f a h),fun a h=>h.elim (r1.g a) fun h=>r1.kn (r2.g a h),fun a h z=>?_,fun a h z=>?_,fun a h=>?_⟩,fun a h z=>g1 a h (r2.g a z)⟩
 ·rcases r2.zn a h with h|h
  ·exact r1.zn a h
  ·exact .inr (r1.kn h)
 ·refine r2.k a o (r1.k a o e n) fun z=>?_
  rcases r1.f a z with z|z
  ·exact n z
  ·rw[z] at e;cases e
 ·rcases z with z|z
  ·exact g1 a z (r2.f a h)
  ·exact r2.d a h z
 ·rcases h with h|h
  ·rcases r2.zn a z with z|z
   ·exact r1.gz a h z
   ·exact g1 a h z
  ·exact r2.gz a h z
 ·rcases h with h|h
  ·exact(r1.gm a h).up fun o e=>r2.k a o e fun z=>r1.d a z h
  ·exact r2.gm a h
theorem Res.trans(r1:Res Z H F Z1 H1 F1 cx)(r2:Res Z1 H1 F1 Z2 H2 F2 G2):Res Z H F Z2 H2 F2 G2:=by
 have q:=(r1.seq r2).1
 have e:(fun a=>cx a\/G2 a)=G2:=by funext a;exact propext ⟨fun z=>z.elim (fun z=>z.elim) id,.inr⟩
 rw[e] at q;exact q
theorem Res.keep(O:Ok Z1 H1 aK σ bE)(r:Res Z1 H1 (cT bE) Z2 H2 F2 G2){d:D}{v:V}(dj:∀a,cT bE a->¬G1 a)(h:Own Z1 H1 d v G1):Own Z2 H2 d v G1:=
 Own.step (cT bE) r.z r.k (fun a ⟨i,z⟩=>O.fz i a z) (fun a vs ⟨i,z⟩=>(O.fm i a z).gG) d (fun _ z=>z) dj h
end
inductive Ref where
 |a8 (d:D)|var (i:Nat)
def Ref.at(env:ai):Ref->Option D
 | .a8 d=>some d
 | .var i=>env[i]?.join
def n5(Z:Set)(H:Hp)(σ:St):Ref->V->Set->Prop
 | .a8 d,v,G=>Own Z H d v G
 | .var i,v,_=>σ[i]? = some (some v)
def sL(Z:Set)(H:Hp)(σ:St):List Ref->List V->Set->Prop
 | [],vs,_=>vs=[]
 |r::rs,vs,G=>∃v ws G1 G2,vs=v::ws/\n5 Z H σ r v G1/\sL Z H σ rs ws G2/\(∀a,G1 a->G a)/\(∀a,G2 a->G a)/\(∀a,G1 a->¬G2 a)
abbrev UB:=ai->(Ref->ai->Prop)->Prop
abbrev UA:=ai->(List Ref->ai->Prop)->Prop
abbrev UT:=ai->(Bool->ai->Prop)->Prop
def aZ(t:TE)(u:UB):Prop:=∀(σ:St) (env:ai) (Z:Set) (H:Hp) (φ:Nat->Set) (Q:Ref->ai->Prop) (R:VK),Ok Z H env σ φ->u env Q ->
 (∀r bQ v Z' H' cN G,Q r bQ->Ok Z' H' bQ σ cN->Res Z H (cT φ) Z' H' (cT cN) G->n5 Z' H' σ r v G->R v H')->t σ H R
def n4(t:TA)(u:UA):Prop:=∀(σ:St) (env:ai) (Z:Set) (H:Hp) (φ:Nat->Set) (Q:List Ref->ai->Prop) (R:List V->Hp->Prop),Ok Z H env σ φ->u env Q ->
 (∀rs bQ vs Z' H' cN G,Q rs bQ->Ok Z' H' bQ σ cN->Res Z H (cT φ) Z' H' (cT cN) G->sL Z' H' σ rs vs G->R vs H')->t σ H R
def hU(t:TT)(u:UT):Prop:=∀(σ:St) (env:ai) (Z:Set) (H:Hp) (φ:Nat->Set) (Q:Bool->ai->Prop) (R:Bool->Hp->Prop),Ok Z H env σ φ->u env Q ->
 (∀b bQ Z' H' cN,Q b bQ->Ok Z' H' bQ σ cN->Res Z H (cT φ) Z' H' (cT cN) cx->R b H')->t σ H R
def ao:UA:=fun env Q=>Q [] env
def ae(u:UB)(w:UA):UA:=fun env Q=>u env fun r e=>w e fun rs e2=>Q (r::rs) e2
section
variable {Z Z1 Z2:Set}{H H1 H2:Hp}{F F1 F2 G G1 G2:Set}{env aK:ai}{σ:St}{φ bE:Nat->Set}
theorem n5.keep(O:Ok Z1 H1 aK σ bE)(r:Res Z1 H1 (cT bE) Z2 H2 F2 G2)(dj:∀a,cT bE a->¬G1 a):∀{x:Ref}{v:V},n5 Z1 H1 σ x v G1->n5 Z2 H2 σ x v G1
 | .a8 d,v,h=>r.keep O dj h
 | .var i,v,h=>h
theorem vA:n4 xf ao:=fun σ env Z H φ Q R O u k=>k [] env [] Z H φ cx u O Res.refl rfl
theorem mU{t:TE}{ts:TA}{u:UB}{us:UA}(h1:aZ t u)(h2:n4 ts us):n4 (lT t ts) (ae u us):=by
 intro σ env Z H φ Q R O q k
 refine h1 σ env Z H φ _ _ O q fun r aK v Z1 H1 bE G1 q1 O1 r1 jc=>?_
 refine h2 σ aK Z1 H1 bE _ _ O1 q1 fun rs gB vs Z2 H2 hX G2 q2 O2 r2 qc=>?_
 obtain⟨AF,dj⟩:=r1.seq r2
 exact k _ _ _ _ _ _ _ q2 O2 AF ⟨v,vs,G1,G2,rfl,jc.keep O1 r2 r1.d,qc,fun _ z=>.inl z,fun _ z=>.inr z,dj⟩
end
structure jb(Z:Set)(H H':Hp)(d:D)(v:V)(G:Set):Prop where
 same:ck H H'
 own:Own Z H' d v G
 new:∀a,G a->H a=none/\mJ (H' a)
def sU(env:ai):List Ref->Option (List D)
 | []=>some []
 |r::rs=>match r.at env,sU env rs with
  |some d,some ds=>some (d::ds)
  |_,_=>none
abbrev Seen(Z:Set)(H:Hp):List D->List V->Prop:=Paired fun d v=>∃F,Own Z H d v F
def Nw(r:List V->Hp->VK->Prop)(f:List D->(D->Prop)->Prop):Prop:=∀(Z:Set) (H:Hp) (ds:List D) (vs:List V) (P:D->Prop) (R:VK),Seen Z H ds vs->f ds P->(∀d v H' G,P d->jb Z H H' d v G->R v H')->r vs H R
def qk(f:List D->(D->Prop)->Prop)(ua:UA):UB:=fun env Q=>ua env fun rs e=>∃ds,sU e rs=some ds/\f ds fun d=>Q (.a8 d) e
section
variable {Z Z1 Z2:Set}{H H1 H2 H':Hp}{F F1 F2 G G1 G2:Set}{env aK:ai}{σ:St}{φ bE:Nat->Set}
theorem vF(O:Ok Z H env σ φ):∀{rs:List Ref}{vs:List V}{G:Set}{ds:List D},sL Z H σ rs vs G->sU env rs=some ds->Seen Z H ds vs
 | [],vs,G,ds,h,e=>by
  cases (show vs=[] from h)
  cases (show some []=some ds from e)
  exact .nil
 |r::rs,vs,G,ds,h,e=>by
  obtain⟨v,ws,G1,G2,rfl,h1,h2,_⟩:=h
  unfold sU at e
  cases e1:r.at env with
  |none=>simp[e1] at e
  |some d=>
   cases e2:sU env rs with
   |none=>simp[e1,e2] at e
   |some Bb=>
    simp only[e1,e2,Option.some.injEq] at e
    subst e
    refine .cons ?_ (vF O h2 e2)
    cases r with
    |a8 d'=>cases (show some d'=some d from e1);exact⟨G1,h1⟩
    |var i=>
     have e1:env[i]?.join=some d:=e1
     have e3:env[i]? = some (some d):=by
      cases q:env[i]? with
      |none=>rw[q] at e1;cases e1
      |some o=>rw[q] at e1;cases (show o=some d from e1);rfl
     obtain⟨v',hv,ho⟩:=O.own i d e3
     have h1:σ[i]? = some (some v):=h1
     rw[hv] at h1;cases h1
     exact⟨φ i,ho⟩
theorem Ok.grow(O:Ok Z H env σ φ)(s:ck H H'):Ok Z H' env σ φ:=
 ⟨fun i d e=>let ⟨v,hv,h⟩:=O.own i d e;⟨v,hv,h.grow s⟩,O.dj,O.fz,fun i a h=>(O.fm i a h).up fun o e=>s a o e,fun a h z=>(by
  cases e:H a with
  |none=>exact O.zh a h e
  |some o=>rw[s a o e] at z;cases z),O.len⟩
theorem jb.res(O:Ok Z1 H1 aK σ bE)(r:Res Z H F Z1 H1 (cT bE) G1){d:D}{v:V}(n:jb Z1 H1 H' d v G):Res Z H F Z1 H' (cT bE) G:=
 ⟨r.z,r.zn,fun a o e z=>n.same a o (r.k a o e z),r.f,fun a h=>r.kn (.inr (n.new a h).1),fun a ⟨i,z⟩ h=>(O.fm i a z).ne (n.new a h).1,fun a h z=>O.zh a z (n.new a h).1,fun a h=>(n.new a h).2⟩
theorem vC{t:TA}{ua:UA}{r:List V->Hp->VK->Prop}{f:List D->(D->Prop)->Prop}(ha:n4 t ua)(hf:Nw r f):aZ (Hd r t) (qk f ua):=by
 intro σ env Z H φ Q R O q k
 refine ha σ env Z H φ _ _ O q fun rs aK vs Z1 H1 bE G1 ⟨ds,e,q1⟩ O1 r1 jc=>?_
 exact hf Z1 H1 ds vs _ R (vF O1 jc e) q1 fun d v H' G p n=>k (.a8 d) aK v Z1 H' bE G p (O1.grow n.same) (n.res O1 r1) n.own
end
end VS
end
section
namespace VS
open PySem L2
section
variable {Z:Set}{H H':Hp}{F:Set}{v:V}
theorem lh:Own Z H .bH v F↔v=.bH:=by simp only[Own]
theorem dh{b}:Own Z H (.bl b) v F↔v=.bl b:=by simp only[Own]
theorem a_{i}:Own Z H (.int i) v F↔v=.int i:=by simp only[Own]
theorem dX{x}:Own Z H (.str x) v F↔v=.str x:=by simp only[Own]
theorem zq{a}:Own Z H (.fn a) v F↔v=.ref a:=by simp only[Own]
theorem de{ds}:Own Z H (.tup ds) v F↔∃a vs,v=.ref a/\H a=some (.tup vs)/\ar Z H ds vs F:=by simp only[Own]
theorem bA{ds}:Own Z H (.lst true ds) v F↔∃a vs,v=.ref a/\H a=some (.lst vs)/\F a/\ar Z H ds vs (fun b=>F b/\b≠a):=by simp only[Own]
theorem kG{ds}:Own Z H (.lst false ds) v F↔∃a vs,v=.ref a/\Rd H a (.lst vs)/\Z a/\ar Z H ds vs cx:=by simp only[Own]
theorem c9{t ks ds}:Own Z H (.cB true t ks ds) v F↔∃a vs u,v=.ref a/\H a=some u/\DictAt t u ks vs/\F a/\ar Z H ds vs (fun b=>F b/\b≠a):=by simp only[Own]
theorem iG{t ks ds}:Own Z H (.cB false t ks ds) v F↔∃a vs u,v=.ref a/\Rd H a u/\DictAt t u ks vs/\Z a/\ar Z H ds vs cx:=by simp only[Own]
theorem ba{vs:List V}:ar Z H [] vs F↔vs=[]:=by simp only[ar]
theorem aF{d:D}{ds:List D}{vs:List V}:ar Z H (d::ds) vs F↔∃v r F1 F2,vs=v::r/\Own Z H d v F1/\ar Z H ds r F2/\(∀b,F1 b->F b)/\(∀b,F2 b->F b)/\(∀b,F1 b->¬F2 b):=by simp only[ar]
theorem fO{o ds}(h:Own Z H (.lst o ds) v F):∃a vs,v=.ref a/\Rd H a (.lst vs)/\ar Z H ds vs F:=by
 cases o with
 |true=>obtain⟨a,vs,e,hr,_,hl⟩:=bA.mp h;exact⟨a,vs,e,.inl hr,hl.mono fun _ z=>z.1⟩
 |false=>obtain⟨a,vs,e,hr,_,hl⟩:=kG.mp h;exact⟨a,vs,e,hr,hl.mono fun _ z=>z.elim⟩
theorem gi{o t ks ds}(h:Own Z H (.cB o t ks ds) v F):∃a vs u,v=.ref a/\Rd H a u/\DictAt t u ks vs/\ar Z H ds vs F:=by
 cases o with
 |true=>obtain⟨a,vs,u,e,hr,hd,_,hl⟩:=c9.mp h;exact⟨a,vs,u,e,.inl hr,hd,hl.mono fun _ z=>z.1⟩
 |false=>obtain⟨a,vs,u,e,hr,hd,_,hl⟩:=iG.mp h;exact⟨a,vs,u,e,hr,hd,hl.mono fun _ z=>z.elim⟩
theorem ar.length:∀{ds:List D}{vs:List V}{F:Set},ar Z H ds vs F->vs.length=ds.length
 | [],vs,F,h=>by rw[ba.mp h];rfl
 |d::ds,vs,F,h=>by
  obtain⟨v,r,F1,F2,rfl,_,h2,_⟩:=aF.mp h
  simp[ar.length h2]
theorem ar.get:∀{ds:List D}{vs:List V}{F:Set}{i:Nat}{d:D},ar Z H ds vs F->ds[i]? = some d->∃v,vs[i]? = some v/\Own Z H d v F
 | [],vs,F,i,d,h,e=>by simp at e
 |d'::ds,vs,F,0,d,h,e=>by
  obtain⟨v,r,F1,F2,rfl,h1,h2,s1,s2,_⟩:=aF.mp h
  cases (show some d'=some d from e)
  exact⟨v,rfl,h1.mono s1⟩
 |d'::ds,vs,F,i+1,d,h,e=>by
  obtain⟨v,r,F1,F2,rfl,h1,h2,s1,s2,_⟩:=aF.mp h
  obtain⟨w,e',q⟩:=ar.get (i:=i) h2 (by simpa using e)
  exact⟨w,by simpa using e',q.mono s2⟩
theorem ar.il{ds:List D}{vs:List V}{i:Int}{d:D}(h:ar Z H ds vs F)(e:il ds i=some d):∃v,L2.il vs i=some v/\Own Z H d v F:=by
 unfold L2.il at e ⊢
 rw[h.length]
 cases q:x6 ds.length i with
 |none=>rw[q] at e;cases e
 |some j=>rw[q] at e;exact h.get e
theorem jb.refl{d:D}(h:Own Z H d v cx):jb Z H H d v cx:=⟨fun _ _ e=>e,h,fun _ z=>z.elim⟩
end
def iU(r:R2)(f:D->D->(D->Prop)->Prop):Prop:=∀(Z:Set) (H:Hp) (d1 d2:D) (v1 v2:V) (F1 F2:Set) (P:D->Prop) (R:VK),Own Z H d1 v1 F1->Own Z H d2 v2 F2->f d1 d2 P->(∀d v H' G,P d->jb Z H H' d v G->R v H')->r v1 v2 H R
def aj(f:D->D->(D->Prop)->Prop)(ua ub:UB):UB:=fun env Q=>ua env fun r1 e1=>ub e1 fun r2 e2=>∃d1 d2,r1.at e2=some d1/\r2.at e2=some d2/\f d1 d2 fun d=>Q (.a8 d) e2
theorem jD{ta tb:TE}{ua ub:UB}{r:R2}{f:D->D->(D->Prop)->Prop}(ha:aZ ta ua)(hb:aZ tb ub)(hf:iU r f):aZ (Hc r ta tb) (aj f ua ub):=by
 have q:=vC (r:=fun vs H Q=>r (vs.getD 0 .bH) (vs.getD 1 .bH) H Q) (f:=fun ds P=>∃d1 d2,ds=[d1,d2]/\f d1 d2 P) (mU ha (mU hb vA)) (by
  rintro Z H ds vs P R s ⟨d1,d2,rfl,Uc⟩ k
  cases s with
  |cons h1 t=>
   cases t with
   |cons h2 t=>
    cases t
    obtain⟨F1,h1⟩:=h1
    obtain⟨F2,h2⟩:=h2
    exact hf Z H d1 d2 _ _ F1 F2 P R h1 h2 Uc k)
 intro σ env Z H φ Q R O u k
 refine q σ env Z H φ Q R O ?_ k
 show ua env fun r1 e1=>ub e1 fun r2 e2=>∃ds,sU e2 [r1,r2]=some ds/\∃d1 d2,ds=[d1,d2]/\f d1 d2 fun d=>Q (.a8 d) e2
 have e:(fun r1 e1=>ub e1 fun r2 e2=>∃ds,sU e2 [r1,r2]=some ds/\∃d1 d2,ds=[d1,d2]/\f d1 d2 fun d=>Q (.a8 d) e2)=(fun r1 e1=>ub e1 fun r2 e2=>∃d1 d2,r1.at e2=some d1/\r2.at e2=some d2/\f d1 d2 fun d=>Q (.a8 d) e2):=by
  funext r1 e1
  congr 1
  funext r2 e2
  refine propext ⟨?_,?_⟩
  ·rintro⟨ds,h,d1,d2,rfl,q⟩
   unfold sU sU sU at h
   cases e1:r1.at e2<;>cases e2':r2.at e2<;>simp[e1,e2'] at h
   obtain⟨rfl,rfl⟩:=h
   exact⟨_,_,rfl,rfl,q⟩
  ·rintro⟨d1,d2,h1,h2,q⟩
   exact⟨[d1,d2],by unfold sU sU sU;simp[h1,h2],d1,d2,rfl,q⟩
 rw[e]
 exact u
def Qp(r:V->Hp->VK->Prop)(f:D->(D->Prop)->Prop):Prop:=∀(Z:Set) (H:Hp) (d1:D) (v1:V) (F1:Set) (P:D->Prop) (R:VK),Own Z H d1 v1 F1->f d1 P->(∀d v H' G,P d->jb Z H H' d v G->R v H')->r v1 H R
def pX(f:D->(D->Prop)->Prop)(ua:UB):UB:=fun env Q=>ua env fun r1 e1=>∃d1,r1.at e1=some d1/\f d1 fun d=>Q (.a8 d) e1
theorem vB{ta:TE}{ua:UB}{r:V->Hp->VK->Prop}{f:D->(D->Prop)->Prop}(ha:aZ ta ua)(hf:Qp r f):aZ (V3 r ta) (pX f ua):=by
 have q:=vC (r:=fun vs H Q=>r (vs.getD 0 .bH) H Q) (f:=fun ds P=>∃d1,ds=[d1]/\f d1 P) (mU ha vA) (by
  rintro Z H ds vs P R s ⟨d1,rfl,Uc⟩ k
  cases s with
  |cons h1 t=>
   cases t
   obtain⟨F1,h1⟩:=h1
   exact hf Z H d1 _ F1 P R h1 Uc k)
 intro σ env Z H φ Q R O u k
 refine q σ env Z H φ Q R O ?_ k
 show ua env fun r1 e1=>∃ds,sU e1 [r1]=some ds/\∃d1,ds=[d1]/\f d1 fun d=>Q (.a8 d) e1
 have e:(fun r1 e1=>∃ds,sU e1 [r1]=some ds/\∃d1,ds=[d1]/\f d1 fun d=>Q (.a8 d) e1)=(fun r1 e1=>∃d1,r1.at e1=some d1/\f d1 fun d=>Q (.a8 d) e1):=by
  funext r1 e1
  refine propext ⟨?_,?_⟩
  ·rintro⟨ds,h,d1,rfl,q⟩
   unfold sU sU at h
   cases e1:r1.at e1<;>simp[e1] at h
   subst h
   exact⟨_,rfl,q⟩
  ·rintro⟨d1,h1,q⟩
   exact⟨[d1],by unfold sU sU;simp[h1],d1,rfl,q⟩
 rw[e]
 exact u
def Sf(i:Nat):UB:=fun env Q=>Q (.var i) env
def a7(i:Nat):UB:=fun env Q=>∃d,env[i]? = some (some d)/\bare d=true/\Q (.a8 d) env
def ff(i:Nat):UB:=fun env Q=>∃d,env[i]? = some (some d)/\Q (.a8 d) (env.set i none)
def uC(d:D):UB:=fun env Q=>Q (.a8 d) env
section
variable {Z:Set}{H:Hp}{env:ai}{σ:St}{φ:Nat->Set}
theorem DX{i:Nat}:aZ (jz i) (a7 i):=by
 intro σ env Z H φ Q R O ⟨d,e,hb,q⟩ k
 obtain⟨v,hv,h⟩:=O.own i d e
 exact⟨v,hv,k (.a8 d) env v Z H φ cx q O Res.refl (h.bare d hb)⟩
def without(φ:Nat->Set)(i:Nat):Nat->Set:=fun j a=>φ j a/\j≠i
theorem Ok.without(O:Ok Z H env σ φ)(i:Nat):Ok Z H (env.set i none) σ (without φ i):=
 ⟨fun j d e=>by
  by_cases hj:i=j
  ·subst hj
   have:i<env.length:=by
    by_cases h:i<env.length
    ·exact h
    ·rw[List.getElem?_eq_none (by simpa using h)] at e;cases e
   rw[List.getElem?_set_self this] at e;cases e
  ·rw[List.getElem?_set_ne hj] at e
   obtain⟨v,hv,h⟩:=O.own j d e
   exact⟨v,hv,h.mono fun a z=>⟨z,Ne.symm hj⟩⟩,fun j k a h1 h2=>O.dj j k a h1.1 h2.1,fun j a h=>O.fz j a h.1,fun j a h=>O.fm j a h.1,O.zh,by rw[List.length_set];exact O.len⟩
theorem DJ{i:Nat}:aZ (jz i) (ff i):=by
 intro σ env Z H φ Q R O ⟨d,e,q⟩ k
 obtain⟨v,hv,h⟩:=O.own i d e
 refine⟨v,hv,k (.a8 d) (env.set i none) v Z H (VS.without φ i) (φ i) q (O.without i) ⟨fun _ z=>z,fun _ z=>.inl z,fun _ _ e _=>e,fun a ⟨j,z⟩=>.inl ⟨j,z.1⟩,fun a z=>.inl ⟨i,z⟩,fun a ⟨j,z⟩ z2=>z.2 (O.dj j i a z.1 z2),fun a z=>O.fz i a z,fun a z=>O.fm i a z⟩ h⟩
end
def aa(i:Nat):UB:=fun env Q=>∃d,env[i]? = some (some d)/\Q (.var i) env
theorem BR{i:Nat}:aZ (jz i) (aa i):=by
 intro σ env Z H φ Q R O ⟨d,e,q⟩ k
 obtain⟨v,hv,h⟩:=O.own i d e
 exact⟨v,hv,k (.var i) env v Z H φ cx q O Res.refl hv⟩
def Ri:V->D
 | .bH=>.bH | .bl b=>.bl b | .int i=>.int i | .str x=>.str x | .ref a=>.fn a|_=>.bH
theorem AK{Z:Set}{H:Hp}{v:V}(h:(match v with | .wH _=>false | .Gp _=>false | .ty _=>false|_=>true)=true):Own Z H (Ri v) v cx:=by
 cases v<;>simp[Ri,Own] at h ⊢
theorem xl{v:V}(h:(match v with | .wH _=>false | .Gp _=>false | .ty _=>false|_=>true)=true:=by rfl):aZ (tC v) (uC (Ri v)):=
 fun σ env Z H φ Q R O q k=>k (.a8 _) env v Z H φ cx q O Res.refl (AK h)
def fI(C:Int->Int->Prop)(g:Int->Int->D):D->D->(D->Prop)->Prop
 | .int i,.int j,P=>C i j/\P (g i j)
 |_,_,_=>False
def lN(g:Int->Int->D):D->D->(D->Prop)->Prop
 | .int i,.int j,P=>P (g i j)
 |_,_,_=>False
theorem Uy{C:Int->Int->Prop}{gv:Int->Int->V}{gd:Int->Int->D}(hg:∀i j (Z:Set) (H:Hp),Own Z H (gd i j) (gv i j) cx):iU (rI C gv) (fI C gd):=by
 intro Z H d1 d2 v1 v2 F1 F2 P R h1 h2 hf k
 cases d1<;>try exact hf.elim
 cases d2<;>try exact hf.elim
 rw[a_] at h1 h2
 exact⟨_,_,h1,h2,hf.1,k _ _ _ _ hf.2 (jb.refl (hg _ _ _ _))⟩
theorem JV{gv:Int->Int->V}{gd:Int->Int->D}(hg:∀i j (Z:Set) (H:Hp),Own Z H (gd i j) (gv i j) cx):iU (zi gv) (lN gd):=by
 intro Z H d1 d2 v1 v2 F1 F2 P R h1 h2 hf k
 cases d1<;>try exact hf.elim
 cases d2<;>try exact hf.elim
 rw[a_] at h1 h2
 exact⟨_,_,h1,h2,k _ _ _ _ hf (jb.refl (hg _ _ _ _))⟩
theorem cw{C:Int->Int->Prop}{g:Int->Int->Int}:iU (rI C fun i j=>.int (g i j)) (fI C fun i j=>.int (g i j)):=Uy fun _ _ _ _=>a_.mpr rfl
theorem dA{g:Int->Int->Int}:iU (zi fun i j=>.int (g i j)) (lN fun i j=>.int (g i j)):=JV fun _ _ _ _=>a_.mpr rfl
theorem mC{g:Int->Int->Bool}:iU (zi fun i j=>.bl (g i j)) (lN fun i j=>.bl (g i j)):=JV fun _ _ _ _=>dh.mpr rfl
def fU(g:Int->D):D->(D->Prop)->Prop
 | .int i,P=>P (g i)
 |_,_=>False
theorem Mq:Qp (rU fun i=>.int (-i)) (fU fun i=>.int (-i)):=by
 intro Z H d1 v1 F1 P R h1 hf k
 cases d1<;>try exact hf.elim
 rw[a_] at h1
 exact⟨_,h1,k _ _ _ _ hf (jb.refl (a_.mpr rfl))⟩
def tU:D->D->Option Bool
 | .int i,.int j=>some (decide (i=j))
 | .str i,.str j=>some (decide (i=j))
 | .bl i,.bl j=>some (decide (i=j))
 | .bH,.bH=>some true
 | .bH,.int _=>some false | .int _,.bH=>some false | .bH,.bl _=>some false | .bl _,.bH=>some false | .bH,.str _=>some false | .str _,.bH=>some false
 | .int _,.str _=>some false | .str _,.int _=>some false | .bl _,.str _=>some false | .str _,.bl _=>some false
 |_,_=>none
def kQ(neg:Bool):D->D->(D->Prop)->Prop:=fun a b P=>∃k,tU a b=some k/\P (.bl (if neg then !k else k))
theorem FI{Z:Set}{H:Hp}{a b:D}{k:Bool}{v1 v2:V}{F1 F2:Set}(h1:Own Z H a v1 F1)(h2:Own Z H b v2 F2)(e:tU a b=some k):D6 v1 v2=true/\k=decide (v1=v2):=by
 cases a<;>cases b<;>simp only[tU,reduceCtorEq,Option.some.injEq] at e<;>simp only[Own] at h1 h2<;>subst h1 h2<;>subst e<;>refine⟨rfl,?_⟩<;>simp
theorem e7:iU Wi (kQ false):=by
 rintro Z H d1 d2 v1 v2 F1 F2 P R h1 h2 ⟨k,e,hf⟩ kk
 obtain⟨s,rfl⟩:=FI h1 h2 e
 exact⟨s,kk _ _ _ _ hf (jb.refl (dh.mpr rfl))⟩
theorem A8:iU Wh (kQ true):=by
 rintro Z H d1 d2 v1 v2 F1 F2 P R h1 h2 ⟨k,e,hf⟩ kk
 obtain⟨s,rfl⟩:=FI h1 h2 e
 exact⟨s,kk _ _ _ _ hf (jb.refl (dh.mpr rfl))⟩
def x8:D->Bool
 | .bH=>true
 |_=>false
def FF(neg:Bool):D->(D->Prop)->Prop:=fun a P=>P (.bl (if neg then !x8 a else x8 a))
theorem E6{Z:Set}{H:Hp}{a:D}{v:V}{F:Set}(h:Own Z H a v F):decide (v=.bH)=x8 a:=by
 cases a with
 |bH=>rw[lh.mp h];rfl
 |bl b=>rw[dh.mp h];rfl
 |int i=>rw[a_.mp h];rfl
 |str x=>rw[dX.mp h];rfl
 |fn x=>rw[zq.mp h];rfl
 |tup ds=>obtain⟨_,_,rfl,_⟩:=de.mp h;rfl
 |lst o ds=>obtain⟨_,_,rfl,_⟩:=fO h;rfl
 |cB o t ks ds=>obtain⟨_,_,_,rfl,_⟩:=gi h;rfl
theorem DH{ta:TE}{ua:UB}(ha:aZ ta ua):aZ (Jn ta) (pX (FF true) ua):=vB (r:=fun x H Q=>Q (.bl (!decide (x=.bH))) H) ha fun Z H d1 v1 F1 P R h1 hf k=>by
 show R (.bl (!decide (v1=.bH))) H
 rw[E6 h1];exact k _ _ _ _ hf (jb.refl (dh.mpr rfl))
def dB:D->D->(D->Prop)->Prop
 | .lst _ ds,.int k,P=>∃d,il ds k=some d/\bare d=true/\P d
 |_,_,_=>False
def bc:D->D->(D->Prop)->Prop
 | .tup ds,.int k,P=>∃d,il ds k=some d/\bare d=true/\P d
 |_,_,_=>False
def zT:D->D->(D->Prop)->Prop
 | .str x,.int k,P=>x.length<=1000000/\∃c,il x.cps.toList k=some c/\P (.str ⟨#[c]⟩)
 |_,_,_=>False
theorem Mv{K:PySem.W.Frag}:iU (Eh K) dB:=by
 intro Z H d1 d2 v1 v2 F1 F2 P R h1 h2 hf k
 cases d1<;>try exact hf.elim
 cases d2<;>try exact hf.elim
 rw[a_] at h2
 obtain⟨d,e,hb,p⟩:=hf
 obtain⟨a,vs,e1,hr,hl⟩:=fO h1
 obtain⟨v,ev,ho⟩:=hl.il e
 exact⟨a,vs,_,v,e1,h2,.inl hr,ev,k _ _ _ _ p (jb.refl (ho.bare d hb))⟩
theorem Mt{K:PySem.W.Frag}:iU (Eg K) bc:=by
 intro Z H d1 d2 v1 v2 F1 F2 P R h1 h2 hf k
 cases d1<;>try exact hf.elim
 cases d2<;>try exact hf.elim
 rw[a_] at h2
 obtain⟨d,e,hb,p⟩:=hf
 obtain⟨a,vs,e1,hr,hl⟩:=de.mp h1
 obtain⟨v,ev,ho⟩:=hl.il e
 exact⟨a,vs,_,v,e1,h2,.inl (.inl hr),ev,k _ _ _ _ p (jb.refl (ho.bare d hb))⟩
theorem Mu:iU KZ zT:=by
 intro Z H d1 d2 v1 v2 F1 F2 P R h1 h2 hf k
 cases d1<;>try exact hf.elim
 cases d2<;>try exact hf.elim
 rw[a_] at h2
 rw[dX] at h1
 obtain⟨hz,c,e,p⟩:=hf
 exact⟨_,_,c,h1,h2,Nat.le_of_lt (fo hz),e,k _ _ _ _ p (jb.refl (dX.mpr rfl))⟩
end VS
end
section
namespace VS
open PySem L2
def bO{α:Type}:List DK->List α->DK->Option α
 |k'::ks,d::ds,k=>if k'=k then some d else bO ks ds k
 |_,_,_=>none
def D_:D->Option Key
 | .int i=>some (.inl i)
 | .str x=>some (.inr x)
 |_=>none
def za:List D->Option (List Key)
 | []=>some []
 |d::ds=>match D_ d,za ds with
  |some k,some r=>some (k::r)
  |_,_=>none
def keyOf:Bool->D->Option DK
 |false,d=>(D_ d).map .s
 |true,.tup ds=>(za ds).map .t
 |true,_=>none
section
variable {Z:Set}{H H':Hp}{F:Set}{v:V}
theorem nh{d:D}{k:Key}(e:D_ d=some k)(h:Own Z H d v F):v=kV k:=by
 cases d<;>simp only[D_,reduceCtorEq,Option.some.injEq] at e<;>subst e
 ·exact a_.mp h
 ·exact dX.mp h
theorem rq:∀{ds:List D}{ks:List Key}{vs:List V}{F:Set},za ds=some ks->ar Z H ds vs F->vs=ks.map kV
 | [],ks,vs,F,e,h=>by
  cases (show some []=some ks from e)
  exact ba.mp h
 |d::ds,ks,vs,F,e,h=>by
  obtain⟨v,r,F1,F2,rfl,h1,h2,_⟩:=aF.mp h
  unfold za at e
  cases e1:D_ d with
  |none=>simp[e1] at e
  |some k=>
   cases e2:za ds with
   |none=>simp[e1,e2] at e
   |some Rk=>
    simp only[e1,e2,Option.some.injEq] at e
    subst e
    rw[nh e1 h1,rq e2 h2]
    rfl
theorem yN(k:Key):∀(kl:List Key) (vs:List V),kl.length=vs.length->f_ (kl.zip vs) k=bO (kl.map DK.s) vs (.s k)
 | [],vs,_=>by cases vs<;>rfl
 |k'::kl,[],h=>by simp at h
 |k'::kl,v::vs,h=>by
  show f_ ((k',v)::kl.zip vs) k=if DK.s k'=DK.s k then some v else bO (kl.map DK.s) vs (.s k)
  by_cases e:k'=k
  ·rw[je e,if_pos (by rw[e])]
  ·rw[jf e,if_neg (fun z=>e (DK.s.inj z))]
   exact yN k kl vs (by simpa using h)
theorem Dk(k:List Key):∀(kl:List (List Key)) (vs:List V),kl.length=vs.length->f_ (kl.zip vs) k=bO (kl.map DK.t) vs (.t k)
 | [],vs,_=>by cases vs<;>rfl
 |k'::kl,[],h=>by simp at h
 |k'::kl,v::vs,h=>by
  show f_ ((k',v)::kl.zip vs) k=if DK.t k'=DK.t k then some v else bO (kl.map DK.t) vs (.t k)
  by_cases e:k'=k
  ·rw[je e,if_pos (by rw[e])]
  ·rw[jf e,if_neg (fun z=>e (DK.t.inj z))]
   exact Dk k kl vs (by simpa using h)
theorem ar.find:∀{ks:List DK}{ds:List D}{vs:List V}{F:Set}{k:DK},ar Z H ds vs F->(∀d,bO ks ds k=some d->∃v,bO ks vs k=some v/\Own Z H d v F)/\(bO ks ds k=none->bO ks vs k=none)
 | [],ds,vs,F,k,h=>⟨fun d e=>by simp[bO] at e,fun _=>by simp[bO]⟩
 |k'::ks,[],vs,F,k,h=>by rw[ba.mp h];exact⟨fun d e=>by simp[bO] at e,fun _=>by simp[bO]⟩
 |k'::ks,d'::ds,vs,F,k,h=>by
  obtain⟨v,r,F1,F2,rfl,h1,h2,s1,s2,_⟩:=aF.mp h
  have ih:=ar.find (ks:=ks) (k:=k) h2
  unfold bO
  by_cases e:k'=k
  ·rw[if_pos e,if_pos e]
   exact⟨fun d q=>by cases q;exact⟨v,rfl,h1.mono s1⟩,fun q=>by cases q⟩
  ·rw[if_neg e,if_neg e]
   exact⟨fun d q=>let ⟨w,q1,q2⟩:=ih.1 d q;⟨w,q1,q2.mono s2⟩,ih.2⟩
theorem kT{t:Bool}{ks:List DK}{ds:List D}{a:Addr}{vs:List V}{u:HO}{kd:D}{k:DK}{y:V}{F2:Set}(hr:Rd H a u)(hd:DictAt t u ks vs)(hl:ar Z H ds vs F)(hk:keyOf t kd=some k)(hy:Own Z H kd y F2):j4 H a y (bO ks vs k):=by
 cases t with
 |false=>
  obtain⟨kl,rfl,hlen,yc,rfl⟩:=hd
  cases e:D_ kd with
  |none=>simp[keyOf,e] at hk
  |some k'=>
   simp only[keyOf,e,Option.map_some,Option.some.injEq] at hk
   subst hk
   exact .inl ⟨_,k',hr,nh e hy,(yN k' kl vs hlen).symm⟩
 |true=>
  obtain⟨kl,rfl,hlen,yc,rfl⟩:=hd
  cases kd<;>simp only[keyOf,reduceCtorEq] at hk
  rename_i Bb
  cases e:za Bb with
  |none=>simp[e] at hk
  |some k'=>
   simp only[e,Option.map_some,Option.some.injEq] at hk
   subst hk
   obtain⟨b,ws,rfl,hb,hw⟩:=de.mp hy
   rw[rq e hw] at hb
   exact .inr ⟨_,k',b,hr,rfl,hb,(Dk k' kl vs hlen).symm⟩
end
def pN:D->D->(D->Prop)->Prop
 | .cB _ t ks ds,kd,P=>∃k d,keyOf t kd=some k/\bO ks ds k=some d/\bare d=true/\P d
 |_,_,_=>False
theorem DW{ta tb:TE}{ua ub:UB}(ha:aZ ta ua)(hb:aZ tb ub):aZ (Ar ta tb) (aj pN ua ub):=jD (r:=fun x y H Q=>∃a v,x=.ref a/\j4 H a y (some v)/\Q v H) ha hb fun Z H d1 d2 v1 v2 F1 F2 P R h1 h2 hf kk=>by
 cases d1<;>try exact hf.elim
 obtain⟨k,d,e1,e2,Nq,p⟩:=hf
 obtain⟨a,vs,u,rfl,hr,hd,hl⟩:=gi h1
 obtain⟨v,ev,ho⟩:=hl.find.1 d e2
 have g:=kT hr hd hl e1 h2
 rw[ev] at g
 exact⟨a,v,rfl,g,kk _ _ _ _ p (jb.refl (ho.bare d Nq))⟩
def jV(neg:Bool):D->D->(D->Prop)->Prop
 |kd,.cB _ t ks ds,P=>∃k,keyOf t kd=some k/\P (.bl (if neg then !(bO ks ds k).isSome else(bO ks ds k).isSome))
 |_,_,_=>False
theorem pL{Z:Set}{H:Hp}{F:Set}{ks:List DK}{ds:List D}{vs:List V}{k:DK}(hl:ar Z H ds vs F):(bO ks vs k).isSome=(bO ks ds k).isSome:=by
 cases e:bO ks ds k with
 |none=>rw[hl.find.2 e];rfl
 |some d=>obtain⟨v,ev,_⟩:=hl.find.1 d e;rw[ev];rfl
theorem Hw{ta tb:TE}{ua ub:UB}(ha:aZ ta ua)(hb:aZ tb ub):aZ (N7 ta tb) (aj (jV false) ua ub):=jD (r:=fun y x H Q=>∃a o,x=.ref a/\j4 H a y o/\Q (.bl o.isSome) H) ha hb fun Z H d1 d2 v1 v2 F1 F2 P R h1 h2 hf kk=>by
 cases d2<;>try exact hf.elim
 obtain⟨k,e1,p⟩:=hf
 obtain⟨a,vs,u,rfl,hr,hd,hl⟩:=gi h2
 refine⟨a,_,rfl,kT hr hd hl e1 h1,?_⟩
 rw[pL hl]
 exact kk _ _ _ _ p (jb.refl (dh.mpr rfl))
theorem y8{ta tb:TE}{ua ub:UB}(ha:aZ ta ua)(hb:aZ tb ub):aZ (Aq ta tb) (aj (jV true) ua ub):=jD (r:=fun y x H Q=>∃a o,x=.ref a/\j4 H a y o/\Q (.bl (!o.isSome)) H) ha hb fun Z H d1 d2 v1 v2 F1 F2 P R h1 h2 hf kk=>by
 cases d2<;>try exact hf.elim
 obtain⟨k,e1,p⟩:=hf
 obtain⟨a,vs,u,rfl,hr,hd,hl⟩:=gi h2
 refine⟨a,_,rfl,kT hr hd hl e1 h1,?_⟩
 rw[pL hl]
 exact kk _ _ _ _ p (jb.refl (dh.mpr rfl))
def zU:List D->(D->Prop)->Prop
 | [.cB _ t ks ds,kd,x],P=>∃k,keyOf t kd=some k/\bare ((bO ks ds k).getD x)=true/\P ((bO ks ds k).getD x)
 |_,_=>False
theorem zG{Z:Set}{H:Hp}{t:Bool}{ks:List DK}{a:Addr}{vs:List V}{u:HO}(hr:Rd H a u)(hd:DictAt t u ks vs):MN H a:=by
 cases t with
 |false=>obtain⟨kl,_,_,_,rfl⟩:=hd;exact .inl ⟨_,hr⟩
 |true=>obtain⟨kl,_,_,_,rfl⟩:=hd;exact .inr ⟨_,hr⟩
theorem dW{Z:Set}{H:Hp}{env:ai}{σ:St}{φ:Nat->Set}{r:Ref}{v:V}{G:Set}{d:D}(O:Ok Z H env σ φ)(h:n5 Z H σ r v G)(e:r.at env=some d):∃F,Own Z H d v F:=by
 have q:=vF (rs:=[r]) (vs:=[v]) (G:=G) (ds:=[d]) O ⟨v,[],G,cx,rfl,h,rfl,fun _ z=>z,fun _ z=>z.elim,fun _ _ z=>z⟩ (by unfold sU sU;rw[e])
 cases q with
 |cons h _=>exact h
def xb(ua ub uc:UB):UB:=fun env Q=>ua env fun r1 e1=>(∃o t ks ds,r1.at e1=some (.cB o t ks ds))/\ub e1 fun r2 e2=>uc e2 fun r3 e3=>∃d1 d2 d3,r1.at e3=some d1/\r2.at e3=some d2/\r3.at e3=some d3/\zU [d1,d2,d3] fun d=>Q (.a8 d) e3
theorem DP{ta tb tc:TE}{ua ub uc:UB}(ha:aZ ta ua)(hb:aZ tb ub)(hc:aZ tc uc):aZ (Dy ta tb tc) (xb ua ub uc):=by
 intro σ env Z H φ Q R O q k
 refine ha σ env Z H φ _ _ O q fun x1 aK v1 Z1 H1 bE G1 ⟨⟨o,t,ks,ds,mI⟩,q1⟩ O1 r1 jc=>?_
 obtain⟨F1,h1⟩:=dW O1 jc mI
 obtain⟨a,vs,u,rfl,hr,hd,hl⟩:=gi h1
 refine⟨a,rfl,zG (Z:=Z1) hr hd,?_⟩
 refine hb σ aK Z1 H1 bE _ _ O1 q1 fun x2 gB v2 Z2 H2 hX G2 q2 O2 r2 qc=>?_
 refine hc σ gB Z2 H2 hX _ _ O2 q2 fun x3 tV v3 Z3 H3 yH G3 ⟨d1,d2,d3,e1,e2,e3,f⟩ O3 r3 AS=>?_
 obtain⟨AF,PM⟩:=r1.seq r2
 obtain⟨SM,Xo⟩:=AF.seq r3
 have SX:=((jc.keep O1 r2 r1.d).keep O2 r3 fun a z y=>AF.d a z (.inl y))
 have SW:=qc.keep O2 r3 r2.d
 obtain⟨F1',Uw⟩:=dW O3 SX e1
 obtain⟨F2',Uu⟩:=dW O3 SW e2
 obtain⟨F3',Ut⟩:=dW O3 AS e3
 cases d1<;>try exact f.elim
 rename_i o' t' Rk Bb
 obtain⟨kk,ek,Nq,p⟩:=f
 obtain⟨a',kf,u',ea,hr',qt,CA⟩:=gi Uw
 cases ea
 have n:∃d v G,jb Z3 H3 H3 d v G/\v=(bO Rk kf kk).getD v3/\d=(bO Rk Bb kk).getD d3:=by
  cases e:bO Rk Bb kk with
  |none=>
   rw[e] at Nq
   exact⟨d3,v3,_,jb.refl (Ut.bare d3 Nq),by rw[CA.find.2 e];rfl,rfl⟩
  |some d=>
   rw[e] at Nq
   obtain⟨v,ev,ho⟩:=CA.find.1 d e
   exact⟨d,v,_,jb.refl (ho.bare d Nq),by rw[ev];rfl,rfl⟩
 obtain⟨d,v,G,n,ev,ed⟩:=n
 subst ev ed
 exact⟨_,kT hr' qt CA ek Uu,k (.a8 _) tV _ Z3 H3 yH G p (O3.grow n.same) (n.res O3 SM) n.own⟩
def kj:List D->(D->Prop)->Prop
 | [.lst _ ds],P=>P (.int ds.length)
 | [.tup ds],P=>P (.int ds.length)
 |_,_=>False
theorem Ms{K:PySem.W.Frag}:Nw (fun xs H Q=>∃p ys,xs=[V.ref p]/\(ju K H p ys\/pA K H p ys)/\Q (.int ys.length) H) kj:=by
 intro Z H ds vs P R s f k
 cases s with
 |nil=>exact f.elim
 |cons h t=>
  obtain⟨F,h⟩:=h
  cases t with
  |cons h2 t2=>rename_i d _ _ _ _ _;cases d<;>exact f.elim
  |nil=>
   rename_i d v
   cases d<;>try exact f.elim
   ·obtain⟨a,vs,rfl,hr,hl⟩:=de.mp h
    refine⟨a,vs,rfl,.inr (.inl (.inl hr)),?_⟩
    rw[hl.length]
    exact k _ _ _ _ f (jb.refl (a_.mpr rfl))
   ·obtain⟨a,vs,rfl,hr,hl⟩:=fO h
    refine⟨a,vs,rfl,.inl (.inl hr),?_⟩
    rw[hl.length]
    exact k _ _ _ _ f (jb.refl (a_.mpr rfl))
def PH:List D->(D->Prop)->Prop
 | [.str x],P=>x.length<=1000000/\P (.int x.length)
 |_,_=>False
def vq:List Ref->Option (List D)
 | []=>some []
 | .a8 d::rs=>(vq rs).map (d :: ·)
 | .var _::_=>none
theorem vT{Z:Set}{H:Hp}{σ:St}:∀{rs:List Ref}{vs:List V}{G:Set}{ds:List D},sL Z H σ rs vs G->vq rs=some ds->ar Z H ds vs G
 | [],vs,G,ds,h,e=>by
  cases (show some []=some ds from e)
  exact ba.mpr h
 | .a8 d::rs,vs,G,ds,h,e=>by
  obtain⟨v,ws,G1,G2,rfl,h1,h2,s1,s2,dj⟩:=h
  unfold vq at e
  cases e2:vq rs with
  |none=>simp[e2] at e
  |some Bb=>
   simp only[e2,Option.map_some,Option.some.injEq] at e
   subst e
   exact aF.mpr ⟨v,ws,G1,G2,rfl,h1,vT h2 e2,s1,s2,dj⟩
 | .var i::rs,vs,G,ds,h,e=>by simp[vq] at e
def gE(ua:UA):UB:=fun env Q=>ua env fun rs e=>∃ds,vq rs=some ds/\ds.length<=1000000/\Q (.a8 (.tup ds)) e
def cZ(ua:UA):UB:=fun env Q=>ua env fun rs e=>∃ds,vq rs=some ds/\ds.length<=1000000/\Q (.a8 (.lst true ds)) e
section
variable {Z Z1:Set}{H H1 H':Hp}{F G G1:Set}{aK:ai}{σ:St}{bE:Nat->Set}
theorem Res.lay(O:Ok Z1 H1 aK σ bE)(r:Res Z H F Z1 H1 (cT bE) G1)(s:ck H1 H')(g:∀a,G a->G1 a\/(H1 a=none/\mJ (H' a))):Res Z H F Z1 H' (cT bE) G:=
 ⟨r.z,r.zn,fun a o e z=>s a o (r.k a o e z),r.f,fun a h=>(g a h).elim (r.g a) fun h=>r.kn (.inr h.1),fun a ⟨i,z⟩ h=>(g a h).elim (r.d a ⟨i,z⟩) fun h=>(O.fm i a z).ne h.1,
  fun a h z=>(g a h).elim (fun h=>r.gz a h z) fun h=>O.zh a z h.1,fun a h=>(g a h).elim (fun h=>(r.gm a h).up fun o e=>s a o e) fun h=>h.2⟩
end
theorem Hj{t:TA}{ua:UA}(ha:n4 t ua):aZ (Jk t) (gE ua):=by
 intro σ env Z H φ Q R O q k
 refine ha σ env Z H φ _ _ O q fun rs aK vs Z1 H1 bE G1 ⟨ds,e,hz,q1⟩ O1 r1 jc=>?_
 have ho:=vT jc e
 refine⟨by rw[ho.length];exact hz,fun p H2 hn hs hp=>?_⟩
 exact k (.a8 (.tup ds)) aK (.ref p) Z1 H2 bE G1 q1 (O1.grow hs) (Res.lay O1 r1 hs fun a z=>.inl z) (de.mpr ⟨p,vs,rfl,hp,ho.grow hs⟩)
theorem Hs{t:TA}{ua:UA}(ha:n4 t ua):aZ (Jq t) (cZ ua):=by
 intro σ env Z H φ Q R O q k
 refine ha σ env Z H φ _ _ O q fun rs aK vs Z1 H1 bE G1 ⟨ds,e,hz,q1⟩ O1 r1 jc=>?_
 have ho:=vT jc e
 refine⟨by rw[ho.length];exact hz,fun p H2 hn hs hp=>?_⟩
 refine k (.a8 (.lst true ds)) aK (.ref p) Z1 H2 bE (fun a=>G1 a\/a=p) q1 (O1.grow hs) (Res.lay O1 r1 hs fun a z=>z.imp id fun z=>?_) (bA.mpr ⟨p,vs,rfl,hp,.inr rfl,(ho.grow hs).mono fun a z=>⟨.inl z,fun y=>?_⟩⟩)
 ·subst z;exact⟨hn,by rw[hp];exact trivial⟩
 ·subst y;exact(r1.gm _ z).ne hn
end VS
end
section
namespace VS
open PySem L2
section
variable {Z Z1 Z2:Set}{H H1 H2:Hp}{F F1 F2 G G1:Set}
theorem Res.drop(r:Res Z H F Z1 H1 F1 G):Res Z H F Z1 H1 F1 cx:=⟨r.z,r.zn,r.k,r.f,fun _ z=>z.elim,fun _ _ z=>z,fun _ z=>z.elim,fun _ z=>z.elim⟩
end
theorem Ed{Z:Set}{H:Hp}{σ:St}{b:Bool}{v:V}{G:Set}(h:n5 Z H σ (.a8 (.bl b)) v G):v=.bl b:=dh.mp (show Own Z H (.bl b) v G from h)
theorem vO{Z:Set}{H:Hp}{σ:St}{b:Bool}:n5 Z H σ (.a8 (.bl b)) (.bl b) cx:=show Own Z H (.bl b) _ cx from dh.mpr rfl
def aR(ua:UB):UT:=fun env Q=>ua env fun r e=>∃b,r=.a8 (.bl b)/\Q b e
theorem qM{ta:TE}{ua:UB}(h:aZ ta ua):hU (Du ta) (aR ua):=by
 intro σ env Z H φ Q R O q k
 refine h σ env Z H φ _ _ O q fun r aK v Z1 H1 bE G ⟨b,e,q1⟩ O1 r1 ok=>?_
 subst e
 exact⟨b,Ed ok,k b aK Z1 H1 bE q1 O1 r1.drop⟩
theorem BP{ta:TE}{ua:UB}(h:aZ ta ua):hU (tB ta) (aR ua):=qM h
def yO(t:UT):UT:=fun env Q=>t env fun b e=>Q (!b) e
theorem Hr{t:TT}{u:UT}(h:hU t u):hU (N5 t) (yO u):=fun σ env Z H φ Q R O q k=>h σ env Z H φ _ _ O q fun b aK Z1 H1 bE q1 O1 r1=>k (!b) aK Z1 H1 bE q1 O1 r1
def qG(t u:UT):UT:=fun env Q=>t env fun b e=>if b=true then u e Q else Q false e
def YF(t u:UT):UT:=fun env Q=>t env fun b e=>if b=true then Q true e else u e Q
theorem snd_and{t t':TT}{u u':UT}(h:hU t u)(h':hU t' u'):hU (N_ t t') (qG u u'):=by
 intro σ env Z H φ Q R O q k
 refine h σ env Z H φ _ _ O q fun b aK Z1 H1 bE q1 O1 r1=>?_
 cases b with
 |true=>rw[if_pos rfl] at q1 ⊢;exact h' σ aK Z1 H1 bE _ _ O1 q1 fun b gB Z2 H2 hX q2 O2 r2=>k b gB Z2 H2 hX q2 O2 (r1.trans r2)
 |false=>rw[if_neg Bool.false_ne_true] at q1 ⊢;exact k false aK Z1 H1 bE q1 O1 r1
def Sl:D->Option Bool
 | .bH=>some false
 | .bl b=>some b
 | .int i=>some (i != 0)
 | .lst _ ds=>some (!ds.isEmpty)
 | .tup ds=>some (!ds.isEmpty)
 |_=>none
def l7(ua:UB):UT:=fun env Q=>ua env fun r e=>∃d b,r.at e=some d/\Sl d=some b/\Q b e
theorem BO{K:PySem.W.Frag}{ta:TE}{ua:UB}(h:aZ ta ua):hU (fun σ H Q=>ta σ H fun x H'=>∃k,ML K x H' k/\Q k H') (l7 ua):=by
 intro σ env Z H φ Q R O q k
 refine h σ env Z H φ _ _ O q fun r aK v Z1 H1 bE G ⟨d,b,e,et,q1⟩ O1 r1 ok=>?_
 obtain⟨F,ho⟩:=dW O1 ok e
 refine⟨b,?_,k b aK Z1 H1 bE q1 O1 r1.drop⟩
 cases d<;>simp only[Sl,reduceCtorEq,Option.some.injEq] at et<;>subst et
 ·rw[lh.mp ho];rfl
 ·rw[dh.mp ho];rfl
 ·rw[a_.mp ho];rfl
 ·rename_i ds
  obtain⟨a,vs,rfl,hr,hl⟩:=de.mp ho
  have:=hl.length
  refine .inr (.inl ⟨vs,.inl (.inl hr),?_⟩)
  cases vs<;>cases ds<;>simp at this ⊢
 ·rename_i o ds
  obtain⟨a,vs,rfl,hr,hl⟩:=fO ho
  have:=hl.length
  refine .inl ⟨vs,.inl hr,?_⟩
  cases vs<;>cases ds<;>simp at this ⊢
def An(ua ub:UB):UB:=fun env Q=>ua env fun r e=>∃c,r=.a8 (.bl c)/\if c=true then ub e Q else Q (.a8 (.bl false)) e
def Sg(ua ub:UB):UB:=fun env Q=>ua env fun r e=>∃c,r=.a8 (.bl c)/\if c=true then Q (.a8 (.bl true)) e else ub e Q
def NY(ua:UB):UB:=fun env Q=>ua env fun r e=>∃c,r=.a8 (.bl c)/\Q (.a8 (.bl (!c))) e
def Aj(t:UT)(ua ub:UB):UB:=fun env Q=>t env fun b e=>if b=true then ua e Q else ub e Q
theorem DZ{ta tb:TE}{ua ub:UB}(h:aZ ta ua)(h':aZ tb ub):aZ (Ju ta tb) (An ua ub):=by
 intro σ env Z H φ Q R O q k
 refine h σ env Z H φ _ _ O q fun r aK v Z1 H1 bE G ⟨c,e,q1⟩ O1 r1 ok=>?_
 subst e
 refine⟨c,Ed ok,?_⟩
 cases c with
 |true=>rw[if_pos rfl] at q1 ⊢;exact h' σ aK Z1 H1 bE _ _ O1 q1 fun b gB v2 Z2 H2 hX G2 q2 O2 r2 qc=>k b gB v2 Z2 H2 hX G2 q2 O2 (r1.drop.trans r2) qc
 |false=>rw[if_neg Bool.false_ne_true] at q1 ⊢;exact k _ aK _ Z1 H1 bE cx q1 O1 r1.drop vO
theorem Hu{t:TT}{u:UT}{ta tb:TE}{ua ub:UB}(hc:hU t u)(h:aZ ta ua)(h':aZ tb ub):aZ (V9 t ta tb) (Aj u ua ub):=by
 intro σ env Z H φ Q R O q k
 refine hc σ env Z H φ _ _ O q fun b aK Z1 H1 bE q1 O1 r1=>?_
 cases b with
 |true=>rw[if_pos rfl] at q1 ⊢;exact h σ aK Z1 H1 bE _ _ O1 q1 fun b gB v2 Z2 H2 hX G2 q2 O2 r2 qc=>k b gB v2 Z2 H2 hX G2 q2 O2 (r1.trans r2) qc
 |false=>rw[if_neg Bool.false_ne_true] at q1 ⊢;exact h' σ aK Z1 H1 bE _ _ O1 q1 fun b gB v2 Z2 H2 hX G2 q2 O2 r2 qc=>k b gB v2 Z2 H2 hX G2 q2 O2 (r1.trans r2) qc
def Kp(I:Nat->Bool)(σ bR:St):Prop:=∀i:Nat,I i=true->bR[i]? = σ[i]?
theorem Kp.refl{I:Nat->Bool}{σ:St}:Kp I σ σ:=fun _ _=>rfl
theorem Kp.trans{I:Nat->Bool}{a b c:St}(h:Kp I a b)(h':Kp I b c):Kp I a c:=fun i hi=>(h' i hi).trans (h i hi)
structure cY where
 nx:ai->Prop
 rt:D->ai->Prop
 bk:ai->Prop
 ct:ai->Prop
abbrev US:=cY->ai->Prop
def KN(I:Nat->Bool)(Z:Set)(H:Hp)(F:Set)(σ:St)(P:ai->Prop)(K:St->Hp->Prop):Prop:=∀bQ bR Z' H' cN,P bQ->Ok Z' H' bQ bR cN->Res Z H F Z' H' (cT cN) cx->Kp I σ bR->K bR H'
def KR(I:Nat->Bool)(Z:Set)(H:Hp)(F:Set)(σ:St)(P:D->ai->Prop)(K:VK):Prop:=∀d bQ v bR Z' H' cN G,P d bQ->Ok Z' H' bQ bR cN->Res Z H F Z' H' (cT cN) G->Own Z' H' d v G->Kp I σ bR->K v H'
structure J3(I:Nat->Bool)(Z:Set)(H:Hp)(F:Set)(σ:St)(D:cY)(E:Ends):Prop where
 nx:KN I Z H F σ D.nx E.nx
 rt:KR I Z H F σ D.rt E.rt
 bk:KN I Z H F σ D.bk E.bk
 ct:KN I Z H F σ D.ct E.ct
def fN(I:Nat->Bool)(t:TS)(u:US):Prop:=∀(σ:St) (env:ai) (Z:Set) (H:Hp) (φ:Nat->Set) (D:cY) (E:Ends),Ok Z H env σ φ->u D env->J3 I Z H (cT φ) σ D E->t E σ H
section
variable {I:Nat->Bool}{Z Z1:Set}{H H1:Hp}{F F1:Set}{σ yI:St}
theorem KN.after{P:ai->Prop}{K:St->Hp->Prop}(k:KN I Z H F σ P K)(r:Res Z H F Z1 H1 F1 cx)(s:Kp I σ yI):KN I Z1 H1 F1 yI P K:=fun bQ bR Z' H' cN p O r' s'=>k bQ bR Z' H' cN p O (r.trans r') (s.trans s')
theorem KR.after{P:D->ai->Prop}{K:VK}(k:KR I Z H F σ P K)(r:Res Z H F Z1 H1 F1 cx)(s:Kp I σ yI):KR I Z1 H1 F1 yI P K:=fun d bQ v bR Z' H' cN G p O r' o s'=>k d bQ v bR Z' H' cN G p O (r.trans r') o (s.trans s')
theorem J3.after{D:cY}{E:Ends}(k:J3 I Z H F σ D E)(r:Res Z H F Z1 H1 F1 cx)(s:Kp I σ yI):J3 I Z1 H1 F1 yI D E:=⟨k.nx.after r s,k.rt.after r s,k.bk.after r s,k.ct.after r s⟩
end
def aC(a b:US):US:=fun D env=>a {D with nx:=b D} env
def cm:US:=fun D env=>D.nx env
def Sh:US:=fun D env=>D.bk env
def Am:US:=fun D env=>D.ct env
def bM(ua:UB):US:=fun D env=>ua env fun r e=>∃d,r=.a8 d/\D.rt d e
def NX:US:=fun D env=>D.rt .bH env
def Ak(ua:UB):US:=fun D env=>ua env fun _ e=>D.nx e
def dn(t:UT)(a b:US):US:=fun D env=>t env fun c e=>if c=true then a D e else b D e
def l8:US:=fun _ _=>False
section
variable {I:Nat->Bool}
theorem Hm{t t':TS}{u u':US}(h:fN I t u)(h':fN I t' u'):fN I (N1 t t') (aC u u'):=fun σ env Z H φ D E O q k=>
 h σ env Z H φ _ _ O q ⟨fun bQ bR Z' H' cN p O' r s=>h' bR bQ Z' H' cN D E O' p (k.after r s),k.rt,k.bk,k.ct⟩
theorem DI:fN I Jo cm:=fun σ env Z H φ D E O q k=>k.nx env σ Z H φ q O Res.refl Kp.refl
theorem DY:fN I Jt Am:=fun σ env Z H φ D E O q k=>k.ct env σ Z H φ q O Res.refl Kp.refl
theorem BS{t:TS}:fN I t l8:=fun σ env Z H φ D E O q k=>q.elim
theorem Hn{t:TE}{u:UB}(h:aZ t u):fN I (N3 t) (bM u):=fun σ env Z H φ D E O q k=>
 h σ env Z H φ _ _ O q fun r aK v Z1 H1 bE G ⟨d,e,q1⟩ O1 r1 ok=>k.rt d aK v σ Z1 H1 bE G q1 O1 r1 (by subst e;exact ok) Kp.refl
theorem DT{t:TE}{u:UB}(h:aZ t u):fN I (ud t) (Ak u):=fun σ env Z H φ D E O q k=>
 h σ env Z H φ _ _ O q fun r aK v Z1 H1 bE G q1 O1 r1 ok=>k.nx aK σ Z1 H1 bE q1 O1 r1.drop Kp.refl
theorem Kx{t:TT}{u:UT}{a b:TS}{ua ub:US}(hc:hU t u)(ha:fN I a ua)(hb:fN I b ub):fN I (N6 t a b) (dn u ua ub):=by
 intro σ env Z H φ D E O q k
 refine hc σ env Z H φ _ _ O q fun c aK Z1 H1 bE q1 O1 r1=>?_
 cases c with
 |true=>rw[if_pos rfl] at q1 ⊢;exact ha σ aK Z1 H1 bE D E O1 q1 (k.after r1 Kp.refl)
 |false=>rw[if_neg Bool.false_ne_true] at q1 ⊢;exact hb σ aK Z1 H1 bE D E O1 q1 (k.after r1 Kp.refl)
end
abbrev UG:=D->ai->(ai->Prop)->Prop
abbrev C1:=List D->ai->(ai->Prop)->Prop
def ik(φ:Nat->Set)(i:Nat)(G:Set):Nat->Set:=fun j a=>if j=i then G a else φ j a
def j0(I:Nat->Bool)(g:TG)(u:UG):Prop:=∀(σ:St) (env:ai) (Z:Set) (H:Hp) (φ:Nat->Set) (d:D) (v:V) (G:Set) (Q:ai->Prop) (K:St->Hp->Prop),Ok Z H env σ φ->Own Z H d v G->(∀a,cT φ a->¬G a)->(∀a,G a->¬Z a)->(∀a,G a->mJ (H a))->u d env Q ->
 (∀bQ bR Z' cN,Q bQ->Ok Z' H bQ bR cN->(∀a,Z a->Z' a)->(∀a,Z' a->Z a\/G a)->(∀a,cT cN a->cT φ a\/G a)->Kp I σ bR->K bR H)->g v σ H K
def yA(I:Nat->Bool)(g:C2)(u:C1):Prop:=∀(σ:St) (env:ai) (Z:Set) (H:Hp) (φ:Nat->Set) (ds:List D) (vs:List V) (G:Set) (Q:ai->Prop) (K:St->Hp->Prop),Ok Z H env σ φ->ar Z H ds vs G->(∀a,cT φ a->¬G a)->(∀a,G a->¬Z a)->(∀a,G a->mJ (H a))->u ds env Q ->
 (∀bQ bR Z' cN,Q bQ->Ok Z' H bQ bR cN->(∀a,Z a->Z' a)->(∀a,Z' a->Z a\/G a)->(∀a,cT cN a->cT φ a\/G a)->Kp I σ bR->K bR H)->g vs σ H K
def au(i:Nat):UG:=fun d env k=>i<env.length/\k (env.set i (some d))
def bx(i:Nat):UG:=fun d env k=>i<env.length/\k (env.set i (some (aU d)))
def gc:C1:=fun ds env k=>ds=[]/\k env
def bz(g:UG)(gs:C1):C1:=fun ds env k=>∃d r,ds=d::r/\g d env fun e=>gs r e k
def gb(n:Nat)(gs:C1):UG:=fun d env k=>∃ds,d=.tup ds/\ds.length=n/\gs ds env k
section
variable {I:Nat->Bool}{Z:Set}{H:Hp}{env:ai}{σ:St}{φ:Nat->Set}
theorem Ok.put(O:Ok Z H env σ φ){i:Nat}{d:D}{v:V}{G:Set}(ho:Own Z H d v G)(hd:∀a,cT φ a->¬G a)(hz:∀a,G a->¬Z a)(hm:∀a,G a->mJ (H a))(hi:i<env.length)(hs:i<σ.length):Ok Z H (env.set i (some d)) (σ.set i (some v)) (ik φ i G):=by
 refine⟨fun j e he=>?_,fun j k a h1 h2=>?_,fun j a h=>?_,fun j a h=>?_,O.zh,by rw[List.length_set,List.length_set];exact O.len⟩
 ·by_cases hj:i=j
  ·subst hj
   rw[List.getElem?_set_self hi] at he
   cases he
   exact⟨v,List.getElem?_set_self hs,by unfold ik;exact ho.mono fun a z=>by rw[if_pos rfl];exact z⟩
  ·rw[List.getElem?_set_ne hj] at he
   obtain⟨w,hw,h⟩:=O.own j e he
   exact⟨w,by rw[List.getElem?_set_ne hj];exact hw,h.mono fun a z=>by unfold ik;rw[if_neg (Ne.symm hj)];exact z⟩
 ·unfold ik at h1 h2
  by_cases hj:j=i<;>by_cases hk:k=i
  ·rw[hj,hk]
  ·rw[if_pos hj] at h1;rw[if_neg hk] at h2;exact absurd h1 (hd a ⟨k,h2⟩)
  ·rw[if_neg hj] at h1;rw[if_pos hk] at h2;exact absurd h2 (hd a ⟨j,h1⟩)
  ·rw[if_neg hj] at h1;rw[if_neg hk] at h2;exact O.dj j k a h1 h2
 ·unfold ik at h
  by_cases hj:j=i
  ·rw[if_pos hj] at h;exact hz a h
  ·rw[if_neg hj] at h;exact O.fz j a h
 ·unfold ik at h
  by_cases hj:j=i
  ·rw[if_pos hj] at h;exact hm a h
  ·rw[if_neg hj] at h;exact O.fm j a h
theorem jj{i:Nat}{G:Set}(a:Addr)(h:cT (ik φ i G) a):cT φ a\/G a:=by
 obtain⟨j,h⟩:=h
 unfold ik at h
 by_cases hj:j=i
 ·rw[if_pos hj] at h;exact .inr h
 ·rw[if_neg hj] at h;exact .inl ⟨j,h⟩
end
end VS
end
section
namespace VS
open PySem L2
section
variable {I:Nat->Bool}{Z:Set}{H:Hp}{env:ai}{σ:St}{φ:Nat->Set}
theorem Ok.MU(O:Ok Z H env σ φ){G:Set}(h1:∀a,G a->¬cT φ a)(h2:∀a,G a->H a≠none):Ok (fun a=>Z a\/G a) H env σ φ:=
 ⟨fun i d e=>let ⟨v,hv,h⟩:=O.own i d e;⟨v,hv,h.iB fun _ z=>.inl z⟩,O.dj,fun i a h z=>z.elim (O.fz i a h) fun z=>h1 a z ⟨i,h⟩,O.fm,fun a z=>z.elim (O.zh a) (h2 a),O.len⟩
theorem rL{i:Nat}{v:Option V}(hi:I i=false):Kp I σ (σ.set i v):=fun j hj=>List.getElem?_set_ne fun e=>by rw[e,hj] at hi;cases hi
theorem ur{i:Nat}(hi:I i=false):j0 I (A7 i) (au i):=by
 intro σ env Z H φ d v G Q K O ho hd hz hm ⟨hl,q⟩ k
 exact k _ _ Z _ q (O.put ho hd hz hm hl (by rw[<-O.len];exact hl)) (fun _ z=>z) (fun _ z=>.inl z) jj (rL hi)
theorem qO{i:Nat}(hi:I i=false):j0 I (A7 i) (bx i):=by
 intro σ env Z H φ d v G Q K O ho hd hz hm ⟨hl,q⟩ k
 have O2:=O.MU (G:=G) (fun a z y=>hd a y z) fun a z=>(hm a z).ne
 exact k _ _ _ _ q (O2.put (G:=cx) ho.aU (fun _ _ z=>z) (fun _ z=>z.elim) (fun _ z=>z.elim) hl (by rw[<-O.len];exact hl)) (fun _ z=>.inl z) (fun _ z=>z) (fun a z=>(jj a z).imp id fun z=>z.elim) (rL hi)
theorem DO:yA I Py gc:=fun σ env Z H φ ds vs G Q K O ho hd hz hm ⟨e,q⟩ k=>by
 subst e
 exact⟨ba.mp ho,k env σ Z φ q O (fun _ z=>z) (fun _ z=>.inl z) (fun _ z=>.inl z) Kp.refl⟩
theorem BV{g:TG}{gs:C2}{u:UG}{us:C1}(h:j0 I g u)(h':yA I gs us):yA I (JT g gs) (bz u us):=by
 intro σ env Z H φ ds vs G Q K O ho hd hz hm ⟨d,r,e,q⟩ k
 subst e
 obtain⟨v,ws,F1,F2,rfl,h1,h2,s1,s2,dj⟩:=aF.mp ho
 refine⟨v,ws,rfl,h σ env Z H φ d v F1 _ _ O h1 (fun a z y=>hd a z (s1 a y)) (fun a z=>hz a (s1 a z)) (fun a z=>hm a (s1 a z)) q fun aK yI Z1 bE q1 O1 z1 VD f1 k1=>?_⟩
 refine h' yI aK Z1 H bE r ws F2 Q K O1 (h2.iB z1) (fun a z y=>(f1 a z).elim (fun z=>hd a z (s2 a y)) fun z=>dj a z y) (fun a z y=>(VD a y).elim (hz a (s2 a z)) fun y=>dj a y z) (fun a z=>hm a (s2 a z)) q1 fun gB vi Z2 hX q2 O2 z2 Nx f2 k2=>?_
 exact k gB vi Z2 hX q2 O2 (fun a z=>z2 a (z1 a z)) (fun a z=>(Nx a z).elim (fun z=>(VD a z).imp id (s1 a)) fun z=>.inr (s2 a z)) (fun a z=>(f2 a z).elim (fun z=>(f1 a z).imp id (s1 a)) fun z=>.inr (s2 a z)) (k1.trans k2)
theorem DN{K:PySem.W.Frag}{n:Nat}{gs:C2}{us:C1}(h:yA I gs us):j0 I (Pw K n gs) (gb n us):=by
 intro σ env Z H φ d v G Q K O ho hd hz hm ⟨ds,e,hn,q⟩ k
 subst e
 obtain⟨a,vs,rfl,hr,hl⟩:=de.mp ho
 exact⟨a,vs,rfl,.inl (.inl hr),by rw[hl.length];exact hn,h σ env Z H φ ds vs G Q K O hl hd hz hm q k⟩
def aX(ua:UB)(g:UG):US:=fun E env=>ua env fun r e=>∃d,r=.a8 d/\g d e E.nx
theorem mV{t:TE}{u:UB}{g:TG}{ug:UG}(h:aZ t u)(hg:j0 I g ug):fN I (yW t g) (aX u ug):=by
 intro σ env Z H φ D E O q k
 refine h σ env Z H φ _ _ O q fun r aK v Z1 H1 bE G ⟨d,e,q1⟩ O1 r1 ok=>?_
 subst e
 refine hg σ aK Z1 H1 bE d v G _ _ O1 ok r1.d r1.gz r1.gm q1 fun gB vi Z2 hX q2 O2 z2 Nx f2 k2=>?_
 exact k.nx gB vi Z2 H1 hX q2 O2 ⟨fun a z=>z2 a (r1.z a z),fun a z=>(Nx a z).elim (r1.zn a) fun z=>.inr (r1.g a z),r1.k,fun a z=>(f2 a z).elim (r1.f a) (r1.g a),fun _ z=>z.elim,fun _ _ z=>z,fun _ z=>z.elim,fun _ z=>z.elim⟩ k2
def Dm(i:Nat)(f:Int->Int->Int)(ua:UB):US:=fun E env=>∃a,env[i]? = some (some (.int a))/\ua env fun r e=>∃b,r=.a8 (.int b)/\i<e.length/\E.nx (e.set i (some (.int (f a b))))
theorem Hx{i:Nat}{f:Int->Int->Int}{t:TE}{u:UB}(hi:I i=false)(h:aZ t u):fN I (N9 i t (Tc f)) (Dm i f u):=by
 intro σ env Z H φ D E O ⟨a,e,q⟩ k
 obtain⟨v,hv,ho⟩:=O.own i _ e
 rw[a_] at ho
 subst ho
 refine⟨_,hv,h σ env Z H φ _ _ O q fun r aK v Z1 H1 bE G ⟨b,e1,hl,q1⟩ O1 r1 ok=>?_⟩
 subst e1
 refine⟨a,b,rfl,a_.mp (show Own Z1 H1 (.int b) v G from ok),?_⟩
 exact k.nx _ _ Z1 H1 _ q1 (O1.put (G:=cx) (a_.mpr rfl) (fun _ _ z=>z) (fun _ z=>z.elim) (fun _ z=>z.elim) hl (by rw[<-O1.len];exact hl)) ⟨r1.z,r1.zn,r1.k,fun a z=>(jj a z).elim (r1.f a) fun z=>z.elim,fun _ z=>z.elim,fun _ _ z=>z,fun _ z=>z.elim,fun _ z=>z.elim⟩ (rL hi)
end
def oj(p q:Int->Int->Bool)(ua ub uc:UB):UB:=fun env Q=>ua env fun r1 e1=>ub e1 fun r2 e2=>∃i j,r1=.a8 (.int i)/\r2=.a8 (.int j)/\if p i j=true then uc e2 fun r3 e3=>∃k,r3=.a8 (.int k)/\Q (.a8 (.bl (q j k))) e3 else Q (.a8 (.bl false)) e2
theorem B1{p q:Int->Int->Bool}{ta tb tc:TE}{ua ub uc:UB}(ha:aZ ta ua)(hb:aZ tb ub)(hc:aZ tc uc):aZ (DB (zi fun i j=>.bl (p i j)) (zi fun i j=>.bl (q i j)) ta tb tc) (oj p q ua ub uc):=by
 intro σ env Z H φ Q R O u k
 refine ha σ env Z H φ _ _ O u fun r1 aK v1 Z1 H1 bE G1 q1 O1 s1 jc=>?_
 refine hb σ aK Z1 H1 bE _ _ O1 q1 fun r2 gB v2 Z2 H2 hX G2 ⟨i,j,e1,e2,q2⟩ O2 s2 qc=>?_
 subst e1 e2
 have f1:=a_.mp (show Own Z1 H1 (.int i) v1 G1 from jc)
 have f2:=a_.mp (show Own Z2 H2 (.int j) v2 G2 from qc)
 refine⟨i,j,f1,f2,p i j,rfl,?_⟩
 have zf:=s1.drop.trans s2.drop
 by_cases hp:p i j=true
 ·rw[if_pos hp] at q2 ⊢
  refine hc σ gB Z2 H2 hX _ _ O2 q2 fun r3 tV v3 Z3 H3 yH G3 ⟨kk,e3,q3⟩ O3 s3 AS=>?_
  subst e3
  exact⟨j,kk,f2,a_.mp (show Own Z3 H3 (.int kk) v3 G3 from AS),k _ tV _ Z3 H3 yH cx q3 O3 (zf.trans s3.drop) vO⟩
 ·rw[if_neg hp] at q2 ⊢
  exact k _ gB _ Z2 H2 hX cx q2 O2 zf vO
structure pD(Z:Set)(H:Hp)(Z2:Set)(H2:Hp):Prop where
 z:∀a,Z a->Z2 a
 k:∀a o,H a=some o->Z a->H2 a=some o
 t:∀a vs,H a=some (.tup vs)->H2 a=some (.tup vs)
theorem pD.refl{Z:Set}{H:Hp}:pD Z H Z H:=⟨fun _ z=>z,fun _ _ e _=>e,fun _ _ e=>e⟩
theorem pD.trans{Z Z1 Z2:Set}{H H1 H2:Hp}(a:pD Z H Z1 H1)(b:pD Z1 H1 Z2 H2):pD Z H Z2 H2:=⟨fun x z=>b.z x (a.z x z),fun x o e z=>b.k x o (a.k x o e z) (a.z x z),fun x vs e=>b.t x vs (a.t x vs e)⟩
theorem Res.CV{Z Z2:Set}{H H2:Hp}{env:ai}{σ:St}{φ:Nat->Set}{F2 G:Set}(O:Ok Z H env σ φ)(r:Res Z H (cT φ) Z2 H2 F2 G):pD Z H Z2 H2:=⟨r.z,fun a o e z=>r.k a o e fun⟨i,y⟩=>O.fz i a y z,fun a vs e=>r.k a _ e fun⟨i,y⟩=>(O.fm i a y).gG e⟩
theorem pD.own{Z Z2:Set}{H H2:Hp}(k:pD Z H Z2 H2){d:D}{v:V}(h:Own Z H d v cx):Own Z2 H2 d v cx:=
 Own.step (fun a=>¬Z a/\∀vs,¬H a=some (.tup vs)) k.z (fun a o e n=>by
  by_cases hz:Z a
  ·exact k.k a o e hz
  ·by_cases ht:∃vs,H a=some (.tup vs)
   ·obtain⟨vs,ht⟩:=ht
    rw[e] at ht;cases ht
    exact k.t a vs e
   ·exact absurd ⟨hz,fun vs z=>ht ⟨vs,z⟩⟩ n) (fun a z=>z.1) (fun a vs z=>z.2 vs) d (fun _ z=>z) (fun _ _ z=>z) h
theorem pD.Lm{Z Z2:Set}{H H2:Hp}(k:pD Z H Z2 H2){ds:List D}{vs:List V}(h:ar Z H ds vs cx):ar Z2 H2 ds vs cx:=
 ar.step (fun a=>¬Z a/\∀vs,¬H a=some (.tup vs)) k.z (fun a o e n=>by
  by_cases hz:Z a
  ·exact k.k a o e hz
  ·by_cases ht:∃vs,H a=some (.tup vs)
   ·obtain⟨vs,ht⟩:=ht
    rw[e] at ht;cases ht
    exact k.t a vs e
   ·exact absurd ⟨hz,fun vs z=>ht ⟨vs,z⟩⟩ n) (fun a z=>z.1) (fun a vs z=>z.2 vs) ds (fun _ z=>z) (fun _ _ z=>z) h
structure Walk(J:It)(Z:Set)(H:Hp)(items:List D):Prop where
 stop:∀Z2 H2,pD Z H Z2 H2->J.stop items.length H2
 go:∀i d Z2 H2,items[i]? = some d->pD Z H Z2 H2->J.go i H2/\∀x H3,J.MV i H2 x H3->ck H2 H3/\Own Z2 H3 d x cx
abbrev UI:=ai->(List D->ai->Prop)->Prop
def tX(wi:TI)(ui:UI):Prop:=∀(σ:St) (env:ai) (Z:Set) (H:Hp) (φ:Nat->Set) (Q:List D->ai->Prop) (R:It->Hp->Prop),Ok Z H env σ φ->ui env Q ->
 (∀items bQ Z' H' cN J,Q items bQ->Ok Z' H' bQ σ cN->Res Z H (cT φ) Z' H' (cT cN) cx->Walk J Z' H' items->R J H')->wi σ H R
def qg(ug:UG)(ub:US)(E:cY):List D->ai->Prop
 | [],e=>E.nx e
 |x::xs,e=>ug x e fun e2=>ub {nx:=qg ug ub E xs,rt:=E.rt,bk:=E.nx,ct:=qg ug ub E xs} e2
def eR(ui:UI)(ug:UG)(ub:US):US:=fun E env=>ui env fun items e=>qg ug ub E items e
theorem Res.same{Z:Set}{H H':Hp}{F:Set}(s:ck H H'):Res Z H F Z H' F cx:=⟨fun _ z=>z,fun _ z=>.inl z,fun a o e _=>s a o e,fun _ z=>.inl z,fun _ z=>z.elim,fun _ _ z=>z,fun _ z=>z.elim,fun _ z=>z.elim⟩
theorem Res.V2{Z Z':Set}{H:Hp}{F F':Set}(z1:∀a,Z a->Z' a)(z2:∀a,Z' a->Z a\/cx a)(f:∀a,F' a->F a\/cx a):Res Z H F Z' H F' cx:=⟨z1,fun a z=>(z2 a z).elim .inl fun z=>z.elim,fun _ _ e _=>e,fun a z=>(f a z).imp id fun z=>z.elim,fun _ z=>z.elim,fun _ _ z=>z,fun _ z=>z.elim,fun _ z=>z.elim⟩
theorem yi{I:Nat->Bool}{J:It}{g:TG}{ug:UG}{tb:TS}{ub:US}{σ:St}{aK:ai}{Z1:Set}{H1:Hp}{bE:Nat->Set}{D:cY}{E:Ends}{items:List VS.D}(hg:j0 I g ug)(hb:fN I tb ub)(O1:Ok Z1 H1 aK σ bE)(w:Walk J Z1 H1 items)(q1:qg ug ub D items aK)(k1:J3 I Z1 H1 (cT bE) σ D E) :
  ∃W:Nat->Nat->St->Hp->Prop,(∃m,W 0 m σ H1)/\∀i m σ H,W i m σ H ->
   (J.stop i H/\E.nx σ H)\/(J.go i H/\∃N:St->Hp->Prop,(∀bR H',N bR H'->∃m',m'<m/\W (i+1) m' bR H')/\∀x H',J.MV i H x H'->g x σ H' fun vi H2=>tb {E with nx:=N,ct:=N,bk:=E.nx} vi H2):=by
 refine⟨fun i m bR H'=>∃bQ Z' cN,Ok Z' H' bQ bR cN/\Res Z1 H1 (cT bE) Z' H' (cT cN) cx/\Kp I σ bR/\i<=items.length/\m=items.length-i/\qg ug ub D (items.drop i) bQ,⟨items.length,aK,Z1,bE,O1,Res.refl,Kp.refl,Nat.zero_le _,rfl,q1⟩,?_⟩
 rintro i m bR H' ⟨bQ,Z',cN,O',r',kp,Nk,rfl,q'⟩
 by_cases iZ:i<items.length
 ·have hd:items[i]? = some items[i]:=List.getElem?_eq_getElem iZ
  obtain⟨T5,hy⟩:=w.go i items[i] Z' H' hd (r'.CV O1)
  refine .inr ⟨T5,fun vi H2=>∃bQ Z' cN,Ok Z' H2 bQ vi cN/\Res Z1 H1 (cT bE) Z' H2 (cT cN) cx/\Kp I σ vi/\i+1<=items.length/\qg ug ub D (items.drop (i+1)) bQ,fun vi H2 ⟨bQ,Z',cN,a,b,c,d,e⟩=>⟨items.length-(i+1),by omega,bQ,Z',cN,a,b,c,d,rfl,e⟩,fun x H3 y=>?_⟩
  obtain⟨s3,o3⟩:=hy x H3 y
  rw[List.drop_eq_getElem_cons iZ] at q'
  refine hg bR bQ Z' H3 cN _ x cx _ _ (O'.grow s3) o3 (fun _ _ z=>z) (fun _ z=>z.elim) (fun _ z=>z.elim) q' fun UE Yw Z4 Gx q4 O4 z4 RO f4 OI=>?_
  have r4:Res Z1 H1 (cT bE) Z4 H3 (cT Gx) cx:=(r'.trans (Res.same s3)).trans (Res.V2 z4 RO f4)
  have k4:=k1.after r4 (kp.trans OI)
  exact hb Yw UE Z4 H3 Gx _ _ O4 q4 ⟨fun e s Z5 H5 Gf p O5 r5 LJ=>⟨e,Z5,Gf,O5,r4.trans r5,(kp.trans OI).trans LJ,iZ,p⟩,k4.rt,k4.nx,fun e s Z5 H5 Gf p O5 r5 LJ=>⟨e,Z5,Gf,O5,r4.trans r5,(kp.trans OI).trans LJ,iZ,p⟩⟩
 ·have e:i=items.length:=by omega
  subst e
  rw[List.drop_length] at q'
  exact .inl ⟨w.stop Z' H' (r'.CV O1),k1.nx bQ bR Z' H' cN q' O' r' kp⟩
theorem Hv{I:Nat->Bool}{wi:TI}{ui:UI}{g:TG}{ug:UG}{tb:TS}{ub:US}(hi:tX wi ui)(hg:j0 I g ug)(hb:fN I tb ub):fN I (Kt wi g tb) (eR ui ug ub):=by
 intro σ env Z H φ D E O q k
 refine hi σ env Z H φ _ _ O q fun items aK Z1 H1 bE J q1 O1 r1 w=>?_
 exact yi hg hb O1 w q1 (k.after r1 Kp.refl)
def og(uc:UT)(ub:US):US:=fun E env=>∃W:Nat->ai->Prop,(∃m,W m env)/\∀m e,W m e->uc e fun b e1=>if b=true then ub {nx:=fun e2=>∃m',m'<m/\W m' e2,rt:=E.rt,bk:=E.nx,ct:=fun e2=>∃m',m'<m/\W m' e2} e1 else E.nx e1
theorem BN{I:Nat->Bool}{t:TT}{u:UT}{tb:TS}{ub:US}(hc:hU t u)(hb:fN I tb ub):fN I (Ds t tb) (og u ub):=by
 intro σ env Z H φ D E O ⟨W,⟨m0,w0⟩,turn⟩ k
 refine⟨fun m bR H'=>∃bQ Z' cN,Ok Z' H' bQ bR cN/\Res Z H (cT φ) Z' H' (cT cN) cx/\Kp I σ bR/\W m bQ,⟨m0,env,Z,φ,O,Res.refl,Kp.refl,w0⟩,?_⟩
 rintro m bR H' ⟨bQ,Z',cN,O',r',kp,w⟩
 refine hc bR bQ Z' H' cN _ _ O' (turn m bQ w) fun b aK Z1 H1 bE q1 O1 r1=>?_
 have Rf:=r'.trans r1
 cases b with
 |true=>
  rw[if_pos rfl] at q1 ⊢
  have k1:=k.after Rf kp
  refine⟨fun vi H2=>∃m',m'<m/\∃bQ Z' cN,Ok Z' H2 bQ vi cN/\Res Z H (cT φ) Z' H2 (cT cN) cx/\Kp I σ vi/\W m' bQ,fun vi H2 h=>h,?_⟩
  exact hb bR aK Z1 H1 bE _ _ O1 q1 ⟨fun e s Z5 H5 Gf ⟨m',hm,p⟩ O5 r5 LJ=>⟨m',hm,e,Z5,Gf,O5,Rf.trans r5,kp.trans LJ,p⟩,k1.rt,k1.nx,fun e s Z5 H5 Gf ⟨m',hm,p⟩ O5 r5 LJ=>⟨m',hm,e,Z5,Gf,O5,Rf.trans r5,kp.trans LJ,p⟩⟩
 |false=>
  rw[if_neg Bool.false_ne_true] at q1 ⊢
  exact k.nx aK bR Z1 H1 bE q1 O1 Rf kp
end VS
end
section
namespace VS
open PySem L2
section
variable {Z:Set}{H:Hp}{env:ai}{σ:St}{φ:Nat->Set}{a:Addr}{vs:List V}{items:List D}{K:PySem.W.Frag}
theorem Res.rd(O:Ok Z H env σ φ){Z2:Set}{H2:Hp}{F2 G:Set}(r:Res Z H (cT φ) Z2 H2 F2 G){u:HO}(hz:Z a)(h:Rd H a u):Rd H2 a u:=Rd.up (fun o e=>r.k a o e fun⟨i,z⟩=>O.fz i a z hz) h
theorem Res.JH(O:Ok Z H env σ φ){Z2:Set}{H2:Hp}{F2 G:Set}(r:Res Z H (cT φ) Z2 H2 F2 G){ds:List D}{G1:Set}(dj:∀a,cT φ a->¬G1 a)(h:ar Z H ds vs G1):ar Z2 H2 ds vs G1:=
 ar.step (cT φ) r.z r.k (fun a ⟨i,z⟩=>O.fz i a z) (fun a vs ⟨i,z⟩=>(O.fm i a z).gG) ds (fun _ z=>z) dj h
theorem t5(hr:Rd H a (.lst vs))(hz:Z a)(hl:ar Z H items vs cx):Walk (Vw K a) Z H items where
 stop:=fun Z2 H2 r=>⟨vs,.inl (Rd.up (fun o e=>r.k a o e hz) hr),Nat.le_of_eq hl.length⟩
 go:=fun i d Z2 H2 e r=>by
  have O6:Rd H2 a (.lst vs):=Rd.up (fun o e=>r.k a o e hz) hr
  obtain⟨v,ev,ho⟩:=(r.Lm hl).get e
  refine⟨⟨vs,v,.inl O6,ev⟩,fun x H3 ⟨e3,hx⟩=>?_⟩
  subst e3
  have:=hx vs (.inl O6)
  rw[ev] at this;cases this
  exact⟨fun _ _ e=>e,ho⟩
theorem C6(hr:H a=some (.tup vs))(hl:ar Z H items vs cx):Walk (Vv K a) Z H items:=by
 refine⟨fun Z2 H2 r=>⟨vs,.inl (.inl (r.t _ _ hr)),Nat.le_of_eq hl.length⟩,fun i d Z2 H2 e r=>?_⟩
 obtain⟨v,ev,ho⟩:=(r.Lm hl).get e
 refine⟨⟨vs,v,.inl (.inl (r.t _ _ hr)),ev⟩,fun x H3 ⟨e3,hx⟩=>?_⟩
 subst e3
 have:=hx vs (.inl (.inl (r.t _ _ hr)))
 rw[ev] at this;cases this
 exact⟨fun _ _ e=>e,ho⟩
def fq(lo:Int)(n:Nat):List D:=(List.range n).map fun(i:Nat)=>.int (lo+i)
theorem C7(lo:Int)(n:Nat):Walk (Ql lo n) Z H (fq lo n) where
 stop:=fun Z2 H2 r=>by show n<=_;simp[fq]
 go:=fun i d Z2 H2 e r=>by
  simp only[fq,List.getElem?_map,Option.map_eq_some_iff] at e
  obtain⟨j,e1,rfl⟩:=e
  obtain⟨hj,e1⟩:=List.getElem?_eq_some_iff.mp e1
  simp at e1 hj
  subst e1
  refine⟨hj,fun x H3 ⟨e3,hx⟩=>?_⟩
  subst e3 hx
  exact⟨fun _ _ e=>e,a_.mpr rfl⟩
end
def bt(e:ai):Ref->Option (List D)
 | .a8 (.lst _ ds)=>some (eA ds)
 | .var i=>match e[i]? with
  |some (some (.lst false ds))=>some ds
  |_=>none
 |_=>none
def rN(e:ai):Ref->Option (List D)
 | .a8 (.tup ds)=>some (eA ds)
 |_=>none
def dQ(f:ai->Ref->Option (List D))(ua:UB):UI:=fun env Q=>ua env fun r e=>∃ds,f e r=some ds/\Q ds e
theorem BU{K:PySem.W.Frag}{t:TE}{u:UB}(h:aZ t u):tX (JL K t) (dQ bt u):=by
 intro σ env Z H φ Q R O q k
 refine h σ env Z H φ _ _ O q fun r aK v Z1 H1 bE G ⟨ds,e,q1⟩ O1 r1 ok=>?_
 cases r with
 |a8 d=>
  cases d<;>simp only[bt,reduceCtorEq,Option.some.injEq] at e
  subst e
  rename_i o ds _
  have ho:Own Z1 H1 (.lst o ds) v G:=ok
  have hf:=ho.aU
  simp only[aU] at hf
  obtain⟨a,vs,rfl,hr,hz,hl⟩:=kG.mp hf
  have O2:=O1.MU (G:=G) (fun a z y=>r1.d a y z) fun a z=>(r1.gm a z).ne
  exact⟨a,rfl,⟨vs,.inl hr⟩,k _ aK _ H1 bE _ q1 O2 ⟨fun a z=>.inl (r1.z a z),fun a z=>z.elim (r1.zn a) fun z=>.inr (r1.g a z),r1.k,r1.f,fun _ z=>z.elim,fun _ _ z=>z,fun _ z=>z.elim,fun _ z=>z.elim⟩ (t5 hr hz hl)⟩
 |var i=>
  simp only[bt] at e
  split at e<;>simp only[reduceCtorEq,Option.some.injEq] at e
  subst e
  rename_i ds he
  obtain⟨v',hv,ho⟩:=O1.own i _ he
  have ok:σ[i]? = some (some v):=ok
  rw[hv] at ok;cases ok
  obtain⟨a,vs,rfl,hr,hz,hl⟩:=kG.mp ho
  exact⟨a,rfl,⟨vs,.inl hr⟩,k _ aK _ H1 bE _ q1 O1 r1.drop (t5 hr hz hl)⟩
theorem DM{K:PySem.W.Frag}{t:TE}{u:UB}(h:aZ t u):tX (OR K t) (dQ rN u):=by
 intro σ env Z H φ Q R O q k
 refine h σ env Z H φ _ _ O q fun r aK v Z1 H1 bE G ⟨ds,e,q1⟩ O1 r1 ok=>?_
 cases r with
 |a8 d=>
  cases d<;>simp only[rN,reduceCtorEq,Option.some.injEq] at e
  subst e
  rename_i ds _
  have ho:Own Z1 H1 (.tup ds) v G:=ok
  have hf:=ho.aU
  simp only[aU] at hf
  obtain⟨a,vs,rfl,hr,hl⟩:=de.mp hf
  have O2:=O1.MU (G:=G) (fun a z y=>r1.d a y z) fun a z=>(r1.gm a z).ne
  exact⟨a,rfl,⟨vs,.inl (.inl hr)⟩,k _ aK _ H1 bE _ q1 O2 ⟨fun a z=>.inl (r1.z a z),fun a z=>z.elim (r1.zn a) fun z=>.inr (r1.g a z),r1.k,r1.f,fun _ z=>z.elim,fun _ _ z=>z,fun _ z=>z.elim,fun _ z=>z.elim⟩ (C6 hr hl)⟩
 |var i=>simp[rN] at e
def fH(ua:UA):UI:=fun env Q=>ua env fun rs e=>∃n:Int,rs=[.a8 (.int n)]/\-(2 ^ 62)<=n/\n<2 ^ 62/\Q (fq 0 n.toNat) e
theorem DF{t:TA}{u:UA}(h:n4 t u):tX (JK t) (fH u):=by
 intro σ env Z H φ Q R O q k
 refine h σ env Z H φ _ _ O q fun rs aK vs Z1 H1 bE G ⟨n,e,l,hh,q1⟩ O1 r1 ok=>?_
 subst e
 obtain⟨v,ws,G1,G2,rfl,h1,h2,_⟩:=ok
 cases (show ws=[] from h2)
 refine⟨n,by rw[a_.mp (show Own Z1 H1 (.int n) v G1 from h1)],l,hh,k _ aK Z1 H1 bE _ q1 O1 r1.drop (C7 0 _)⟩
abbrev UX:=ai->D->Prop
def pB(t:TE)(u:UX):Prop:=∀(σ:St) (env:ai) (Z:Set) (H:Hp) (φ:Nat->Set) (d:D) (R:VK),Ok Z H env σ φ->u env d->(∀v,Own Z H d v cx->R v H)->t σ H R
def mK(i:Nat):UX:=fun env d=>env[i]? = some (some d)/\bare d=true
def xC(c:D):UX:=fun _ d=>d=c
theorem Hf{i:Nat}:pB (jz i) (mK i):=fun σ env Z H φ d R O ⟨e,hb⟩ k=>let ⟨v,hv,h⟩:=O.own i d e;⟨v,hv,k v (h.bare d hb)⟩
theorem Sv{v:V}(h:(match v with | .wH _=>false | .Gp _=>false | .ty _=>false|_=>true)=true:=by rfl):pB (tC v) (xC (Ri v)):=fun σ env Z H φ d R O e k=>by subst e;exact k v (AK h)
section
variable {Z:Set}{H H':Hp}{env:ai}{σ:St}{φ:Nat->Set}{i:Nat}{d d':D}{v:V}{G:Set}{W:Set}
theorem Ok.write(O:Ok Z H env σ φ)(hi:env[i]? = some (some d))(hv:σ[i]? = some (some v))(hW:∀a,W a->φ i a)(k:∀a,¬W a->H' a=H a)(hm:∀a,W a->mJ (H' a))(g1:∀a,G a->¬cT φ a)(g2:∀a,G a->¬Z a)(g3:∀a,G a->mJ (H a))(ho:Own Z H' d' v (fun a=>φ i a\/G a)) :
  Ok Z H' (env.set i (some d')) σ (ik φ i fun a=>φ i a\/G a):=by
 have hl:i<env.length:=(List.getElem?_eq_some_iff.mp hi).1
 have im:∀a,mJ (H a)->mJ (H' a):=fun a h=>by
  by_cases hw:W a
  ·exact hm a hw
  ·rw[k a hw];exact h
 refine⟨fun j e he=>?_,fun j k' a h1 h2=>?_,fun j a h=>?_,fun j a h=>?_,fun a z=>?_,by rw[List.length_set];exact O.len⟩
 ·by_cases hj:i=j
  ·subst hj
   rw[List.getElem?_set_self hl] at he
   cases he
   exact⟨v,hv,by unfold ik;exact ho.mono fun a z=>by rw[if_pos rfl];exact z⟩
  ·rw[List.getElem?_set_ne hj] at he
   obtain⟨w,hw,h⟩:=O.own j e he
   refine⟨w,hw,Own.step W (fun _ z=>z) (fun a o q nw=>by rw[k a nw];exact q) (fun a z=>O.fz i a (hW a z)) (fun a vs z=>(O.fm i a (hW a z)).gG) e (fun a z=>by unfold ik;rw[if_neg (Ne.symm hj)];exact z) (fun a z y=>hj (O.dj i j a (hW a z) y)) h⟩
 ·unfold ik at h1 h2
  by_cases hj:j=i<;>by_cases hk:k'=i
  ·rw[hj,hk]
  ·rw[if_pos hj] at h1;rw[if_neg hk] at h2
   rcases h1 with h1|h1
   ·exact absurd (O.dj i k' a h1 h2).symm hk
   ·exact absurd ⟨k',h2⟩ (g1 a h1)
  ·rw[if_neg hj] at h1;rw[if_pos hk] at h2
   rcases h2 with h2|h2
   ·exact absurd (O.dj j i a h1 h2) hj
   ·exact absurd ⟨j,h1⟩ (g1 a h2)
  ·rw[if_neg hj] at h1;rw[if_neg hk] at h2;exact O.dj j k' a h1 h2
 ·unfold ik at h
  by_cases hj:j=i
  ·rw[if_pos hj] at h;exact h.elim (O.fz i a) (g2 a)
  ·rw[if_neg hj] at h;exact O.fz j a h
 ·unfold ik at h
  by_cases hj:j=i
  ·rw[if_pos hj] at h;exact im a (h.elim (O.fm i a) (g3 a))
  ·rw[if_neg hj] at h;exact im a (O.fm j a h)
 ·rw[k a fun w=>O.fz i a (hW a w) z];exact O.zh a z
theorem Res.write{Z0:Set}{H0:Hp}{F0 G1:Set}(r:Res Z0 H0 F0 Z H (cT φ) G1)(hW:∀a,W a->φ i a)(k:∀a,¬W a->H' a=H a)(hG:∀a,G a->G1 a):Res Z0 H0 F0 Z H' (cT (ik φ i fun a=>φ i a\/G a)) cx:=by
 refine⟨r.z,r.zn,fun a o e n=>?_,fun a z=>?_,fun _ z=>z.elim,fun _ _ z=>z,fun _ z=>z.elim,fun _ z=>z.elim⟩
 ·rw[k a fun w=>?_]
  ·exact r.k a o e n
  ·rcases r.f a ⟨i,hW a w⟩ with z|z
   ·exact n z
   ·rw[z] at e;cases e
 ·rcases jj a z with z|z|z
  ·exact r.f a z
  ·exact r.f a ⟨i,z⟩
  ·exact r.g a (hG a z)
theorem jk:∀{ds:List D}{vs:List V}{F G:Set}{d:D}{v:V},ar Z H ds vs F->Own Z H d v G->(∀a,F a->¬G a)->ar Z H (ds++[d]) (vs++[v]) (fun a=>F a\/G a)
 | [],vs,F,G,d,v,h,h2,dj=>by
  rw[ba.mp h]
  exact aF.mpr ⟨v,[],G,cx,rfl,h2,ba.mpr rfl,fun _ z=>.inr z,fun _ z=>z.elim,fun _ _ z=>z⟩
 |e::ds,vs,F,G,d,v,h,h2,dj=>by
  obtain⟨w,r,F1,F2,rfl,h1,h3,s1,s2,FN⟩:=aF.mp h
  exact aF.mpr ⟨w,r++[v],F1,fun a=>F2 a\/G a,rfl,h1,jk h3 h2 fun a z=>dj a (s2 a z),fun a z=>.inl (s1 a z),fun a z=>z.imp (s2 a) id,fun a z y=>y.elim (FN a z) fun y=>dj a (s1 a z) y⟩
end
def cF(i:Nat)(ua:UA):US:=fun E env=>(∃ds,env[i]? = some (some (.lst true ds)))/\ua env fun rs e=>∃d ds,rs=[.a8 d]/\e[i]? = some (some (.lst true ds))/\ds.length<=1000000/\E.nx (e.set i (some (.lst true (ds++[d]))))
theorem y_{I:Nat->Bool}{K:PySem.W.Frag}{i:Nat}{t:TA}{u:UA}(h:n4 t u):fN I (ud (N8 K "list" qV (jz i) t)) (cF i u):=by
 intro σ env Z H φ DE E O ⟨⟨Xn,e0⟩,q⟩ k
 obtain⟨v,hv,ho⟩:=O.own i _ e0
 obtain⟨a,NU,rfl,O7,_,_⟩:=bA.mp ho
 refine⟨_,hv,.inl ⟨rfl,NU,ju.of O7⟩,h σ env Z H φ _ _ O q fun rs aK vs Z1 H1 bE G1 ⟨d,ds,e1,e2,hz,q1⟩ O1 r1 ok=>?_⟩
 subst e1
 obtain⟨w,ws,Ga,Gb,rfl,h1,h2,sa,_,_⟩:=ok
 cases (show ws=[] from h2)
 obtain⟨v',zN,gH⟩:=O1.own i _ e2
 rw[hv] at zN;cases zN
 obtain⟨a',kf,ea,hr,ha,hl⟩:=bA.mp gH
 cases ea
 have h1:Own Z1 H1 d w Ga:=h1
 have Fq:∀b,cT bE b->¬Ga b:=fun b z y=>r1.d b z (sa b y)
 refine⟨a,kf,w,rfl,rfl,hr,by rw[hl.length];exact hz,fun H3 fP h3=>?_⟩
 have na:¬Ga a:=Fq a ⟨i,ha⟩
 have st:∀{d:D}{v:V}{F:Set},(∀b,F b->b≠a)->Own Z1 H1 d v F->Own Z1 H3 d v F:=fun{d v F} hF h=>Own.step (fun b=>b=a) (fun _ z=>z) (fun b o e n=>by rw[fP b n];exact e) (fun b z=>by rw[z];exact O1.fz i a ha) (fun b vs z=>by rw[z];exact(O1.fm i a ha).gG) d (fun _ z=>z) (fun b z y=>hF b y z) h
 have Hh:∀{d:List D}{v:List V}{F:Set},(∀b,F b->b≠a)->ar Z1 H1 d v F->ar Z1 H3 d v F:=fun{d v F} hF h=>ar.step (fun b=>b=a) (fun _ z=>z) (fun b o e n=>by rw[fP b n];exact e) (fun b z=>by rw[z];exact O1.fz i a ha) (fun b vs z=>by rw[z];exact(O1.fm i a ha).gG) d (fun _ z=>z) (fun b z y=>hF b y z) h
 have hW:∀b,(fun b=>b=a) b->bE i b:=fun b z=>by rw[z];exact ha
 have hk:∀b,¬(fun b=>b=a) b->H3 b=H1 b:=fun b n=>fP b n
 refine k.nx _ σ Z1 H3 _ q1 (O1.write (W:=fun b=>b=a) (G:=Ga) (d':=.lst true (ds++[d])) e2 hv hW hk (fun b z=>by rw[z,h3];exact trivial) (fun b z y=>Fq b y z) (fun b z=>r1.gz b (sa b z)) (fun b z=>r1.gm b (sa b z)) (bA.mpr ⟨a,_,rfl,h3,.inl ha,?_⟩)) (r1.write hW hk sa) Kp.refl
 refine(jk (Hh (fun b z=>z.2) hl) (st (fun b z y=>na (by rw[<-y];exact z)) h1) fun b z y=>Fq b ⟨i,z.1⟩ y).mono fun b z=>?_
 rcases z with z|z
 ·exact⟨.inl z.1,z.2⟩
 ·exact⟨.inr z,fun y=>na (by rw[<-y];exact z)⟩
end VS
end
section
namespace VS
open PySem L2
abbrev fQ:=List D->(D->ai->Prop)->Prop
def fZ(ms:List Bool)(m:fQ):Sp:=fun vs H Q _=>vs.length=ms.length/\∃(ds:List D) (Z:Set) (φ:Nat->Set) (P:D->ai->Prop),ds.length=ms.length/\Ok Z H (ds.map some) (vs.map some) φ/\(∀i a,φ i a->ms[i]? = some true)/\m ds P /\
 ∀d es v Z' H' cN G,P d es->es.length=ms.length->Ok Z' H' es (vs.map some) cN->Res Z H (cT φ) Z' H' (cT cN) G->(∀i a,cN i a->ms[i]? = some true)->Own Z' H' d v G->Q v H'
def fin(ms:List Bool)(env:ai):ai:=(List.range ms.length).map fun i=>if ms[i]? = some true then env[i]?.join else none
theorem wq{ms:List Bool}{env:ai}:(fin ms env).length=ms.length:=by simp[fin]
theorem IZ{ms:List Bool}{env:ai}{i:Nat}{d:D}(h:(fin ms env)[i]? = some (some d)):ms[i]? = some true/\env[i]? = some (some d)/\i<ms.length:=by
 simp only[fin,List.getElem?_map,Option.map_eq_some_iff] at h
 obtain⟨j,h1,h2⟩:=h
 obtain⟨hj,e⟩:=List.getElem?_eq_some_iff.mp h1
 simp at e hj
 subst e
 by_cases hm:ms[i]? = some true
 ·rw[if_pos hm] at h2
  refine⟨hm,?_,hj⟩
  cases q:env[i]? with
  |none=>rw[q] at h2;cases h2
  |some o=>rw[q] at h2;cases (show o=some d from h2);rfl
 ·rw[if_neg hm] at h2;cases h2
def bC(ms:List Bool)(P:D->ai->Prop):cY:=⟨fun e=>P .bH (fin ms e),fun d e=>P d (fin ms e),fun _=>False,fun _=>False⟩
def az(n:Nat)(ds:List D):ai:=ds.map some++List.replicate n none
theorem Jd{ms:List Bool}{m:fQ}{I:Nat->Bool}{t:TS}{u:US}{N:List Str}(h:fN I t u)(hI:∀i:Nat,ms[i]? = some true->I i=true)(hN:ms.length<=N.length)(hm:∀ds P,ds.length=ms.length->m ds P->u (bC ms P) (az (N.length-ms.length) ds))
  {vs:List V}{H:Hp}{Q:VK}{E:XK} (hs:fZ ms m vs H Q E):t {nx:=fun _ H'=>Q .bH H',rt:=Q} (L2.start N vs) H:=by
 obtain⟨lv,ds,Z,φ,P,ld,O,hφ,hp,k⟩:=hs
 have O0:Ok Z H (az (N.length-ms.length) ds) (L2.start N vs) φ:=by
  refine⟨fun i d e=>?_,O.dj,O.fz,O.fm,O.zh,?_⟩
  ·have hi:i<ds.length:=by
    refine Nat.lt_of_not_le fun hi=>?_
    unfold az at e
    rw[List.getElem?_append_right (by simpa using hi),List.getElem?_replicate] at e
    split at e<;>cases e
   unfold az at e
   rw[List.getElem?_append_left (by simpa using hi)] at e
   obtain⟨v,hv,ho⟩:=O.own i d e
   refine⟨v,?_,ho⟩
   unfold L2.start
   rw[List.getElem?_append_left (by simp;omega)]
   exact hv
  ·simp[az,L2.start];omega
 have back:∀bQ bR Z' H' cN,Ok Z' H' bQ bR cN->Kp I (L2.start N vs) bR->∃vh,Ok Z' H' (fin ms bQ) (vs.map some) vh/\(∀i a,vh i a->cN i a)/\(∀i a,vh i a->ms[i]? = some true):=fun bQ bR Z' H' cN O' kp=>by
  refine⟨fun i a=>cN i a/\ms[i]? = some true,⟨fun i d e=>?_,fun i j a h1 h2=>O'.dj i j a h1.1 h2.1,fun i a h1=>O'.fz i a h1.1,fun i a h1=>O'.fm i a h1.1,O'.zh,by rw[wq,List.length_map,lv]⟩,fun i a z=>z.1,fun i a z=>z.2⟩
  obtain⟨h1,h2,h3⟩:=IZ e
  obtain⟨v,hv,ho⟩:=O'.own i d h2
  refine⟨v,?_,ho.mono fun a z=>⟨z,h1⟩⟩
  rw[kp i (hI i h1)] at hv
  unfold L2.start at hv
  rw[List.getElem?_append_left (by simp;omega)] at hv
  exact hv
 refine h _ _ Z H φ (bC ms P) _ O0 (hm ds P ld hp) ⟨fun bQ bR Z' H' cN p O' r kp=>?_,fun d bQ v bR Z' H' cN G p O' r ho kp=>?_,fun _ _ _ _ _ p _ _ _=>p.elim,fun _ _ _ _ _ p _ _ _=>p.elim⟩
 ·obtain⟨vh,Vt,s,sm⟩:=back bQ bR Z' H' cN O' kp
  exact k .bH _ .bH Z' H' vh cx p wq Vt ⟨r.z,r.zn,r.k,fun a ⟨i,z⟩=>r.f a ⟨i,s i a z⟩,fun _ z=>z.elim,fun _ _ z=>z,fun _ z=>z.elim,fun _ z=>z.elim⟩ sm (lh.mpr rfl)
 ·obtain⟨vh,Vt,s,sm⟩:=back bQ bR Z' H' cN O' kp
  exact k d _ v Z' H' vh G p wq Vt ⟨r.z,r.zn,r.k,fun a ⟨i,z⟩=>r.f a ⟨i,s i a z⟩,r.g,fun a ⟨i,z⟩=>r.d a ⟨i,s i a z⟩,r.gz,r.gm⟩ sm ho
def pass:List Bool->ai->List Ref->Option (List D)
 | [],_,[]=>some []
 |false::ms,e,r::rs=>match r.at e,pass ms e rs with
  |some d,some ds=>some (aU d::ds)
  |_,_=>none
 |true::ms,e,.var i::rs=>match e[i]?.join,pass ms e rs with
  |some d,some ds=>some (d::ds)
  |_,_=>none
 |_,_,_=>none
def cE:List Bool->List Ref->List Nat
 |true::ms,.var i::rs=>i::cE ms rs
 |_::ms,_::rs=>cE ms rs
 |_,_=>[]
def apart(io:List Nat):List Bool->List Ref->Bool
 |false::ms,.var i::rs=>!io.contains i&&apart io ms rs
 |_::ms,_::rs=>apart io ms rs
 |_,_=>true
def ft:List Bool->List Ref->ai->ai->ai
 |true::ms,.var i::rs,o::es,e=>ft ms rs es (e.set i o)
 |_::ms,_::rs,_::es,e=>ft ms rs es e
 |_,_,_,e=>e
def tQ:ai->Bool
 | []=>true
 |none::r=>tQ r
 |some d::r=>eX d&&tQ r
def ja:List Nat->Bool
 | []=>true
 |i::r=>!r.contains i&&ja r
def aA(ms:List Bool)(m:fQ)(ua:UA):UB:=fun env Q=>ua env fun rs e=>∃ds,pass ms e rs=some ds/\ja (cE ms rs)=true/\apart (cE ms rs) ms rs=true/\m ds fun d es=>eX d=true/\tQ es=true/\Q (.a8 d) (ft ms rs es e)
theorem qU{Z:Set}{H:Hp}{σ:St}:∀{rs:List Ref}{vs:List V}{G:Set},sL Z H σ rs vs G->vs.length=rs.length/\∀(k:Nat) (r:Ref),rs[k]? = some r->∃v Gk,vs[k]? = some v/\n5 Z H σ r v Gk/\∀a,Gk a->G a
 | [],vs,G,h=>by
  cases (show vs=[] from h)
  exact⟨rfl,fun k r e=>by simp at e⟩
 |r::rs,vs,G,h=>by
  obtain⟨v,ws,G1,G2,rfl,h1,h2,s1,s2,_⟩:=h
  obtain⟨l,ih⟩:=qU h2
  refine⟨by simp[l],fun k r' e=>?_⟩
  cases k with
  |zero=>cases (show some r=some r' from e);exact⟨v,G1,rfl,h1,s1⟩
  |succ k=>
   obtain⟨v',Gk,e1,e2,e3⟩:=ih k r' (by simpa using e)
   exact⟨v',Gk,by simpa using e1,e2,fun a z=>s2 a (e3 a z)⟩
theorem rj{e:ai}:∀{ms:List Bool}{rs:List Ref}{ds:List D},pass ms e rs=some ds->ds.length=ms.length/\rs.length=ms.length/\∀(k:Nat) (d:D),ds[k]? = some d->(ms[k]? = some false/\∃(r:Ref) (d0:D),rs[k]? = some r/\r.at e=some d0/\d=aU d0)\/(ms[k]? = some true/\∃i:Nat,rs[k]? = some (Ref.var i)/\e[i]? = some (some d))
 | [],[],ds,h=>by
  cases (show some []=some ds from h)
  exact⟨rfl,rfl,fun k d e=>by simp at e⟩
 | [],_::_,ds,h=>by simp[pass] at h
 |false::ms,[],ds,h=>by simp[pass] at h
 |false::ms,r::rs,ds,h=>by
  unfold pass at h
  cases e1:r.at e with
  |none=>simp[e1] at h
  |some d0=>
   cases e2:pass ms e rs with
   |none=>simp[e1,e2] at h
   |some Bb=>
    simp only[e1,e2,Option.some.injEq] at h
    subst h
    obtain⟨l1,l2,ih⟩:=rj e2
    refine⟨by simp[l1],by simp[l2],fun k d q=>?_⟩
    cases k with
    |zero=>cases (show some (aU d0)=some d from q);exact .inl ⟨rfl,r,d0,rfl,e1,rfl⟩
    |succ k=>exact ih k d (by simpa using q)
 |true::ms,[],ds,h=>by simp[pass] at h
 |true::ms,.a8 _::rs,ds,h=>by simp[pass] at h
 |true::ms,.var i::rs,ds,h=>by
  unfold pass at h
  cases e1:e[i]?.join with
  |none=>simp[e1] at h
  |some d0=>
   cases e2:pass ms e rs with
   |none=>simp[e1,e2] at h
   |some Bb=>
    simp only[e1,e2,Option.some.injEq] at h
    subst h
    obtain⟨l1,l2,ih⟩:=rj e2
    refine⟨by simp[l1],by simp[l2],fun k d q=>?_⟩
    cases k with
    |zero=>
     cases (show some d0=some d from q)
     refine .inr ⟨rfl,i,rfl,?_⟩
     cases q:e[i]? with
     |none=>rw[q] at e1;cases e1
     |some o=>rw[q] at e1;cases (show o=some d0 from e1);rfl
    |succ k=>exact ih k d (by simpa using q)
theorem gP{i:Nat}:∀{ms:List Bool}{rs:List Ref},i∈cE ms rs↔∃k:Nat,ms[k]? = some true/\rs[k]? = some (.var i)
 | [],rs=>by simp[cE]
 |m::ms,[]=>by cases m<;>simp[cE]
 |m::ms,r::rs=>by
  have ih:=gP (i:=i) (ms:=ms) (rs:=rs)
  have key:(∃k:Nat,(m::ms)[k]? = some true/\(r::rs)[k]? = some (.var i))↔(m=true/\r=.var i)\/∃k:Nat,ms[k]? = some true/\rs[k]? = some (.var i):=by
   constructor
   ·rintro⟨k,h1,h2⟩
    cases k with
    |zero=>simp at h1 h2;exact .inl ⟨h1,h2⟩
    |succ k=>exact .inr ⟨k,by simpa using h1,by simpa using h2⟩
   ·rintro(⟨h1,h2⟩|⟨k,h1,h2⟩)
    ·exact⟨0,by simp[h1],by simp[h2]⟩
    ·exact⟨k+1,by simpa using h1,by simpa using h2⟩
  rw[key,<-ih]
  cases m<;>cases r<;>simp[cE]
  rename_i j
  exact⟨fun h=>h.imp Eq.symm id,fun h=>h.imp Eq.symm id⟩
theorem rQ{i:Nat}:∀{ms:List Bool}{rs:List Ref}{k k':Nat},ja (cE ms rs)=true->ms[k]? = some true->rs[k]? = some (.var i)->ms[k']? = some true->rs[k']? = some (.var i)->k=k'
 | [],rs,k,k',h,a,b,c,d=>by simp at a
 |m::ms,[],k,k',h,a,b,c,d=>by simp at b
 |m::ms,r::rs,k,k',h,a,b,c,d=>by
  have tl:ja (cE ms rs)=true/\(m=true->∀j,r=.var j->j∉cE ms rs):=by
   cases m with
   |false=>exact⟨by cases r<;>simpa[cE] using h,fun z=>by cases z⟩
   |true=>
    cases r with
    |a8 x=>exact⟨by simpa[cE] using h,fun _ j z=>by cases z⟩
    |var x=>
     simp only[cE,ja,Bool.and_eq_true,Bool.not_eq_true',List.contains_eq_mem,decide_eq_false_iff_not] at h
     exact⟨h.2,fun _ j z=>by cases z;exact h.1⟩
  cases k with
  |zero=>
   cases k' with
   |zero=>rfl
   |succ k'=>
    simp at a b
    exact absurd (gP.mpr ⟨k',by simpa using c,by simpa using d⟩) (tl.2 a i b)
  |succ k=>
   cases k' with
   |zero=>
    simp at c d
    exact absurd (gP.mpr ⟨k,by simpa using a,by simpa using b⟩) (tl.2 c i d)
   |succ k'=>rw[rQ (ms:=ms) (rs:=rs) (k:=k) (k':=k') tl.1 (by simpa using a) (by simpa using b) (by simpa using c) (by simpa using d)]
theorem vf{io:List Nat}{j:Nat}:∀{ms:List Bool}{rs:List Ref}{k:Nat},apart io ms rs=true->ms[k]? = some false->rs[k]? = some (.var j)->j∉io
 | [],rs,k,h,a,b=>by simp at a
 |m::ms,[],k,h,a,b=>by simp at b
 |m::ms,r::rs,k,h,a,b=>by
  have tl:apart io ms rs=true/\(m=false->∀j,r=.var j->j∉io):=by
   cases m with
   |true=>exact⟨by cases r<;>simpa[apart] using h,fun z=>by cases z⟩
   |false=>
    cases r with
    |a8 x=>exact⟨by simpa[apart] using h,fun _ j z=>by cases z⟩
    |var x=>
     simp only[apart,Bool.and_eq_true,Bool.not_eq_true',List.contains_eq_mem,decide_eq_false_iff_not] at h
     exact⟨h.2,fun _ j z=>by cases z;exact h.1⟩
  cases k with
  |zero=>simp at a b;exact tl.2 a j b
  |succ k=>exact vf (ms:=ms) (rs:=rs) (k:=k) tl.1 (by simpa using a) (by simpa using b)
theorem pz:∀{ms:List Bool}{rs:List Ref}{es e:ai},(ft ms rs es e).length=e.length
 | [],_,_,_=>by simp[ft]
 |m::ms,[],es,e=>by cases m<;>simp[ft]
 |m::ms,r::rs,[],e=>by cases m<;>cases r<;>simp[ft]
 |m::ms,r::rs,o::es,e=>by cases m<;>cases r<;>simp[ft,pz]
theorem jr{i:Nat}:∀{ms:List Bool}{rs:List Ref}{es e:ai},i∉cE ms rs->(ft ms rs es e)[i]? = e[i]?
 | [],_,_,_,_=>by simp[ft]
 |m::ms,[],es,e,_=>by cases m<;>simp[ft]
 |m::ms,r::rs,[],e,_=>by cases m<;>cases r<;>simp[ft]
 |m::ms,r::rs,o::es,e,h=>by
  cases m with
  |false=>cases r<;>(simp only[ft,cE] at h ⊢;exact jr h)
  |true=>
   cases r with
   |a8 x=>simp only[ft,cE] at h ⊢;exact jr h
   |var x=>
    simp only[ft,cE,List.mem_cons,not_or] at h ⊢
    rw[jr h.2,List.getElem?_set_ne (Ne.symm h.1)]
theorem nK{i:Nat}:∀{ms:List Bool}{rs:List Ref}{es e:ai}{k:Nat},ja (cE ms rs)=true->ms[k]? = some true->rs[k]? = some (.var i)->es.length=ms.length->i<e.length->(ft ms rs es e)[i]? = es[k]?
 | [],rs,es,e,k,h,a,b,l,hi=>by simp at a
 |m::ms,[],es,e,k,h,a,b,l,hi=>by simp at b
 |m::ms,r::rs,[],e,k,h,a,b,l,hi=>by simp at l
 |m::ms,r::rs,o::es,e,0,h,a,b,l,hi=>by
  simp at a b
  subst a b
  simp only[cE,ja,Bool.and_eq_true,Bool.not_eq_true',List.contains_eq_mem,decide_eq_false_iff_not] at h
  simp only[ft]
  rw[jr h.1,List.getElem?_set_self hi]
  rfl
 |m::ms,r::rs,o::es,e,k+1,h,a,b,l,hi=>by
  have tl:ja (cE ms rs)=true:=by
   cases m with
   |false=>cases r<;>simpa[cE] using h
   |true=>
    cases r with
    |a8 x=>simpa[cE] using h
    |var x=>simp only[cE,ja,Bool.and_eq_true] at h;exact h.2
  have a':ms[k]? = some true:=by simpa using a
  have b':rs[k]? = some (.var i):=by simpa using b
  have l':es.length=ms.length:=by simpa using l
  have e0:(o::es)[k+1]? = es[k]?:=by simp
  rw[e0]
  cases m with
  |false=>cases r<;>(simp only[ft];exact nK tl a' b' l' hi)
  |true=>
   cases r with
   |a8 x=>simp only[ft];exact nK tl a' b' l' hi
   |var x=>simp only[ft];exact nK tl a' b' l' (by rw[List.length_set];exact hi)
theorem xU:∀{es:ai}{k:Nat}{d:D},tQ es=true->es[k]? = some (some d)->eX d=true
 | [],k,d,h,e=>by simp at e
 |o::es,0,d,h,e=>by
  cases (show some o=some (some d) from e)
  simp only[tQ,Bool.and_eq_true] at h
  exact h.1
 |o::es,k+1,d,h,e=>by
  refine xU (es:=es) (k:=k) ?_ (by simpa using e)
  cases o with
  |none=>simpa[tQ] using h
  |some x=>simp only[tQ,Bool.and_eq_true] at h;exact h.2
end VS
end
section
namespace VS
open PySem L2
theorem nr{α:Type}{l:List α}{i:Nat}{o:Option α}(h:(l.map some)[i]? = some o):∃x,o=some x/\l[i]? = some x:=by
 rw[List.getElem?_map] at h
 cases e:l[i]? with
 |none=>rw[e] at h;cases h
 |some x=>rw[e] at h;exact⟨x,(Option.some.inj h).symm,rfl⟩
theorem xk{ms:List Bool}{m:fQ}{t:TA}{u:UA}(h:n4 t u):aZ (uf (fZ ms m) [] E0 t) (aA ms m u):=by
 intro σ env Z H φ Q R O q k
 refine h σ env Z H φ _ _ O q fun rs aK vs Z1 H1 bE G1 ⟨ds,Fg,yc,hap,q1⟩ O1 r1 ok=>?_
 rw[List.append_nil]
 obtain⟨lv,refs⟩:=qU ok
 obtain⟨l1,l2,ps⟩:=rj Fg
 let io:=cE ms rs
 let Fc:Set:=fun a=>∃i,i∈io/\bE i a
 let Zc:Set:=fun a=>H1 a≠none/\¬Fc a
 let J6:Nat->Set:=fun j a=>ms[j]? = some true/\∃i,rs[j]? = some (.var i)/\bE i a
 have RP:∀a,Z1 a->Zc a:=fun a z=>⟨O1.zh a z,fun⟨i,_,y⟩=>O1.fz i a y z⟩
 have eF:∀a,cT J6 a↔Fc a:=fun a=>⟨fun⟨j,h1,i,h2,h3⟩=>⟨i,gP.mpr ⟨j,h1,h2⟩,h3⟩,fun⟨i,hi,h3⟩=>let ⟨j,h1,h2⟩:=gP.mp hi;⟨j,h1,i,h2,h3⟩⟩
 have RN:∀a,Fc a->cT bE a:=fun a ⟨i,_,z⟩=>⟨i,z⟩
 have Oc:Ok Zc H1 (ds.map some) (vs.map some) J6:=by
  refine⟨fun j d e=>?_,fun j j' a ⟨h1,i,h2,h3⟩ ⟨Uw,i',Uu,Ut⟩=>?_,fun j a h z=>z.2 ((eF a).mp ⟨j,h⟩),fun j a ⟨_,i,_,z⟩=>O1.fm i a z,fun a z=>z.1,by simp[l1,l2,lv]⟩
  ·obtain⟨x,ex,e⟩:=nr e
   cases ex
   rcases ps j d e with⟨hm,r,d0,hr,mI,rfl⟩|⟨hm,i,hr,he⟩
   ·obtain⟨v,Gk,hv,ho,hs⟩:=refs j r hr
    refine⟨v,by rw[List.getElem?_map,hv];rfl,?_⟩
    cases r with
    |a8 d1=>
     obtain rfl:d1=d0:=Option.some.inj mI
     have ho:Own Z1 H1 d1 v Gk:=ho
     exact(ho.aU.iB fun a z=>z.elim (RP a) fun z=>⟨(r1.gm a (hs a z)).ne,fun y=>r1.d a (RN a y) (hs a z)⟩).mono fun _ z=>z.elim
    |var i=>
     have mI:aK[i]?.join=some d0:=mI
     have he:aK[i]? = some (some d0):=by
      cases q:aK[i]? with
      |none=>rw[q] at mI;cases mI
      |some o=>rw[q] at mI;cases (show o=some d0 from mI);rfl
     obtain⟨v',zN,gH⟩:=O1.own i d0 he
     have ho:σ[i]? = some (some v):=ho
     rw[zN] at ho;cases ho
     have Y6:=vf hap hm hr
     exact(gH.aU.iB fun a z=>z.elim (RP a) fun z=>⟨(O1.fm i a z).ne,fun⟨i',Nk,y⟩=>Y6 (by rw[O1.dj i i' a z y];exact Nk)⟩).mono fun _ z=>z.elim
   ·obtain⟨v,Gk,hv,ho,hs⟩:=refs j _ hr
    refine⟨v,by rw[List.getElem?_map,hv];rfl,?_⟩
    obtain⟨v',zN,gH⟩:=O1.own i d he
    have ho:σ[i]? = some (some v):=ho
    rw[zN] at ho;cases ho
    exact(gH.iB RP).mono fun a z=>⟨hm,i,hr,z⟩
  ·have e:=O1.dj i i' a h3 Ut
   subst e
   exact rQ yc h1 h2 Uw Uu
 refine⟨by rw[lv,l2],ds,Zc,J6,_,l1,Oc,fun j a ⟨z,_⟩=>z,q1,?_⟩
 rintro d es v Qb H' J5 G ⟨nf,Y7,q2⟩ Wt Qh rc sm ho
 have Rc:∀a,cT J5 a->Fc a\/H1 a=none:=fun a z=>(rc.f a z).imp (eF a).mp id
 have SA:∀a,G a->Fc a\/H1 a=none:=fun a z=>(rc.g a z).imp (eF a).mp id
 have Rb:∀a o,H1 a=some o->¬Fc a->H' a=some o:=fun a o e n=>rc.k a o e fun z=>n ((eF a).mp z)
 let hX:Nat->Set:=fun i a=>(i∉io/\bE i a)\/∃j,ms[j]? = some true/\rs[j]? = some (.var i)/\J5 j a
 have nz:∀a,Fc a\/H1 a=none->¬Z1 a:=fun a z y=>z.elim (fun⟨i,_,z⟩=>O1.fz i a z y) (O1.zh a y)
 have n1:∀i a,i∉io->bE i a->¬(Fc a\/H1 a=none):=fun i a hi z y=>y.elim (fun⟨i',Nk,y⟩=>hi (by rw[O1.dj i i' a z y];exact Nk)) (O1.fm i a z).ne
 have O2:Ok Z1 H' (ft ms rs es aK) σ hX:=by
  refine⟨fun i d' e=>?_,fun i j a z1 z2=>?_,fun i a z=>?_,fun i a z=>?_,fun a z y=>?_,by rw[pz];exact O1.len⟩
  ·by_cases hi:i∈io
   ·obtain⟨j,h1,h2⟩:=gP.mp hi
    have hl:i<aK.length:=by rw[<-pz (ms:=ms) (rs:=rs) (es:=es)];exact(List.getElem?_eq_some_iff.mp e).1
    rw[nK yc h1 h2 Wt hl] at e
    obtain⟨w,hw,gH⟩:=Qh.own j d' e
    obtain⟨v',Gk,hv,hr,_⟩:=refs j _ h2
    rw[List.getElem?_map,hv] at hw
    obtain rfl:v'=w:=Option.some.inj (Option.some.inj hw)
    exact⟨v',hr,(Own.eX d' (xU Y7 e) gH).mono fun a z=>.inr ⟨j,h1,h2,z⟩⟩
   ·rw[jr hi] at e
    obtain⟨w,hw,gH⟩:=O1.own i d' e
    refine⟨w,hw,Own.step Fc (fun _ z=>z) Rb (fun a ⟨i',_,z⟩=>O1.fz i' a z) (fun a vs ⟨i',_,z⟩=>(O1.fm i' a z).gG) d' (fun a z=>.inl ⟨hi,z⟩) (fun a z y=>n1 i a hi y (.inl z)) gH⟩
  ·rcases z1 with⟨hi,z1⟩|⟨j1,a1,b1,z1⟩<;>rcases z2 with⟨hj,z2⟩|⟨j2,a2,b2,z2⟩
   ·exact O1.dj i j a z1 z2
   ·exact absurd (Rc a ⟨j2,z2⟩) (n1 i a hi z1)
   ·exact absurd (Rc a ⟨j1,z1⟩) (n1 j a hj z2)
   ·have e:=Qh.dj j1 j2 a z1 z2
    subst e
    rw[b1] at b2
    cases b2;rfl
  ·rcases z with⟨hi,z⟩|⟨j,_,_,z⟩
   ·exact O1.fz i a z
   ·exact nz a (Rc a ⟨j,z⟩)
  ·rcases z with⟨hi,z⟩|⟨j,_,_,z⟩
   ·exact(O1.fm i a z).up fun o e=>Rb a o e fun y=>n1 i a hi z (.inl y)
   ·exact Qh.fm j a z
  ·cases e:H1 a with
   |none=>exact O1.zh a z e
   |some o=>rw[Rb a o e fun y=>nz a (.inl y) z] at y;cases y
 have f2:∀a,cT hX a->cT bE a\/H1 a=none:=fun a ⟨i,z⟩=>by
  rcases z with⟨hi,z⟩|⟨j,_,_,z⟩
  ·exact .inl ⟨i,z⟩
  ·exact(Rc a ⟨j,z⟩).imp (RN a) id
 refine k (.a8 d) _ v Z1 H' hX G q2 O2 ⟨r1.z,r1.zn,fun a o e n=>?_,fun a z=>r1.kn (f2 a z),fun a z=>r1.kn ((SA a z).imp (RN a) id),fun a ⟨i,z⟩ y=>?_,fun a z=>nz a (SA a z),rc.gm⟩ (show Own Z1 H' d v G from Own.eX d nf ho)
 ·refine Rb a o (r1.k a o e n) fun z=>?_
  rcases r1.f a (RN a z) with z|z
  ·exact n z
  ·rw[z] at e;cases e
 ·rcases z with⟨hi,z⟩|⟨j,_,_,z⟩
  ·exact n1 i a hi z (SA a y)
  ·exact rc.d a ⟨j,z⟩ y
end VS
end
section
namespace VS
open PySem L2
class Acc (α:Type) where
 vals:α->List D
 is:α->HO->List V->Prop
 Rn:∀{a u vs},is a u vs->mJ (some u)
instance:Acc (List D):=⟨id,fun _ u vs=>u=.lst vs,fun h=>by subst h;exact trivial⟩
structure CS{α:Type} [Acc α] (I:Nat->Bool) (Z1:Set) (H1:Hp) (F1:Set) (sQ:St) (p:Addr) (acc:α) (e:ai) (τ:St) (H:Hp) (Z:Set) (φ:Nat->Set) (A:Set) (vs:List V):Prop where
 ok:Ok Z H e τ φ
 res:Res Z1 H1 F1 Z H (cT φ) (fun a=>A a\/a=p)
 at_:∃u,H p=some u/\Acc.is acc u vs
 own:ar Z H (Acc.vals acc) vs A
 np:¬A p
 kp:Kp I sQ τ
abbrev UL(α:Type):=α->ai->(α->ai->Prop)->Prop
def nZ{α:Type} [Acc α] (I:Nat->Bool) (p:Addr) (tl:TL) (ul:UL α):Prop:=∀(Z1:Set) (H1:Hp) (F1:Set) (sQ:St) (acc:α) (e:ai) (τ:St) (H:Hp) (Z:Set) (φ:Nat->Set) (A:Set) (vs:List V) (k:α->ai->Prop) (K:St->Hp->Prop),
 CS I Z1 H1 F1 sQ p acc e τ H Z φ A vs->ul acc e k->(∀gC e' iS H' Z' cN A' kf,k gC e'->CS I Z1 H1 F1 sQ p gC e' iS H' Z' cN A' kf->pD Z H Z' H'->K iS H')->tl K τ H
section
variable {α:Type} [Acc α] {I:Nat->Bool}{Z1 Z Z2:Set}{H1 H H2:Hp}{F1:Set}{sQ τ Gg:St}{p:Addr}{acc acc2:α}{e e2:ai}{φ hX:Nat->Set}{A G2:Set}{vs:List V}
theorem CS.next(c:CS I Z1 H1 F1 sQ p acc e τ H Z φ A vs)(O2:Ok Z2 H2 e2 Gg hX)(r:Res Z H (cT φ) Z2 H2 (cT hX) cx)(kp:Kp I τ Gg):CS I Z1 H1 F1 sQ p acc e2 Gg H2 Z2 hX A vs:=by
 have q:=(c.res.seq r).1
 have e:(fun a=>(A a\/a=p)\/cx a)=fun a=>A a\/a=p:=by funext a;exact propext ⟨fun z=>z.elim id fun z=>z.elim,.inl⟩
 rw[e] at q
 exact⟨O2,q,let ⟨u,hu,ha⟩:=c.at_;⟨u,r.k p _ hu fun z=>c.res.d p z (.inr rfl),ha⟩,r.JH c.ok (fun a z y=>c.res.d a z (.inl y)) c.own,c.np,c.kp.trans kp⟩
theorem CS.emit(c:CS I Z1 H1 F1 sQ p acc e τ H Z φ A vs)(O2:Ok Z2 H2 e2 τ hX)(r:Res Z H (cT φ) Z2 H2 (cT hX) G2){d:D}{v:V}{vs2:List V}(ho:Own Z2 H2 d v G2){H3:Hp}{u3:HO}(fP:∀b,b≠p->H3 b=H2 b)(h3:H3 p=some u3)(a3:Acc.is acc2 u3 vs2)
  (own:∀{A G:Set},ar Z2 H3 (Acc.vals acc) vs A->Own Z2 H3 d v G->(∀a,A a->¬G a)->ar Z2 H3 (Acc.vals acc2) vs2 (fun a=>A a\/G a)) :
  CS I Z1 H1 F1 sQ p acc2 e2 τ H3 Z2 hX (fun a=>A a\/G2 a) vs2:=by
 obtain⟨q,dj⟩:=c.res.seq r
 obtain⟨u,hu,lM⟩:=c.at_
 have Fh:H2 p=some u:=r.k p _ hu fun z=>c.res.d p z (.inr rfl)
 have Wr:mJ (H2 p):=by rw[Fh];exact Acc.Rn lM
 have Y5:¬cT hX p:=fun z=>q.d p z (.inl (.inr rfl))
 have nz:¬Z2 p:=fun z=>q.gz p (.inl (.inr rfl)) z
 have nG:¬G2 p:=dj p (.inr rfl)
 have st:∀{d:D}{v:V}{F:Set},¬F p->Own Z2 H2 d v F->Own Z2 H3 d v F:=fun{d v F} hF h=>Own.step (fun b=>b=p) (fun _ z=>z) (fun b o e n=>by rw[fP b n];exact e) (fun b z=>by rw[z];exact nz) (fun b vs z=>by rw[z];exact Wr.gG) d (fun _ z=>z) (fun b z y=>hF (by rw[<-z];exact y)) h
 have Hh:∀{d:List D}{v:List V}{F:Set},¬F p->ar Z2 H2 d v F->ar Z2 H3 d v F:=fun{d v F} hF h=>ar.step (fun b=>b=p) (fun _ z=>z) (fun b o e n=>by rw[fP b n];exact e) (fun b z=>by rw[z];exact nz) (fun b vs z=>by rw[z];exact Wr.gG) d (fun _ z=>z) (fun b z y=>hF (by rw[<-z];exact y)) h
 have im:∀a,mJ (H2 a)->mJ (H3 a):=fun a h=>by
  by_cases ha:a=p
  ·rw[ha,h3];exact Acc.Rn a3
  ·rw[fP a ha];exact h
 refine⟨⟨fun i d e=>let ⟨w,hw,h⟩:=O2.own i d e;⟨w,hw,st (fun z=>Y5 ⟨i,z⟩) h⟩,O2.dj,O2.fz,fun i a h=>im a (O2.fm i a h),fun a z=>?_,O2.len⟩,⟨q.z,q.zn,fun a o e n=>?_,q.f,fun a z=>?_,fun a z y=>?_,fun a z=>?_,fun a z=>?_⟩,⟨u3,h3,a3⟩,?_,fun z=>z.elim c.np nG,c.kp⟩
 ·rw[fP a fun y=>nz (by rw[<-y];exact z)];exact O2.zh a z
 ·have ha:a≠p:=fun y=>by
   rcases q.g a (.inl (.inr y)) with z|z
   ·exact n z
   ·rw[z] at e;cases e
  rw[fP a ha];exact q.k a o e n
 ·refine q.g a ?_
  rcases z with(z|z)|z
  ·exact .inl (.inl z)
  ·exact .inr z
  ·exact .inl (.inr z)
 ·refine q.d a z ?_
  rcases y with(z|z)|z
  ·exact .inl (.inl z)
  ·exact .inr z
  ·exact .inl (.inr z)
 ·refine q.gz a ?_
  rcases z with(z|z)|z
  ·exact .inl (.inl z)
  ·exact .inr z
  ·exact .inl (.inr z)
 ·refine im a (q.gm a ?_)
  rcases z with(z|z)|z
  ·exact .inl (.inl z)
  ·exact .inr z
  ·exact .inl (.inr z)
 ·exact own (Hh c.np (r.JH c.ok (fun a z y=>c.res.d a z (.inl y)) c.own)) (st nG ho) fun a z=>dj a (.inl z)
theorem CS.CV(c:CS I Z1 H1 F1 sQ p acc e τ H Z φ A vs){H3:Hp}(r:pD Z H Z2 H2)(nz:¬Z2 p)(hp:∀vs,¬H2 p=some (.tup vs))(fP:∀b,b≠p->H3 b=H2 b):pD Z H Z2 H3:=
 r.trans ⟨fun _ z=>z,fun a o e z=>by rw[fP a fun y=>nz (by rw[<-y];exact z)];exact e,fun a vs e=>by rw[fP a fun y=>hp vs (by rw[<-y];exact e)];exact e⟩
end
def fM(ue:UB):UL (List D):=fun acc e k=>ue e fun r e4=>∃d,r=.a8 d/\acc.length<=1000000/\k (acc++[d]) e4
theorem DS{I:Nat->Bool}{p:Addr}{te:TE}{ue:UB}(h:aZ te ue):nZ I p (Jr te p) (fM ue):=by
 intro Z1 H1 F1 sQ acc e τ H Z φ A vs k K c q kk
 refine h τ e Z H φ _ _ c.ok q fun r e4 v Z4 H4 Gx G4 ⟨d,er,hz,q4⟩ O4 r4 Ox=>?_
 subst er
 obtain⟨u4,hu4,rfl⟩:=c.at_
 have O9:H4 p=some (.lst vs):=r4.k p _ hu4 fun z=>c.res.d p z (.inr rfl)
 have q:=(c.res.seq r4).1
 refine⟨vs,O9,by rw[c.own.length];exact hz,fun H5 fP h5=>?_⟩
 exact kk _ e4 τ H5 Z4 Gx _ _ q4 (c.emit (acc2:=acc++[d]) O4 r4 Ox fP h5 rfl jk) (c.CV (r4.CV c.ok) (fun z=>q.gz p (.inl (.inr rfl)) z) (fun kf z=>by rw[O9] at z;cases z) fP)
def eD{α:Type}(ug:UG)(ut:UT)(inner:UL α)(k:α->ai->Prop):List D->α->ai->Prop
 | [],acc,e=>k acc e
 |x::xs,acc,e=>ug x e fun e2=>ut e2 fun b e3=>if b=true then inner acc e3 (eD ug ut inner k xs) else eD ug ut inner k xs acc e3
theorem oz{α:Type} [Acc α] {I:Nat->Bool}{p:Addr}{J:It}{g:TG}{ug:UG}{tt:TT}{ut:UT}{tl:TL}{ul:UL α} (hg:j0 I g ug) (ht:hU tt ut) (hl:nZ I p tl ul) {Z1:Set}{H1:Hp}{F1:Set}{sQ:St}{acc:α}{e:ai}{τ:St}{H:Hp}{Z:Set}{φ:Nat->Set}{A:Set}{vs:List V}{items:List D}{k:α->ai->Prop}{K:St->Hp->Prop}
  (c:CS I Z1 H1 F1 sQ p acc e τ H Z φ A vs) (w:Walk J Z H items) (q:eD ug ut ul k items acc e) (kk:∀gC e' iS H' Z' cN A' kf,k gC e'->CS I Z1 H1 F1 sQ p gC e' iS H' Z' cN A' kf->pD Z H Z' H'->K iS H'):uK J g tt tl K τ H:=by
 refine⟨fun i m iS H'=>∃gC e' Z' cN A' kf,CS I Z1 H1 F1 sQ p gC e' iS H' Z' cN A' kf/\pD Z H Z' H'/\i<=items.length/\m=items.length-i/\eD ug ut ul k (items.drop i) gC e',⟨items.length,acc,e,Z,φ,A,vs,c,pD.refl,Nat.zero_le _,rfl,q⟩,?_⟩
 rintro i m iS H' ⟨gC,e',Z',cN,A',kf,c',ke,hi,rfl,q'⟩
 by_cases iZ:i<items.length
 ·have hd:items[i]? = some items[i]:=List.getElem?_eq_getElem iZ
  obtain⟨T5,hy⟩:=w.go i items[i] Z' H' hd ke
  refine .inr ⟨T5,fun Gg H2=>∃gC e' Z' cN A' kf,CS I Z1 H1 F1 sQ p gC e' Gg H2 Z' cN A' kf/\pD Z H Z' H2/\i+1<=items.length/\eD ug ut ul k (items.drop (i+1)) gC e',fun Gg H2 ⟨gC,e',Z',cN,A',kf,a,b,c,d⟩=>⟨items.length-(i+1),by omega,gC,e',Z',cN,A',kf,a,b,c,rfl,d⟩,fun x H3 y=>?_⟩
  obtain⟨s3,o3⟩:=hy x H3 y
  rw[List.drop_eq_getElem_cons iZ] at q'
  have c3:=c'.next (c'.ok.grow s3) (Res.same s3) Kp.refl
  have ZF:pD Z H Z' H3:=ke.trans ⟨fun _ z=>z,fun a o e _=>s3 a o e,fun a vs e=>s3 a _ e⟩
  refine hg iS e' Z' H3 cN _ x cx _ _ c3.ok o3 (fun _ _ z=>z) (fun _ z=>z.elim) (fun _ z=>z.elim) q' fun e4 VB Z4 Gx q4 O4 z4 RO f4 OI=>?_
  have r4:Res Z' H3 (cT cN) Z4 H3 (cT Gx) cx:=Res.V2 z4 RO f4
  have c4:=c3.next O4 r4 OI
  have ZE:=ZF.trans (r4.CV c3.ok)
  refine ht VB e4 Z4 H3 Gx _ _ O4 q4 fun b e5 Z5 H5 Gf q5 O5 r5=>?_
  have c5:=c4.next O5 r5 Kp.refl
  have Wx:=ZE.trans (r5.CV O4)
  cases b with
  |true=>
   rw[if_pos rfl] at q5 ⊢
   exact hl Z1 H1 F1 sQ _ e5 VB H5 Z5 Gf _ _ _ _ c5 q5 fun Vn e6 τ6 H6 Z6 Yv A6 YC q6 c6 k6=>⟨Vn,e6,Z6,Yv,A6,YC,c6,Wx.trans k6,iZ,q6⟩
  |false=>
   rw[if_neg Bool.false_ne_true] at q5 ⊢
   exact⟨_,e5,Z5,Gf,_,_,c5,Wx,iZ,q5⟩
 ·have ei:i=items.length:=by omega
  subst ei
  rw[List.drop_length] at q'
  exact .inl ⟨w.stop Z' H' ke,kk _ e' iS H' Z' cN A' kf q' c' ke⟩
def iw{α:Type}(ui:UI)(ug:UG)(ut:UT)(inner:UL α):UL α:=fun acc e k=>ui e fun items e1=>eD ug ut inner k items acc e1
theorem y9{α:Type} [Acc α] {I:Nat->Bool}{p:Addr}{wi:TI}{ui:UI}{g:TG}{ug:UG}{tt:TT}{ut:UT}{tl:TL}{ul:UL α} (hi:tX wi ui) (hg:j0 I g ug) (ht:hU tt ut) (hl:nZ I p tl ul):nZ I p (ql wi g tt tl) (iw ui ug ut ul):=by
 intro Z1 H1 F1 sQ acc e τ H Z φ A vs k K c q kk
 refine hi τ e Z H φ _ _ c.ok q fun items e1 Z' H' cN J q1 O1 r1 w=>?_
 exact oz hg ht hl (c.next O1 r1 Kp.refl) w q1 fun gC e' iS lE Z'' vh A' kf a b d=>kk gC e' iS lE Z'' vh A' kf a b ((r1.CV c.ok).trans d)
def l6:UT:=fun env Q=>Q true env
theorem Hi:hU NZ l6:=fun σ env Z H φ Q R O q k=>k true env Z H φ q O Res.refl
def gf(n:Nat)(ui:UI)(ug:UG)(ut:UT)(ul:UL (List D)):UB:=fun env Q=>ui env fun items e=>eD ug ut ul (fun acc e'=>Q (.a8 (.lst true acc)) (e'.drop n)) items [] (List.replicate n none++e)
def outs(n:Nat):Nat->Bool:=fun i=>decide (n<=i)
theorem u7{α:Type} [Acc α] {n:Nat}{g:TG}{ug:UG}{tt:TT}{ut:UT}{tl:TL}{ul:UL α}{acc0:α}{u0:HO} (e0:Acc.vals acc0=[]) (a0:Acc.is acc0 u0 []) (fin:α->D) (Fp:∀{acc u vs Z H A p},H p=some u->Acc.is acc u vs->ar Z H (Acc.vals acc) vs A->¬A p->Own Z H (fin acc) (.ref p) (fun a=>A a\/a=p)) (hg:j0 (outs n) g ug) (ht:hU tt ut) {p:Addr} (hl:nZ (outs n) p tl ul)
  {J:It}{σ:St}{e1:ai}{Z1:Set}{H1:Hp}{bE:Nat->Set}{items:List D}{Q:α->ai->Prop}{R:VK} (O1:Ok Z1 H1 e1 σ bE) (w:Walk J Z1 H1 items) (q1:eD ug ut ul Q items acc0 (List.replicate n none++e1))
  (k:∀acc e' Z' H' cN G,Q acc e'->Ok Z' H' (e'.drop n) σ cN->Res Z1 H1 (cT bE) Z' H' (cT cN) G->Own Z' H' (fin acc) (.ref p) G->R (.ref p) H') :
  ∀H2,H1 p=none->ck H1 H2->H2 p=some u0->(∀b,b≠p->H2 b=H1 b)->uK J g tt tl (fun _ H'=>R (.ref p) H') (List.replicate n none++σ) H2:=by
 intro H2 hn hs hp mI
 let hX:Nat->Set:=fun i a=>∃j,i=n+j/\bE j a
 have U2:∀a,cT hX a↔cT bE a:=fun a=>⟨fun⟨i,j,_,z⟩=>⟨j,z⟩,fun⟨j,z⟩=>⟨n+j,j,rfl,z⟩⟩
 have O2:Ok Z1 H2 (List.replicate n none++e1) (List.replicate n none++σ) hX:=by
  have g1:=O1.grow hs
  refine⟨fun i d e=>?_,fun i j a ⟨i',e1,z1⟩ ⟨j',e2,z2⟩=>?_,fun i a ⟨j,_,z⟩=>g1.fz j a z,fun i a ⟨j,_,z⟩=>g1.fm j a z,g1.zh,by simp[O1.len]⟩
  ·have hi:n<=i:=by
    refine Nat.le_of_not_lt fun hi=>?_
    rw[List.getElem?_append_left (by simpa using hi),List.getElem?_replicate] at e
    split at e<;>cases e
   rw[List.getElem?_append_right (by simpa using hi),List.length_replicate] at e
   obtain⟨v,hv,ho⟩:=g1.own _ d e
   exact⟨v,by rw[List.getElem?_append_right (by simpa using hi),List.length_replicate];exact hv,ho.mono fun a z=>⟨i-n,by omega,z⟩⟩
  ·rw[e1,e2,g1.dj i' j' a z1 z2]
 have c0:CS (outs n) Z1 H1 (cT bE) (List.replicate n none++σ) p acc0 (List.replicate n none++e1) (List.replicate n none++σ) H2 Z1 hX cx []:=by
  refine⟨O2,⟨fun _ z=>z,fun _ z=>.inl z,fun a o e _=>hs a o e,fun a z=>.inl ((U2 a).mp z),fun a z=>?_,fun a z y=>?_,fun a z y=>?_,fun a z=>?_⟩,⟨u0,hp,a0⟩,by rw[e0];exact ba.mpr rfl,fun z=>z,Kp.refl⟩
  ·rcases z with z|z
   ·exact z.elim
   ·rw[z];exact .inr hn
  ·rcases y with y|y
   ·exact y
   ·obtain⟨j,z⟩:=(U2 a).mp z
    exact(O1.fm j a z).ne (by rw[y];exact hn)
  ·rcases z with z|z
   ·exact z
   ·exact O1.zh a y (by rw[z];exact hn)
  ·rcases z with z|z
   ·exact z.elim
   ·rw[z,hp];exact Acc.Rn a0
 have w2:Walk J Z1 H2 items:=⟨fun Z3 H3 r=>w.stop Z3 H3 (pD.trans ⟨fun _ z=>z,fun a o e _=>hs a o e,fun a vs e=>hs a _ e⟩ r),fun i d Z3 H3 e r=>w.go i d Z3 H3 e (pD.trans ⟨fun _ z=>z,fun a o e _=>hs a o e,fun a vs e=>hs a _ e⟩ r)⟩
 refine oz hg ht hl c0 w2 q1 fun acc e' iS H' Z' cN A vs q' c _=>?_
 have Wz:∀j:Nat,iS[n+j]? = σ[j]?:=fun j=>by
  rw[c.kp (n+j) (decide_eq_true (Nat.le_add_right _ _)),List.getElem?_append_right (by simp),List.length_replicate]
  congr 1;omega
 have eτ:iS.drop n=σ:=List.ext_getElem? fun j=>by rw[List.getElem?_drop];exact Wz j
 have U3:∀a,(∃j,cN (n+j) a)->cT cN a:=fun a ⟨j,z⟩=>⟨n+j,z⟩
 have O3:Ok Z' H' (e'.drop n) σ (fun j=>cN (n+j)):=by
  refine⟨fun j d e=>?_,fun i j a z1 z2=>by have:=c.ok.dj _ _ a z1 z2;omega,fun j a z=>c.ok.fz _ a z,fun j a z=>c.ok.fm _ a z,c.ok.zh,?_⟩
  ·rw[List.getElem?_drop] at e
   obtain⟨v,hv,ho⟩:=c.ok.own _ d e
   exact⟨v,by rw[<-Wz];exact hv,ho⟩
  ·rw[List.length_drop,c.ok.len,<-eτ,List.length_drop]
 have rr:Res Z1 H1 (cT bE) Z' H' (cT fun j=>cN (n+j)) (fun a=>A a\/a=p):=⟨c.res.z,c.res.zn,c.res.k,fun a z=>c.res.f a (U3 a z),c.res.g,fun a z=>c.res.d a (U3 a z),c.res.gz,c.res.gm⟩
 obtain⟨u,hu,ha⟩:=c.at_
 exact k acc e' Z' H' _ _ q' O3 rr (Fp hu ha c.own c.np)
theorem uu{α:Type} [Acc α] {X:Cx}{sc:Scope}{N:List Str}{tg:Expr}{ifs:List Expr}{inner:Value->PySem.Env->Sem Unit}{n:Nat}{wi:TI}{ui:UI}{ug:UG}{ut:UT}{ul:UL α}{acc0:α}{u0:HO} (e0:Acc.vals acc0=[]) (a0:Acc.is acc0 u0 []) (fin:α->D) (Fp:∀{acc u vs Z H A p},H p=some u->Acc.is acc u vs->ar Z H (Acc.vals acc) vs A->¬A p->Own Z H (fin acc) (.ref p) (fun a=>A a\/a=p)) (hi:tX wi ui) (hb:∀C s H0 fp pins p,∃g tt tl,PG (dE X sc N C s H0 fp pins) tg g/\C3 (dE X sc N C s H0 fp pins) ifs tt/\PN (dE X sc N C s H0 fp pins) (inner (.ref p) (dE X sc N C s H0 fp pins).env) tl/\j0 (outs n) g ug/\hU tt ut/\nZ (outs n) p tl ul) :
  aZ (jA X sc N tg ifs inner u0 n wi) (fun env Q=>ui env fun items e=>eD ug ut ul (fun acc e'=>Q (.a8 (fin acc)) (e'.drop n)) items acc0 (List.replicate n none++e)):=by
 intro σ env Z H φ Q R O q k
 refine hi σ env Z H φ _ _ O q fun items e1 Z1 H1 bE J q1 O1 r1 w=>?_
 intro p H2 hn hs hp mI C s H0 fp pins
 obtain⟨g,tt,tl,a1,a2,a3,hg,ht,hl⟩:=hb C s H0 fp pins p
 exact⟨g,tt,tl,a1,a2,a3,u7 e0 a0 fin Fp hg ht hl O1 w q1 (fun acc e' Z' H' cN G q' O' r' ho=>k (.a8 (fin acc)) _ (.ref p) Z' H' cN G q' O' (r1.trans r') ho) H2 hn hs hp mI⟩
theorem qP{X:Cx}{sc:Scope}{N:List Str}{tg:Expr}{ifs:List Expr}{inner:Value->PySem.Env->Sem Unit}{n:Nat}{wi:TI}{ui:UI}{ug:UG}{ut:UT}{ul:UL (List D)}(hi:tX wi ui)(hb:∀C s H0 fp pins p,∃g tt tl,PG (dE X sc N C s H0 fp pins) tg g/\C3 (dE X sc N C s H0 fp pins) ifs tt/\PN (dE X sc N C s H0 fp pins) (inner (.ref p) (dE X sc N C s H0 fp pins).env) tl/\j0 (outs n) g ug/\hU tt ut/\nZ (outs n) p tl ul):aZ (jA X sc N tg ifs inner (.lst []) n wi) (gf n ui ug ut ul):=
 uu (acc0:=([]:List D)) rfl rfl (fun acc=>.lst true acc) (fun{acc u vs Z H A p} hu ha ho np=>by
  obtain rfl:u=.lst vs:=ha
  exact bA.mpr ⟨p,vs,rfl,hu,.inr rfl,ho.mono fun a z=>⟨.inl z,fun y=>np (by rw[<-y];exact z)⟩⟩) hi hb
end VS
end
section
namespace VS
open PySem L2
def dput{α:Type}:List DK->List α->DK->α->List DK×List α
 |k'::ks,d::ds,k,x=>if k'=k then(k'::ks,x::ds) else((k'::(dput ks ds k x).1),(d::(dput ks ds k x).2))
 |_,_,k,x=>([k],[x])
section
variable {Z:Set}{H H':Hp}
theorem rE{κ:Type} [DecidableEq κ] (k:κ) (x:V):∀(kl:List κ) (vs:List V),kl.contains k=false->((kl.zip vs).map fun kv=>if kv.1=k then(kv.1,x) else kv)=kl.zip vs
 | [],_,_=>by simp
 |_::_,[],_=>by simp
 |k'::kl,v::vs,h=>by
  rw[List.contains_cons,Bool.or_eq_false_iff] at h
  rw[List.zip_cons_cons,List.map_cons,rE k x kl vs h.2]
  have:¬k'=k:=fun z=>by simp[z] at h
  simp[this]
theorem qW{κ:Type} [DecidableEq κ] (c:κ->DK) (ci:∀a b,c a=c b->a=b) (k:κ) (x:V):∀(kl:List κ) (vs:List V),kl.length=vs.length->kl.Nodup->∃(uO:List κ) (kf:List V),putK (kl.zip vs) k x=uO.zip kf/\uO.length=kf.length/\uO.Nodup/\(∀y,y∈uO->y∈kl\/y=k)/\(uO.map c,kf)=dput (kl.map c) vs (c k) x
 | [],vs,h,_=>by
  cases vs with
  |nil=>exact⟨[k],[x],rfl,rfl,by simp,fun y hy=>.inr (by simpa using hy),rfl⟩
  |cons=>simp at h
 |k'::kl,[],h,_=>by simp at h
 |k'::kl,v::vs,h,nd=>by
  obtain⟨n1,n2⟩:=List.nodup_cons.mp nd
  by_cases e:k'=k
  ·subst e
   refine⟨k'::kl,x::vs,?_,by simpa using h,nd,fun y hy=>.inl hy,by simp[dput]⟩
   have hc:kl.contains k'=false:=by simpa using n1
   unfold putK
   rw[if_pos (by simp),List.zip_cons_cons,List.map_cons,rE k' x kl vs hc]
   simp
  ·obtain⟨uO,kf,h1,h2,hn,hm,h3⟩:=qW c ci k x kl vs (by simpa using h) n2
   refine⟨k'::uO,v::kf,?_,by simp[h2],List.nodup_cons.mpr ⟨fun z=>(hm _ z).elim n1 e,hn⟩,fun y hy=>(List.mem_cons.mp hy).elim (fun z=>.inl (by rw[z];exact List.mem_cons_self)) fun z=>(hm y z).imp (List.mem_cons_of_mem _) id,?_⟩
   ·rw[List.zip_cons_cons,List.zip_cons_cons,<-h1]
    unfold putK
    rw[List.any_cons]
    simp only[e,decide_false,Bool.false_or]
    by_cases ha:((kl.zip vs).any fun kv=>decide (kv.1=k))=true
    ·rw[if_pos ha,if_pos ha,List.map_cons];simp[e]
    ·rw[if_neg ha,if_neg ha];rfl
   ·have ec:¬c k'=c k:=fun z=>e (ci _ _ z)
    have e1:=congrArg Prod.fst h3
    have e2:=congrArg Prod.snd h3
    simp only at e1 e2
    simp[dput,ec,<-e1,<-e2]
theorem ar.dput:∀{ks:List DK}{ds:List D}{vs:List V}{F G:Set}{k:DK}{d:D}{v:V},ks.length=ds.length->ar Z H ds vs F->Own Z H d v G->(∀a,F a->¬G a)->ar Z H (VS.dput ks ds k d).2 (VS.dput ks vs k v).2 (fun a=>F a\/G a)/\(VS.dput ks ds k d).1=(VS.dput ks vs k v).1
 | [],ds,vs,F,G,k,d,v,hl,h,h2,dj=>by
  cases ds with
  |cons=>simp at hl
  |nil=>
   rw[ba.mp h]
   exact⟨aF.mpr ⟨v,[],G,cx,rfl,h2,ba.mpr rfl,fun _ z=>.inr z,fun _ z=>z.elim,fun _ _ z=>z⟩,rfl⟩
 |k'::ks,[],vs,F,G,k,d,v,hl,h,h2,dj=>by simp at hl
 |k'::ks,e::ds,vs,F,G,k,d,v,hl,h,h2,dj=>by
  obtain⟨w,r,F1,F2,rfl,h1,h3,s1,s2,FN⟩:=aF.mp h
  unfold VS.dput
  by_cases ek:k'=k
  ·rw[if_pos ek,if_pos ek]
   exact⟨aF.mpr ⟨v,r,G,F2,rfl,h2,h3,fun _ z=>.inr z,fun a z=>.inl (s2 a z),fun a z y=>dj a (s2 a y) z⟩,rfl⟩
  ·rw[if_neg ek,if_neg ek]
   obtain⟨q1,q2⟩:=ar.dput (k:=k) (by simpa using hl) h3 h2 fun a z=>dj a (s2 a z)
   exact⟨aF.mpr ⟨w,_,F1,_,rfl,h1,q1,fun a z=>.inl (s1 a z),fun a z=>z.imp (s2 a) id,fun a z y=>y.elim (FN a z) fun y=>dj a (s1 a z) y⟩,by simp only[q2]⟩
theorem r9{t:Bool}{ks:List DK}{a:Addr}{vs:List V}{u:HO}{kd:D}{k:DK}{y x:V}{F2:Set}(hr:H a=some u)(hd:DictAt t u ks vs)(hk:keyOf t kd=some k)(hy:Own Z H kd y F2)(hz:vs.length<=1000000) :
  ∃u',t4 H a y x (upd H a u')/\DictAt t u' (VS.dput ks vs k x).1 (VS.dput ks vs k x).2/\mJ (some u'):=by
 cases t with
 |false=>
  obtain⟨kl,rfl,hlen,S7,rfl⟩:=hd
  cases e:D_ kd with
  |none=>simp[keyOf,e] at hk
  |some k'=>
   simp only[keyOf,e,Option.map_some,Option.some.injEq] at hk
   subst hk
   obtain⟨uO,kf,h1,h2,hn,_,h3⟩:=qW DK.s (fun a b z=>DK.s.inj z) k' x kl vs hlen S7
   refine⟨_,.inl ⟨_,k',hr,nh e hy,?_,rfl⟩,⟨uO,?_,?_,hn,?_⟩,trivial⟩
   ·rw[List.length_zip,hlen,Nat.min_self];exact fo hz
   ·rw[<-h3]
   ·rw[<-h3];exact h2
   ·rw[<-h3,h1]
 |true=>
  obtain⟨kl,rfl,hlen,S7,rfl⟩:=hd
  cases kd<;>simp only[keyOf,reduceCtorEq] at hk
  rename_i Bb
  cases e:za Bb with
  |none=>simp[e] at hk
  |some k'=>
   simp only[e,Option.map_some,Option.some.injEq] at hk
   subst hk
   obtain⟨b,ws,rfl,hb,hw⟩:=de.mp hy
   rw[rq e hw] at hb
   obtain⟨uO,kf,h1,h2,hn,_,h3⟩:=qW DK.t (fun a b z=>DK.t.inj z) k' x kl vs hlen S7
   refine⟨_,.inr ⟨_,k',b,hr,rfl,hb,?_,rfl⟩,⟨uO,?_,?_,hn,?_⟩,trivial⟩
   ·rw[List.length_zip,hlen,Nat.min_self];exact fo hz
   ·rw[<-h3]
   ·rw[<-h3];exact h2
   ·rw[<-h3,h1]
theorem iN{t:Bool}{u:HO}{ks:List DK}{vs:List V}(h:DictAt t u ks vs):ks.length=vs.length:=by
 cases t with
 |false=>obtain⟨kl,rfl,hl,_,_⟩:=h;simpa using hl
 |true=>obtain⟨kl,rfl,hl,_,_⟩:=h;simpa using hl
end
def jh(i:Nat)(uy uv:UB):US:=fun E env=>uv env fun r1 e1=>(∃d0,e1[i]? = some (some d0))/\uy e1 fun r2 e2=>∃d kd t ks ds k,r1=.a8 d/\r2.at e2=some kd/\e2[i]? = some (some (.cB true t ks ds))/\keyOf t kd=some k/\ds.length<=1000000 /\
 E.nx (e2.set i (some (.cB true t (dput ks ds k d).1 (dput ks ds k d).2)))
theorem DU{I:Nat->Bool}{i:Nat}{ty tv:TE}{uy uv:UB}(hy:aZ ty uy)(hv:aZ tv uv):fN I (Ea (jz i) ty tv) (jh i uy uv):=by
 intro σ env Z H φ DE E O q k
 refine hv σ env Z H φ _ _ O q fun r1 aK v1 Z1 H1 bE G1 ⟨⟨d0,e0⟩,q1⟩ O1 s1 jc=>?_
 obtain⟨w0,L4,_⟩:=O1.own i d0 e0
 refine⟨w0,L4,?_⟩
 refine hy σ aK Z1 H1 bE _ _ O1 q1 fun r2 gB v2 Z2 H2 hX G2 ⟨d,kd,t,ks,ds,kk,er,ea,ei,ek,hz,q2⟩ O2 s2 qc=>?_
 subst er
 obtain⟨zf,PM⟩:=s1.seq s2
 have jc:Own Z1 H1 d v1 G1:=jc
 have h1:Own Z2 H2 d v1 G1:=s2.keep O1 s1.d jc
 obtain⟨F2,h2⟩:=dW O2 qc ea
 obtain⟨w,hw,ho⟩:=O2.own i _ ei
 rw[L4] at hw;cases hw
 obtain⟨a,vs,u,rfl,hr,hd,ha,hl⟩:=c9.mp ho
 obtain⟨u',hp,qt,hm⟩:=r9 (x:=v1) hr hd ek h2 (by rw[hl.length];exact hz)
 refine⟨a,_,rfl,hp,?_⟩
 have Fq:∀b,cT hX b->¬G1 b:=fun b z y=>zf.d b z (.inl y)
 have na:¬G1 a:=Fq a ⟨i,ha⟩
 have st:∀{d:D}{v:V}{F:Set},(∀b,F b->b≠a)->Own Z2 H2 d v F->Own Z2 (upd H2 a u') d v F:=fun{d v F} hF h=>Own.step (fun b=>b=a) (fun _ z=>z) (fun b o e n=>by rw[aE n];exact e) (fun b z=>by rw[z];exact O2.fz i a ha) (fun b vs z=>by rw[z];exact(O2.fm i a ha).gG) d (fun _ z=>z) (fun b z y=>hF b y z) h
 have Hh:∀{d:List D}{v:List V}{F:Set},(∀b,F b->b≠a)->ar Z2 H2 d v F->ar Z2 (upd H2 a u') d v F:=fun{d v F} hF h=>ar.step (fun b=>b=a) (fun _ z=>z) (fun b o e n=>by rw[aE n];exact e) (fun b z=>by rw[z];exact O2.fz i a ha) (fun b vs z=>by rw[z];exact(O2.fm i a ha).gG) d (fun _ z=>z) (fun b z y=>hF b y z) h
 have hW:∀b,(fun b=>b=a) b->hX i b:=fun b z=>by rw[z];exact ha
 have hk:∀b,¬(fun b=>b=a) b->(upd H2 a u') b=H2 b:=fun b n=>aE n
 obtain⟨q3,q4⟩:=ar.dput (ks:=ks) (k:=kk) (by rw[iN hd,hl.length]) (Hh (fun b z=>z.2) hl) (st (fun b z y=>na (by rw[<-y];exact z)) h1) fun b z y=>Fq b ⟨i,z.1⟩ y
 refine k.nx _ σ Z2 _ _ q2 (O2.write (W:=fun b=>b=a) (G:=G1) ei L4 hW hk (fun b z=>by rw[z,aB];exact hm) (fun b z y=>Fq b y z) (fun b z=>zf.gz b (.inl z)) (fun b z=>zf.gm b (.inl z)) (c9.mpr ⟨a,_,u',rfl,aB,by rw[q4];exact qt,.inl ha,?_⟩)) (zf.write (i:=i) hW hk fun b z=>.inl z) Kp.refl
 refine q3.mono fun b z=>?_
 rcases z with z|z
 ·exact⟨.inl z.1,z.2⟩
 ·exact⟨.inr z,fun y=>na (by rw[<-y];exact z)⟩
end VS
end
section
namespace VS
open PySem L2
structure Qo(Z:Set)(H:Hp)(v0:V)(F:Set)(c:D)(v:V)(Fc:Set)(kg:D->D):Prop where
 own:Own Z H c v Fc
 sub:∀a,Fc a->F a
 put:∀(H':Hp) (c':D) (G:Set),(∀a,¬Fc a->H' a=H a)->Own Z H' c' v (fun a=>Fc a\/G a)->(∀a,G a->¬F a)->Own Z H' (kg c') v0 (fun a=>F a\/G a)
section
variable {Z:Set}{H:Hp}
theorem ar.focus:∀{ds:List D}{vs:List V}{F:Set}{j:Nat}{c:D},(∀a,F a->¬Z a)->(∀a,F a->mJ (H a))->ar Z H ds vs F->ds[j]? = some c->∃v Fj,vs[j]? = some v/\Own Z H c v Fj/\(∀a,Fj a->F a) /\
  ∀(H':Hp) (c':D) (G:Set),(∀a,¬Fj a->H' a=H a)->Own Z H' c' v (fun a=>Fj a\/G a)->(∀a,G a->¬F a)->ar Z H' (ds.set j c') vs (fun a=>F a\/G a)
 | [],vs,F,j,c,_,_,h,e=>by simp at e
 |d::ds,vs,F,0,c,fz,fm,h,e=>by
  obtain⟨w,r,F1,F2,rfl,h1,h3,s1,s2,dj⟩:=aF.mp h
  cases (show some d=some c from e)
  refine⟨w,F1,rfl,h1,s1,fun H' c' G k ho hG=>?_⟩
  refine aF.mpr ⟨w,r,fun a=>F1 a\/G a,F2,rfl,ho,?_,fun a z=>z.imp (s1 a) id,fun a z=>.inl (s2 a z),fun a z y=>z.elim (fun z=>dj a z y) fun z=>hG a z (s2 a y)⟩
  exact ar.step F1 (fun _ z=>z) (fun a o q n=>by rw[k a n];exact q) (fun a z=>fz a (s1 a z)) (fun a vs z=>(fm a (s1 a z)).gG) ds (fun _ z=>z) (fun a z y=>dj a z y) h3
 |d::ds,vs,F,j+1,c,fz,fm,h,e=>by
  obtain⟨w,r,F1,F2,rfl,h1,h3,s1,s2,dj⟩:=aF.mp h
  obtain⟨v,Fj,e1,ho,sj,q⟩:=ar.focus (j:=j) (c:=c) (fun a z=>fz a (s2 a z)) (fun a z=>fm a (s2 a z)) h3 (by simpa using e)
  refine⟨v,Fj,by simpa using e1,ho,fun a z=>s2 a (sj a z),fun H' c' G k gH hG=>?_⟩
  refine aF.mpr ⟨w,r,F1,fun a=>F2 a\/G a,rfl,?_,q H' c' G k gH fun a z y=>hG a z (s2 a y),fun a z=>.inl (s1 a z),fun a z=>z.imp (s2 a) id,fun a z y=>y.elim (dj a z) fun y=>hG a y (s1 a z)⟩
  exact Own.step Fj (fun _ z=>z) (fun a o q n=>by rw[k a n];exact q) (fun a z=>fz a (s2 a (sj a z))) (fun a vs z=>(fm a (s2 a (sj a z))).gG) d (fun _ z=>z) (fun a z y=>dj a y (sj a z)) h1
end
def Gu:List DK->DK->Option Nat
 | [],_=>none
 |k'::ks,k=>if k'=k then some 0 else(Gu ks k).map (· + 1)
theorem yk{α:Type}:∀{ks:List DK}{ds:List α}{k:DK}{j:Nat}{c:α},Gu ks k=some j->ds[j]? = some c->bO ks ds k=some c
 | [],ds,k,j,c,h,e=>by simp[Gu] at h
 |k'::ks,[],k,j,c,h,e=>by simp at e
 |k'::ks,d::ds,k,j,c,h,e=>by
  unfold Gu at h
  unfold bO
  by_cases ek:k'=k
  ·rw[if_pos ek] at h ⊢
   cases h
   exact e
  ·rw[if_neg ek] at h ⊢
   cases q:Gu ks k with
   |none=>rw[q] at h;cases h
   |some j'=>
    rw[q] at h
    cases (show some (j'+1)=some j from h)
    exact yk q (by simpa using e)
def child:D->D->Option (D×(D->D))
 | .cB true t ks ds,kd=>(keyOf t kd).bind fun k=>(Gu ks k).bind fun j=>(ds[j]?).map fun c=>(c,fun c'=>.cB true t ks (ds.set j c'))
 | .lst true ds,.int k=>(x6 ds.length k).bind fun j=>(ds[j]?).map fun c=>(c,fun c'=>.lst true (ds.set j c'))
 | .tup ds,.int k=>(x6 ds.length k).bind fun j=>(ds[j]?).map fun c=>(c,fun c'=>.tup (ds.set j c'))
 |_,_=>none
def acR(tc:TE)(i:Nat)(ux:UX):Prop:=∀(σ:St) (env:ai) (Z:Set) (H:Hp) (φ:Nat->Set) (d0 kd c:D) (kg:D->D) (R:VK),Ok Z H env σ φ->env[i]? = some (some d0)->ux env kd->child d0 kd=some (c,kg) ->
 (∀v v0 Fc,σ[i]? = some (some v0)->Qo Z H v0 (φ i) c v Fc kg->R v H)->tc σ H R
theorem KJ{i:Nat}{tk:TE}{ux:UX}(hk:pB tk ux):∀(σ:St) (env:ai) (Z:Set) (H:Hp) (φ:Nat->Set) (d0 kd c:D) (kg:D->D) (R:VK),(∃t ks ds,d0=.cB true t ks ds)->Ok Z H env σ φ->env[i]? = some (some d0)->ux env kd->child d0 kd=some (c,kg) ->
  (∀v v0 Fc,σ[i]? = some (some v0)->Qo Z H v0 (φ i) c v Fc kg->R v H)->Ar (jz i) tk σ H R:=by
 rintro σ env Z H φ _ kd c kg R ⟨t,ks,ds,rfl⟩ O e ex ec k
 obtain⟨v0,hv,ho⟩:=O.own i _ e
 refine⟨v0,hv,hk σ env Z H φ kd _ O ex fun y hy=>?_⟩
 simp only[child,Option.bind_eq_some_iff,Option.map_eq_some_iff,Prod.mk.injEq] at ec
 obtain⟨kk,h1,j,h2,c',h3,rfl,rfl⟩:=ec
 obtain⟨a,vs,u,rfl,hr,hd,ha,hl⟩:=c9.mp ho
 obtain⟨v,Fj,e1,Fl,sj,q⟩:=ar.focus (fun b z=>O.fz i b z.1) (fun b z=>O.fm i b z.1) hl h3
 have g:=kT (.inl hr) hd hl h1 hy
 rw[yk h2 e1] at g
 refine⟨a,v,rfl,g,k v _ Fj hv ⟨Fl,fun b z=>(sj b z).1,fun H' P0 G JG gH hG=>?_⟩⟩
 have na:¬Fj a:=fun z=>(sj a z).2 rfl
 refine c9.mpr ⟨a,vs,u,rfl,by rw[JG a na];exact hr,hd,.inl ha,(q H' P0 G JG gH fun b z y=>hG b z y.1).mono fun b z=>?_⟩
 rcases z with z|z
 ·exact⟨.inl z.1,z.2⟩
 ·exact⟨.inr z,fun y=>hG b z (by rw[y];exact ha)⟩
theorem KH{K:PySem.W.Frag}{i:Nat}{tk:TE}{ux:UX}(hk:pB tk ux):∀(σ:St) (env:ai) (Z:Set) (H:Hp) (φ:Nat->Set) (d0 kd c:D) (kg:D->D) (R:VK),(∃ds,d0=.lst true ds)->Ok Z H env σ φ->env[i]? = some (some d0)->ux env kd->child d0 kd=some (c,kg) ->
  (∀v v0 Fc,σ[i]? = some (some v0)->Qo Z H v0 (φ i) c v Fc kg->R v H)->Hc (Eh K) (jz i) tk σ H R:=by
 rintro σ env Z H φ _ kd c kg R ⟨ds,rfl⟩ O e ex ec k
 obtain⟨v0,hv,ho⟩:=O.own i _ e
 refine⟨v0,hv,hk σ env Z H φ kd _ O ex fun y hy=>?_⟩
 cases kd<;>simp only[child,reduceCtorEq] at ec
 rw[a_] at hy
 simp only[Option.bind_eq_some_iff,Option.map_eq_some_iff,Prod.mk.injEq] at ec
 obtain⟨j,h2,c',h3,rfl,rfl⟩:=ec
 obtain⟨a,vs,rfl,hr,ha,hl⟩:=bA.mp ho
 obtain⟨v,Fj,e1,Fl,sj,q⟩:=ar.focus (fun b z=>O.fz i b z.1) (fun b z=>O.fm i b z.1) hl h3
 refine⟨a,vs,_,v,rfl,hy,ju.of hr,by unfold il;rw[hl.length,h2];exact e1,k v _ Fj hv ⟨Fl,fun b z=>(sj b z).1,fun H' P0 G JG gH hG=>?_⟩⟩
 have na:¬Fj a:=fun z=>(sj a z).2 rfl
 refine bA.mpr ⟨a,vs,rfl,by rw[JG a na];exact hr,.inl ha,(q H' P0 G JG gH fun b z y=>hG b z y.1).mono fun b z=>?_⟩
 rcases z with z|z
 ·exact⟨.inl z.1,z.2⟩
 ·exact⟨.inr z,fun y=>hG b z (by rw[y];exact ha)⟩
theorem KD{K:PySem.W.Frag}{i:Nat}{tk:TE}{ux:UX}(hk:pB tk ux):∀(σ:St) (env:ai) (Z:Set) (H:Hp) (φ:Nat->Set) (d0 kd c:D) (kg:D->D) (R:VK),(∃ds,d0=.tup ds)->Ok Z H env σ φ->env[i]? = some (some d0)->ux env kd->child d0 kd=some (c,kg) ->
  (∀v v0 Fc,σ[i]? = some (some v0)->Qo Z H v0 (φ i) c v Fc kg->R v H)->Hc (Eg K) (jz i) tk σ H R:=by
 rintro σ env Z H φ _ kd c kg R ⟨ds,rfl⟩ O e ex ec k
 obtain⟨v0,hv,ho⟩:=O.own i _ e
 refine⟨v0,hv,hk σ env Z H φ kd _ O ex fun y hy=>?_⟩
 cases kd<;>simp only[child,reduceCtorEq] at ec
 rw[a_] at hy
 simp only[Option.bind_eq_some_iff,Option.map_eq_some_iff,Prod.mk.injEq] at ec
 obtain⟨j,h2,c',h3,rfl,rfl⟩:=ec
 obtain⟨a,vs,rfl,hr,hl⟩:=de.mp ho
 obtain⟨v,Fj,e1,Fl,sj,q⟩:=ar.focus (fun b z=>O.fz i b z) (fun b z=>O.fm i b z) hl h3
 refine⟨a,vs,_,v,rfl,hy,pA.of hr,by unfold il;rw[hl.length,h2];exact e1,k v _ Fj hv ⟨Fl,sj,fun H' P0 G JG gH hG=>?_⟩⟩
 have na:¬Fj a:=fun z=>(O.fm i a (sj a z)).gG hr
 exact de.mpr ⟨a,vs,rfl,by rw[JG a na];exact hr,q H' P0 G JG gH hG⟩
inductive Sel where
 |cB|lst|tup
def Sel.ok:Sel->D->Prop
 | .cB,d=>∃t ks ds,d=.cB true t ks ds
 | .lst,d=>∃ds,d=.lst true ds
 | .tup,d=>∃ds,d=.tup ds
def Sel.t(K:PySem.W.Frag):Sel->TE->TE->TE
 | .cB=>Ar
 | .lst=>Hc (Eh K)
 | .tup=>Hc (Eg K)
theorem D8{K:PySem.W.Frag}(s:Sel){i:Nat}{tk:TE}{ux:UX}(hk:pB tk ux):∀(σ:St) (env:ai) (Z:Set) (H:Hp) (φ:Nat->Set) (d0 kd c:D) (kg:D->D) (R:VK),s.ok d0->Ok Z H env σ φ->env[i]? = some (some d0)->ux env kd->child d0 kd=some (c,kg) ->
  (∀v v0 Fc,σ[i]? = some (some v0)->Qo Z H v0 (φ i) c v Fc kg->R v H)->s.t K (jz i) tk σ H R:=by
 cases s with
 |cB=>exact KJ hk
 |lst=>exact KH hk
 |tup=>exact KD hk
def ji(s:Sel)(i:Nat)(uk uy:UX):US:=fun E env=>∃d0 kd y cs kg,env[i]? = some (some d0)/\s.ok d0/\uk env kd/\uy env y/\child d0 kd=some (.lst true cs,kg)/\cs.length<=1000000/\E.nx (env.set i (some (kg (.lst true (cs++[y])))))
theorem vD{I:Nat->Bool}{K:PySem.W.Frag}(s:Sel){i:Nat}{tk ty:TE}{uk uy:UX}(hk:pB tk uk)(hy:pB ty uy):fN I (ud (N8 K "list" qV (s.t K (jz i) tk) (lT ty xf))) (ji s i uk uy):=by
 intro σ env Z H φ DE E O ⟨d0,kd,y,cs,kg,e0,so,ek,ey,ec,hz,q⟩ k
 refine D8 s hk σ env Z H φ d0 kd _ kg _ so O e0 ek ec fun v v0 Fc hv f=>?_
 obtain⟨a,vs,rfl,hr,ha,hl⟩:=bA.mp f.own
 refine⟨.inl ⟨rfl,vs,ju.of hr⟩,hy σ env Z H φ y _ O ey fun w hw=>⟨a,vs,w,rfl,rfl,hr,by rw[hl.length];exact hz,fun H3 fP h3=>?_⟩⟩
 have hW:∀b,(fun b=>b=a) b->φ i b:=fun b z=>by rw[z];exact f.sub a ha
 have Mf:∀b,¬(fun b=>b=a) b->H3 b=H b:=fun b n=>fP b n
 have fz:=O.fz i a (f.sub a ha)
 have nt:∀vs,¬H a=some (.tup vs):=fun vs=>(O.fm i a (f.sub a ha)).gG
 have Hh:ar Z H3 cs vs (fun b=>Fc b/\b≠a):=ar.step (fun b=>b=a) (fun _ z=>z) (fun b o e n=>by rw[fP b n];exact e) (fun b z=>by rw[z];exact fz) (fun b vs z=>by rw[z];exact nt vs) cs (fun _ z=>z) (fun b z y=>y.2 z) hl
 have st:Own Z H3 y w cx:=Own.step (fun b=>b=a) (fun _ z=>z) (fun b o e n=>by rw[fP b n];exact e) (fun b z=>by rw[z];exact fz) (fun b vs z=>by rw[z];exact nt vs) y (fun _ z=>z) (fun _ _ z=>z) hw
 have ho:Own Z H3 (kg (.lst true (cs++[y]))) v0 (fun b=>φ i b\/cx b):=by
  refine f.put H3 _ cx (fun b n=>fP b fun z=>n (by rw[z];exact ha)) (bA.mpr ⟨a,_,rfl,h3,.inl ha,?_⟩) (fun _ z=>z.elim)
  exact(jk Hh st fun _ _ z=>z).mono fun b z=>z.elim (fun z=>⟨.inl z.1,z.2⟩) fun z=>z.elim
 exact k.nx _ σ Z H3 _ q (O.write (W:=fun b=>b=a) (G:=cx) e0 hv hW Mf (fun b z=>by rw[z,h3];exact trivial) (fun _ z=>z.elim) (fun _ z=>z.elim) (fun _ z=>z.elim) ho) (Res.refl.write (i:=i) hW Mf fun _ z=>z) Kp.refl
def mS(s:Sel)(i:Nat)(uj uk uv:UX):US:=fun E env=>∃d0 jd kd x t ks ds k kg,env[i]? = some (some d0)/\s.ok d0/\uj env jd/\uk env kd/\uv env x/\child d0 jd=some (.cB true t ks ds,kg)/\keyOf t kd=some k/\ds.length<=1000000/\E.nx (env.set i (some (kg (.cB true t (dput ks ds k x).1 (dput ks ds k x).2))))
theorem y7{I:Nat->Bool}{K:PySem.W.Frag}(s:Sel){i:Nat}{tj tk tv:TE}{uj uk uv:UX}(hj:pB tj uj)(hk:pB tk uk)(hv:pB tv uv):fN I (Ea (s.t K (jz i) tj) tk tv) (mS s i uj uk uv):=by
 intro σ env Z H φ DE E O ⟨d0,jd,kd,x,t,ks,ds,kk,kg,e0,so,ej,ek,ev,ec,ekk,hz,q⟩ k
 refine hv σ env Z H φ x _ O ev fun w hw=>D8 s hj σ env Z H φ d0 jd _ kg _ so O e0 ej ec fun v v0 Fc hv0 f=>hk σ env Z H φ kd _ O ek fun y hy=>?_
 obtain⟨a,vs,u,rfl,hr,hd,ha,hl⟩:=c9.mp f.own
 obtain⟨u',hp,qt,hm⟩:=r9 (x:=w) hr hd ekk hy (by rw[hl.length];exact hz)
 refine⟨a,_,rfl,hp,?_⟩
 have hW:∀b,(fun b=>b=a) b->φ i b:=fun b z=>by rw[z];exact f.sub a ha
 have Mf:∀b,¬(fun b=>b=a) b->(upd H a u') b=H b:=fun b n=>aE n
 have fz:=O.fz i a (f.sub a ha)
 have nt:∀vs,¬H a=some (.tup vs):=fun vs=>(O.fm i a (f.sub a ha)).gG
 have Hh:ar Z (upd H a u') ds vs (fun b=>Fc b/\b≠a):=ar.step (fun b=>b=a) (fun _ z=>z) (fun b o e n=>by rw[aE n];exact e) (fun b z=>by rw[z];exact fz) (fun b vs z=>by rw[z];exact nt vs) ds (fun _ z=>z) (fun b z y=>y.2 z) hl
 have st:Own Z (upd H a u') x w cx:=Own.step (fun b=>b=a) (fun _ z=>z) (fun b o e n=>by rw[aE n];exact e) (fun b z=>by rw[z];exact fz) (fun b vs z=>by rw[z];exact nt vs) x (fun _ z=>z) (fun _ _ z=>z) hw
 obtain⟨q3,q4⟩:=ar.dput (ks:=ks) (k:=kk) (by rw[iN hd,hl.length]) Hh st fun _ _ z=>z
 have ho:Own Z (upd H a u') (kg (.cB true t (dput ks ds kk x).1 (dput ks ds kk x).2)) v0 (fun b=>φ i b\/cx b):=by
  refine f.put _ _ cx (fun b n=>aE fun z=>n (by rw[z];exact ha)) (c9.mpr ⟨a,_,u',rfl,aB,by rw[q4];exact qt,.inl ha,?_⟩) (fun _ z=>z.elim)
  exact q3.mono fun b z=>z.elim (fun z=>⟨.inl z.1,z.2⟩) fun z=>z.elim
 exact k.nx _ σ Z _ _ q (O.write (W:=fun b=>b=a) (G:=cx) e0 hv0 hW Mf (fun b z=>by rw[z,aB];exact hm) (fun _ z=>z.elim) (fun _ z=>z.elim) (fun _ z=>z.elim) ho) (Res.refl.write (i:=i) hW Mf fun _ z=>z) Kp.refl
end VS
end
section
namespace VS
open PySem L2
section
variable {Z:Set}{H H':Hp}
theorem ar.set:∀{ds:List D}{vs:List V}{F G:Set}{j:Nat}{d:D}{v:V},ar Z H ds vs F->Own Z H d v G->(∀a,F a->¬G a)->ar Z H (ds.set j d) (vs.set j v) (fun a=>F a\/G a)
 | [],vs,F,G,j,d,v,h,h2,dj=>by rw[ba.mp h];exact ba.mpr rfl
 |e::ds,vs,F,G,0,d,v,h,h2,dj=>by
  obtain⟨w,r,F1,F2,rfl,h1,h3,s1,s2,FN⟩:=aF.mp h
  exact aF.mpr ⟨v,r,G,F2,rfl,h2,h3,fun _ z=>.inr z,fun a z=>.inl (s2 a z),fun a z y=>dj a (s2 a y) z⟩
 |e::ds,vs,F,G,j+1,d,v,h,h2,dj=>by
  obtain⟨w,r,F1,F2,rfl,h1,h3,s1,s2,FN⟩:=aF.mp h
  exact aF.mpr ⟨w,r.set j v,F1,fun a=>F2 a\/G a,rfl,h1,ar.set h3 h2 fun a z=>dj a (s2 a z),fun a z=>.inl (s1 a z),fun a z=>z.imp (s2 a) id,fun a z y=>y.elim (FN a z) fun y=>dj a (s1 a z) y⟩
theorem ar.take:∀{ds:List D}{vs:List V}{F:Set} (n:Nat),ar Z H ds vs F->ar Z H (ds.take n) (vs.take n) F
 | [],vs,F,n,h=>by rw[ba.mp h];simp[ar]
 |e::ds,vs,F,0,h=>by simp[ar]
 |e::ds,vs,F,n+1,h=>by
  obtain⟨w,r,F1,F2,rfl,h1,h3,s1,s2,FN⟩:=aF.mp h
  exact aF.mpr ⟨w,r.take n,F1,F2,rfl,h1,ar.take n h3,s1,s2,FN⟩
theorem ar.drop:∀{ds:List D}{vs:List V}{F:Set} (n:Nat),ar Z H ds vs F->ar Z H (ds.drop n) (vs.drop n) F
 | [],vs,F,n,h=>by rw[ba.mp h];simp[ar]
 |e::ds,vs,F,0,h=>by simpa using h
 |e::ds,vs,F,n+1,h=>by
  obtain⟨w,r,F1,F2,rfl,h1,h3,s1,s2,FN⟩:=aF.mp h
  exact(ar.drop n h3).mono s2
theorem ar.append:∀{ds es:List D}{vs ws:List V}{F G:Set},ar Z H ds vs F->ar Z H es ws G->(∀a,F a->¬G a)->ar Z H (ds++es) (vs++ws) (fun a=>F a\/G a)
 | [],es,vs,ws,F,G,h,h2,dj=>by rw[ba.mp h];exact h2.mono fun _ z=>.inr z
 |e::ds,es,vs,ws,F,G,h,h2,dj=>by
  obtain⟨w,r,F1,F2,rfl,h1,h3,s1,s2,FN⟩:=aF.mp h
  exact aF.mpr ⟨w,r++ws,F1,fun a=>F2 a\/G a,rfl,h1,ar.append h3 h2 fun a z=>dj a (s2 a z),fun a z=>.inl (s1 a z),fun a z=>z.imp (s2 a) id,fun a z y=>y.elim (FN a z) fun y=>dj a (s1 a z) y⟩
theorem ar.reverse:∀{ds:List D}{vs:List V}{F:Set},ar Z H ds vs F->ar Z H ds.reverse vs.reverse F
 | [],vs,F,h=>by rw[ba.mp h];simp[ar]
 |e::ds,vs,F,h=>by
  obtain⟨w,r,F1,F2,rfl,h1,h3,s1,s2,dj⟩:=aF.mp h
  rw[List.reverse_cons,List.reverse_cons]
  exact(jk (ar.reverse h3) h1 fun a z y=>dj a y z).mono fun a z=>z.elim (s2 a) (s1 a)
end
theorem C4{I:Nat->Bool}{σ:St}{env:ai}{Z:Set}{H H3:Hp}{φ:Nat->Set}{i:Nat}{d d':D}{v:V}{a:Addr}{P:ai->Prop}{K:St->Hp->Prop}(O:Ok Z H env σ φ)(e:env[i]? = some (some d))(hv:σ[i]? = some (some v))(ha:φ i a)(fP:∀b,b≠a->H3 b=H b)(hm:mJ (H3 a))(ho:Own Z H3 d' v (φ i))(k:KN I Z H (cT φ) σ P K)(q:P (env.set i (some d'))):K σ H3:=by
 have hW:∀b,(fun b=>b=a) b->φ i b:=fun b z=>by rw[z];exact ha
 have hk:∀b,¬(fun b=>b=a) b->H3 b=H b:=fun b n=>fP b n
 exact k _ σ Z H3 _ q (O.write (W:=fun b=>b=a) (G:=cx) e hv hW hk (fun b z=>by rw[z];exact hm) (fun _ z=>z.elim) (fun _ z=>z.elim) (fun _ z=>z.elim) (ho.mono fun _ z=>.inl z)) (Res.refl.write (i:=i) hW hk fun _ z=>z) Kp.refl
theorem beside{Z:Set}{H H3:Hp}{a:Addr}(hz:¬Z a)(hm:mJ (H a))(fP:∀b,b≠a->H3 b=H b){ds:List D}{vs:List V}{F:Set}(hF:∀b,F b->b≠a)(h:ar Z H ds vs F):ar Z H3 ds vs F:=
 ar.step (fun b=>b=a) (fun _ z=>z) (fun b o e n=>by rw[fP b n];exact e) (fun b z=>by rw[z];exact hz) (fun b vs z=>by rw[z];exact hm.gG) ds (fun _ z=>z) (fun b z y=>hF b y z) h
theorem nJ{Z:Set}{H H3:Hp}{a:Addr}(hz:¬Z a)(hm:mJ (H a))(fP:∀b,b≠a->H3 b=H b){d:D}{v:V}{F:Set}(hF:∀b,F b->b≠a)(h:Own Z H d v F):Own Z H3 d v F:=
 Own.step (fun b=>b=a) (fun _ z=>z) (fun b o e n=>by rw[fP b n];exact e) (fun b z=>by rw[z];exact hz) (fun b vs z=>by rw[z];exact hm.gG) d (fun _ z=>z) (fun b z y=>hF b y z) h
def t_(i:Nat)(uk uv:UB):US:=fun E env=>uv env fun r1 e1=>(∃d0,e1[i]? = some (some d0))/\uk e1 fun r2 e2=>∃d k j ds,r1=.a8 d/\r2=.a8 (.int k)/\e2[i]? = some (some (.lst true ds))/\x6 ds.length k=some j/\E.nx (e2.set i (some (.lst true (ds.set j d))))
theorem DD{I:Nat->Bool}{i:Nat}{tk tv:TE}{uk uv:UB}(hk:aZ tk uk)(hv:aZ tv uv):fN I (yW tv (Px (jz i) tk Jw)) (t_ i uk uv):=by
 intro σ env Z H φ DE E O q k
 refine hv σ env Z H φ _ _ O q fun r1 aK v1 Z1 H1 bE G1 ⟨⟨d0,e0⟩,q1⟩ O1 s1 jc=>?_
 obtain⟨w0,L4,_⟩:=O1.own i d0 e0
 refine⟨w0,L4,hk σ aK Z1 H1 bE _ _ O1 q1 fun r2 gB v2 Z2 H2 hX G2 ⟨d,kk,j,ds,er,UD,ei,ej,q2⟩ O2 s2 qc=>?_⟩
 subst er UD
 obtain⟨zf,PM⟩:=s1.seq s2
 have jc:Own Z1 H1 d v1 G1:=jc
 have h1:Own Z2 H2 d v1 G1:=s2.keep O1 s1.d jc
 obtain⟨w,hw,ho⟩:=O2.own i _ ei
 rw[L4] at hw;cases hw
 obtain⟨a,vs,rfl,hr,ha,hl⟩:=bA.mp ho
 refine⟨a,vs,kk,j,rfl,a_.mp (show Own Z2 H2 (.int kk) v2 G2 from qc),hr,by rw[hl.length];exact ej,?_⟩
 have Fq:∀b,cT hX b->¬G1 b:=fun b z y=>zf.d b z (.inl y)
 have na:¬G1 a:=Fq a ⟨i,ha⟩
 have fP:∀b,b≠a->upd H2 a (.lst (vs.set j v1)) b=H2 b:=fun b n=>aE n
 have hW:∀b,(fun b=>b=a) b->hX i b:=fun b z=>by rw[z];exact ha
 have fz:=O2.fz i a ha
 have fm:=O2.fm i a ha
 refine k.nx _ σ Z2 _ _ q2 (O2.write (W:=fun b=>b=a) (G:=G1) ei L4 hW (fun b n=>fP b n) (fun b z=>by rw[z,aB];exact trivial) (fun b z y=>Fq b y z) (fun b z=>zf.gz b (.inl z)) (fun b z=>zf.gm b (.inl z)) (bA.mpr ⟨a,_,rfl,aB,.inl ha,?_⟩)) (zf.write (i:=i) hW (fun b n=>fP b n) fun b z=>.inl z) Kp.refl
 refine(ar.set (beside fz fm fP (fun b z=>z.2) hl) (nJ fz fm fP (fun b z y=>na (by rw[<-y];exact z)) h1) fun b z y=>Fq b ⟨i,z.1⟩ y).mono fun b z=>?_
 rcases z with z|z
 ·exact⟨.inl z.1,z.2⟩
 ·exact⟨.inr z,fun y=>na (by rw[<-y];exact z)⟩
def Dl(i:Nat):UB:=fun env Q=>∃ds d,env[i]? = some (some (.lst true ds))/\ds[ds.length-1]? = some d/\bare d=true/\Q (.a8 d) (env.set i (some (.lst true ds.dropLast)))
theorem Ho{K:PySem.W.Frag}{i:Nat}:aZ (Ku K "list" Oe (jz i)) (Dl i):=by
 intro σ env Z H φ Q R O ⟨ds,d,e,ed,hb,q⟩ k
 obtain⟨v,hv,ho⟩:=O.own i _ e
 obtain⟨a,vs,rfl,hr,ha,hl⟩:=bA.mp ho
 obtain⟨y,ey,hy⟩:=hl.get ed
 refine⟨_,hv,.inl ⟨rfl,vs,ju.of hr⟩,a,vs,y,rfl,rfl,hr,by rw[hl.length];exact ey,?_⟩
 have fP:∀b,b≠a->upd H a (.lst vs.dropLast) b=H b:=fun b n=>aE n
 have hW:∀b,(fun b=>b=a) b->φ i b:=fun b z=>by rw[z];exact ha
 have fz:=O.fz i a ha
 have fm:=O.fm i a ha
 have A0:ar Z (upd H a (.lst vs.dropLast)) ds.dropLast vs.dropLast (fun b=>φ i b/\b≠a):=by
  have q:=(beside fz fm fP (fun b z=>z.2) hl).take (ds.length-1)
  have e1:vs.take (ds.length-1)=vs.dropLast:=by rw[List.dropLast_eq_take,hl.length]
  rw[e1,<-List.dropLast_eq_take] at q
  exact q
 refine k (.a8 d) _ y Z _ _ cx q (O.write (W:=fun b=>b=a) (G:=cx) (d':=.lst true ds.dropLast) e hv hW (fun b n=>fP b n) (fun b z=>by rw[z,aB];exact trivial) (fun _ z=>z.elim) (fun _ z=>z.elim) (fun _ z=>z.elim) (bA.mpr ⟨a,_,rfl,aB,.inl ha,A0.mono fun b z=>⟨.inl z.1,z.2⟩⟩)) (Res.refl.write (i:=i) hW (fun b n=>fP b n) fun _ z=>z) ?_
 exact nJ fz fm fP (fun _ z=>z.elim) (hy.bare d hb)
def ky(i:Nat):US:=fun E env=>∃ds,env[i]? = some (some (.lst true ds))/\E.nx (env.set i (some (.lst true ds.reverse)))
theorem xi{I:Nat->Bool}{K:PySem.W.Frag}{i:Nat}:fN I (ud (Ku K "list" xw (jz i))) (ky i):=by
 intro σ env Z H φ DE E O ⟨ds,e,q⟩ k
 obtain⟨v,hv,ho⟩:=O.own i _ e
 obtain⟨a,vs,rfl,hr,ha,hl⟩:=bA.mp ho
 refine⟨_,hv,.inl ⟨rfl,vs,ju.of hr⟩,a,vs,rfl,rfl,hr,?_⟩
 have fP:∀b,b≠a->upd H a (.lst vs.reverse) b=H b:=fun b n=>aE n
 exact C4 (d':=.lst true ds.reverse) O e hv ha fP (by rw[aB];exact trivial) (bA.mpr ⟨a,_,rfl,aB,ha,(beside (O.fz i a ha) (O.fm i a ha) fP (fun b z=>z.2) hl).reverse⟩) k.nx q
def iV(i:Nat)(ua:UA):US:=fun E env=>(∃ds,env[i]? = some (some (.lst true ds)))/\ua env fun rs e=>∃xs ds,rs=[.a8 (.lst true xs)]/\a9 xs=true/\e[i]? = some (some (.lst true ds))/\ds.length+xs.length<=1000000/\E.nx (e.set i (some (.lst true (ds++xs))))
theorem y6{I:Nat->Bool}{K:PySem.W.Frag}{i:Nat}{t:TA}{u:UA}(h:n4 t u):fN I (ud (N8 K "list" AE (jz i) t)) (iV i u):=by
 intro σ env Z H φ DE E O ⟨⟨Xn,e0⟩,q⟩ k
 obtain⟨v,hv,ho⟩:=O.own i _ e0
 obtain⟨a,NU,rfl,O7,_,_⟩:=bA.mp ho
 refine⟨_,hv,.inl ⟨rfl,NU,ju.of O7⟩,h σ env Z H φ _ _ O q fun rs aK vs Z1 H1 bE G1 ⟨xs,ds,e1,hb,e2,hz,q1⟩ O1 r1 ok=>?_⟩
 subst e1
 obtain⟨w,ws,Ga,Gb,rfl,h1,h2,sa,_,_⟩:=ok
 cases (show ws=[] from h2)
 obtain⟨v',zN,gH⟩:=O1.own i _ e2
 rw[hv] at zN;cases zN
 obtain⟨a',kf,ea,hr,ha,hl⟩:=bA.mp gH
 cases ea
 have h1:Own Z1 H1 (.lst true xs) w Ga:=h1
 obtain⟨b,zs,rfl,TB,wU,IX⟩:=bA.mp h1
 have hlx:=IX.bare xs hb
 refine⟨a,b,kf,zs,rfl,rfl,hr,TB,by rw[hl.length,IX.length];exact Nat.le_of_lt (fo hz),?_⟩
 have fP:∀b,b≠a->upd H1 a (.lst (kf++zs)) b=H1 b:=fun b n=>aE n
 have fz:=O1.fz i a ha
 have fm:=O1.fm i a ha
 refine C4 (d':=.lst true (ds++xs)) O1 e2 hv ha fP (by rw[aB];exact trivial) (bA.mpr ⟨a,_,rfl,aB,ha,?_⟩) (k.nx.after r1.drop Kp.refl) q1
 exact(ar.append (beside fz fm fP (fun b z=>z.2) hl) (beside fz fm fP (fun _ z=>z.elim) hlx) fun _ _ z=>z).mono fun b z=>z.elim id fun z=>z.elim
end VS
end
section
namespace L2
open PySem PySem.Spec PyProof.Rows
def Jx:R2:=fun x y H Q=>∃(z:Str) (n:Int),x=.str z/\y=.int n/\0<=n/\n<=1000/\z.length<=1000/\Q (.str (Txt.mul z n)) H
theorem Im{X:Cx}:jv X (binaryOp .Mult) Jx:=by
 intro pins s σ H x y v u Q I rx ry ⟨z,n,e1,e2,h0,h1,hz,q⟩
 subst e1 e2
 obtain⟨t,rfl⟩:=rx
 obtain⟨t',rfl⟩:=ry
 refine SB.mul (A:=X.A) ⟨?_,?_,?_⟩ fun t2 k=>⟨.str (Txt.mul z n),H,I.tok _,⟨_,rfl⟩,q⟩
 ·have a:¬n < -(2 ^ 63:Int):=by omega
  have b:¬n >= 2 ^ 63:=by omega
  rw[decide_eq_false a,decide_eq_false b];rfl
 ·intro h2 _ h3
  have h4:(2 ^ 63-1:Int) / 1000<=(2 ^ 63-1) / n:=by
   have:(0:Int)<n:=by omega
   rw[Int.le_ediv_iff_mul_le this]
   have:=Int.ediv_mul_le (2 ^ 63-1:Int) (show(1000:Int)≠0 by decide)
   calc (2 ^ 63-1:Int) / 1000 * n<=(2 ^ 63-1) / 1000 * 1000:=Int.mul_le_mul_of_nonneg_left h1 (by decide)
    _<=_:=this
  have h5:(2 ^ 63-1:Int) / 1000=9223372036854775:=by decide
  omega
 ·intro _ _
  have:z.length * n.toNat<=1000 * 1000:=Nat.mul_le_mul hz (by omega)
  exact decide_eq_false (Nat.not_lt.mpr (Nat.le_trans this (by decide)))
end L2
namespace VS
open PySem L2
def FE:D->D->(D->Prop)->Prop
 | .str x,.int n,P=>0<=n/\n<=1000/\x.length<=1000/\P (.str (Txt.mul x n))
 |_,_,_=>False
theorem IY:iU Jx FE:=by
 intro Z H d1 d2 v1 v2 F1 F2 P R h1 h2 hf k
 cases d1<;>try exact hf.elim
 cases d2<;>try exact hf.elim
 rw[a_] at h2;rw[dX] at h1
 exact⟨_,_,h1,h2,hf.1,hf.2.1,hf.2.2.1,k _ _ _ _ hf.2.2.2 (jb.refl (dX.mpr rfl))⟩
def uU:D->D->(D->Prop)->Prop
 | .str x,.str y,P=>x.length+y.length<=1000000/\P (.str (x++y))
 |_,_,_=>False
theorem wo:iU (fun x y H Q=>∃i j:Str,x=.str i/\y=.str j/\i.length+j.length<=sizeLine/\Q (.str (i++j)) H) uU:=by
 intro Z H d1 d2 v1 v2 F1 F2 P R h1 h2 hf k
 cases d1<;>try exact hf.elim
 cases d2<;>try exact hf.elim
 rw[dX] at h1 h2
 exact⟨_,_,h1,h2,Nat.le_of_lt (fo hf.1),k _ _ _ _ hf.2 (jb.refl (dX.mpr rfl))⟩
theorem jb.lst{Z:Set}{H H':Hp}{ds:List D}{vs:List V}{p:Addr}(hn:H p=none)(hs:ck H H')(hp:H' p=some (.lst vs))(ho:ar Z H ds vs cx):jb Z H H' (.lst true ds) (.ref p) (fun a=>a=p):=
 ⟨hs,bA.mpr ⟨p,vs,rfl,hp,rfl,(ho.grow hs).mono fun _ z=>z.elim⟩,fun a z=>by subst z;exact⟨hn,by rw[hp];exact trivial⟩⟩
def CJ:D->D->(D->Prop)->Prop
 | .lst true xs,.lst true ys,P=>a9 xs=true/\a9 ys=true/\xs.length+ys.length<=1000000/\P (.lst true (xs++ys))
 |_,_,_=>False
theorem wm:iU Jy CJ:=by
 intro Z H d1 d2 v1 v2 F1 F2 P R h1 h2 hf k
 cases d1<;>try exact hf.elim
 rename_i o1 xs
 cases d2<;>try (cases o1<;>exact hf.elim)
 rename_i o2 ys
 cases o1<;>cases o2<;>try exact hf.elim
 obtain⟨b1,b2,hz,p⟩:=hf
 obtain⟨a,vs,rfl,hr,ha,hl⟩:=bA.mp h1
 obtain⟨b,ws,rfl,TB,hb,IX⟩:=bA.mp h2
 refine⟨a,b,vs,ws,rfl,rfl,hr,TB,by rw[hl.length,IX.length];exact hz,fun q H2 hn hs hq=>?_⟩
 exact k _ _ _ _ p (jb.lst hn hs hq ((ar.append (hl.bare xs b1) (IX.bare ys b2) fun _ z=>z.elim).mono fun _ z=>z.elim id id))
def eQ{α:Type}(xs:List α)(lo hi:Option Int):List α:=(xs.drop (HT.e8 xs.length 0 lo)).take (HT.e8 xs.length xs.length hi-HT.e8 xs.length 0 lo)
abbrev UO:=ai->(Option Int->ai->Prop)->Prop
def wK(t:TO)(u:UO):Prop:=∀(σ:St) (env:ai) (Z:Set) (H:Hp) (φ:Nat->Set) (Q:Option Int->ai->Prop) (R:Option Int->Hp->Prop),Ok Z H env σ φ->u env Q ->
 (∀o bQ Z' H' cN,Q o bQ->Ok Z' H' bQ σ cN->Res Z H (cT φ) Z' H' (cT cN) cx->R o H')->t σ H R
def ip:UO:=fun env Q=>Q none env
def mQ(u:UB):UO:=fun env Q=>u env fun r e=>∃i,r=.a8 (.int i)/\Q (some i) e
theorem y4:wK Ap ip:=fun σ env Z H φ Q R O q k=>k none env Z H φ q O Res.refl
theorem DG{t:TE}{u:UB}(h:aZ t u):wK (Jm t) (mQ u):=fun σ env Z H φ Q R O q k=>
 h σ env Z H φ _ _ O q fun r aK v Z1 H1 bE G ⟨i,e,q1⟩ O1 r1 ok=>⟨i,by subst e;exact a_.mp (show Own Z1 H1 (.int i) v G from ok),k (some i) aK Z1 H1 bE q1 O1 r1.drop⟩
def NV(ua:UB)(ul uh:UO):UB:=fun env Q=>ua env fun r e1=>ul e1 fun lo e2=>uh e2 fun hi e3=>∃o ds,r.at e3=some (.lst o ds)/\a9 ds=true/\Q (.a8 (.lst true (eQ ds lo hi))) e3
theorem Kw{K:PySem.W.Frag}{t:TE}{u:UB}{tl th:TO}{ul uh:UO}(h:aZ t u)(hl:wK tl ul)(hh:wK th uh):aZ (Q8 (KY K) t tl th) (NV u ul uh):=by
 intro σ env Z H φ Q R O q k
 refine h σ env Z H φ _ _ O q fun x1 aK v1 Z1 H1 bE G1 q1 O1 r1 jc=>?_
 refine hl σ aK Z1 H1 bE _ _ O1 q1 fun lo gB Z2 H2 hX q2 O2 r2=>?_
 refine hh σ gB Z2 H2 hX _ _ O2 q2 fun hi tV Z3 H3 yH ⟨o,ds,ea,hb,q3⟩ O3 r3=>?_
 obtain⟨AF,_⟩:=r1.seq r2
 have qc:=(jc.keep O1 r2 r1.d)
 have AS:=qc.keep O2 r3 fun a z y=>AF.d a z (.inl y)
 obtain⟨F,ho⟩:=dW O3 AS ea
 obtain⟨a,vs,rfl,hr,CA⟩:=fO ho
 refine⟨a,vs,rfl,.inl hr,fun p H4 hn hs hp=>?_⟩
 have hc:ar Z3 H3 (eQ ds lo hi) (kU vs lo hi) cx:=by
  unfold eQ kU
  rw[CA.length]
  exact((CA.bare ds hb).drop _).take _
 have n:=jb.lst hn hs hp hc
 exact k (.a8 _) tV _ Z3 H4 yH _ q3 (O3.grow hs) (n.res O3 (AF.drop.trans r3)) n.own
def ly:List D->(D->Prop)->Prop
 | [.lst _ ds],P=>a9 ds=true/\P (.lst true ds)
 | [.tup ds],P=>a9 ds=true/\P (.lst true ds)
 |_,_=>False
theorem CH{K:PySem.W.Frag}:Nw (fun xs H Q=>∃p ys,xs=[V.ref p]/\(ju K H p ys\/pA K H p ys)/\∀l,H l=none->Q (.ref l) (upd H l (.lst ys))) ly:=by
 intro Z H ds vs P R s f k
 cases s with
 |nil=>exact f.elim
 |cons h t=>
  obtain⟨F,h⟩:=h
  cases t with
  |cons h2 t2=>rename_i d _ _ _ _ _;cases d<;>exact f.elim
  |nil=>
   rename_i d v
   cases d<;>try exact f.elim
   ·obtain⟨a,vs,rfl,hr,hl⟩:=de.mp h
    exact⟨a,vs,rfl,.inr (.inl (.inl hr)),fun l hn=>k _ _ _ _ f.2 (jb.lst hn (ck.upd hn) aB (hl.bare _ f.1))⟩
   ·obtain⟨a,vs,rfl,hr,hl⟩:=fO h
    exact⟨a,vs,rfl,.inl (.inl hr),fun l hn=>k _ _ _ _ f.2 (jb.lst hn (ck.upd hn) aB (hl.bare _ f.1))⟩
def flat:D->Bool
 | .bH=>true | .bl _=>true | .int _=>true | .str _=>true|_=>false
def pf:D->D->Bool
 | .bH,.bH=>true
 | .bl a,.bl b=>a==b
 | .bl a,.int b=>(if a then 1 else 0)==b
 | .int a,.bl b=>a==(if b then 1 else 0)
 | .int a,.int b=>a==b
 | .str a,.str b=>a==b
 |_,_=>false
def flV:D->V
 | .bH=>.bH | .bl b=>.bl b | .int i=>.int i | .str x=>.str x|_=>.bH
theorem nC{Z:Set}{H:Hp}{d:D}{v:V}{F:Set}(h:Own Z H d v F)(e:flat d=true):lY v=true/\v=flV d:=by
 cases d<;>simp only[flat,Bool.false_eq_true] at e
 ·rw[lh.mp h];exact⟨rfl,rfl⟩
 ·rw[dh.mp h];exact⟨rfl,rfl⟩
 ·rw[a_.mp h];exact⟨rfl,rfl⟩
 ·rw[dX.mp h];exact⟨rfl,rfl⟩
theorem Jb{Z:Set}{H:Hp}{d e:D}{v w:V}{F G:Set}(h:Own Z H d v F)(h':Own Z H e w G)(fd:flat d=true)(fe:flat e=true):Gq v w=pf d e:=by
 rw[(nC h fd).2,(nC h' fe).2]
 cases d<;>(try (simp[flat] at fd;done))<;>cases e<;>first|rfl|(simp[flat] at fe;done)
theorem zI{Z:Set}{H:Hp}{d:D}{v:V}{F:Set}(h:Own Z H d v F)(fd:flat d=true):∀{ds:List D}{vs:List V}{G:Set},ar Z H ds vs G->ds.all flat=true->vs.all lY=true/\Ro v vs=ds.any fun x=>pf x d
 | [],vs,G,hl,_=>by rw[ba.mp hl];exact⟨rfl,rfl⟩
 |e::ds,vs,G,hl,fl=>by
  obtain⟨w,r,F1,F2,rfl,h1,h3,s1,s2,dj⟩:=aF.mp hl
  rw[List.all_cons,Bool.and_eq_true] at fl
  obtain⟨i1,i2⟩:=zI h fd h3 fl.2
  refine⟨by rw[List.all_cons,(nC h1 fl.1).1,i1];rfl,?_⟩
  show(Gq w v||Ro v r)=_
  rw[List.any_cons,i2,Jb h1 h fl.1 fd]
def I_(neg:Bool):D->D->(D->Prop)->Prop
 |d,.lst _ ds,P=>flat d=true/\ds.all flat=true/\P (.bl (if neg then !(ds.any fun x=>pf x d) else ds.any fun x=>pf x d))
 |d,.tup ds,P=>flat d=true/\ds.all flat=true/\P (.bl (if neg then !(ds.any fun x=>pf x d) else ds.any fun x=>pf x d))
 |_,_,_=>False
theorem uT{K:PySem.W.Frag}{neg:Bool}:iU (SH K neg) (I_ neg):=by
 intro Z H d1 d2 v1 v2 F1 F2 P R h1 h2 hf k
 cases d2<;>try exact hf.elim
 ·obtain⟨f1,f2,p⟩:=hf
  obtain⟨a,vs,rfl,hr,hl⟩:=de.mp h2
  obtain⟨i1,i2⟩:=zI h1 f1 hl f2
  refine⟨a,vs,rfl,.inr (.inl (.inl hr)),(nC h1 f1).1,i1,?_⟩
  rw[i2]
  exact k _ _ _ _ p (jb.refl (dh.mpr rfl))
 ·obtain⟨f1,f2,p⟩:=hf
  obtain⟨a,vs,rfl,hr,hl⟩:=fO h2
  obtain⟨i1,i2⟩:=zI h1 f1 hl f2
  refine⟨a,vs,rfl,.inl (.inl hr),(nC h1 f1).1,i1,?_⟩
  rw[i2]
  exact k _ _ _ _ p (jb.refl (dh.mpr rfl))
def PJ:List D->(D->Prop)->Prop
 | [.int i],P=>P (.int i)
 | [.bl b],P=>P (.int (if b then 1 else 0))
 |_,_=>False
def xc(t:Bool):UB:=fun env Q=>Q (.a8 (.cB true t [] [])) env
theorem BX:aZ Dx (xc false):=fun σ env Z H φ Q R O q k=>fun p hn=>by
 have n:jb Z H (upd H p (.dK [])) (.cB true false [] []) (.ref p) (fun a=>a=p):=⟨ck.upd hn,c9.mpr ⟨p,[],_,rfl,aB,⟨[],rfl,rfl,by simp,rfl⟩,rfl,ba.mpr rfl⟩,fun a z=>by subst z;exact⟨hn,by rw[aB];exact trivial⟩⟩
 exact k (.a8 _) env _ Z _ φ _ q (O.grow n.same) (n.res O Res.refl) n.own
end VS
end
section
namespace VS
open PySem L2
section
variable {Z:Set}{H H':Hp}{env:ai}{σ:St}{φ:Nat->Set}{p:Addr}
theorem Ok.fP(O:Ok Z H env σ φ)(np:¬cT φ p)(nz:¬Z p)(hp:mJ (H p))(fP:∀b,b≠p->H' b=H b):Ok Z H' env σ φ:=by
 refine⟨fun i d e=>let ⟨w,hw,h⟩:=O.own i d e;⟨w,hw,nJ nz hp fP (fun b z y=>np ⟨i,by rw[<-y];exact z⟩) h⟩,O.dj,O.fz,fun i a h=>?_,fun a z=>?_,O.len⟩
 ·rw[fP a fun y=>np ⟨i,by rw[<-y];exact h⟩];exact O.fm i a h
 ·rw[fP a fun y=>nz (by rw[<-y];exact z)];exact O.zh a z
theorem Res.atG{Z0:Set}{H0:Hp}{F0 F2 G G':Set}(r:Res Z0 H0 F0 Z H F2 G)(gp:G p)(fP:∀b,b≠p->H' b=H b)(hm:mJ (H' p))(hG:∀a,G' a->G a):Res Z0 H0 F0 Z H' F2 G':=by
 refine⟨r.z,r.zn,fun a o e n=>?_,r.f,fun a z=>r.g a (hG a z),fun a z y=>r.d a z (hG a y),fun a z=>r.gz a (hG a z),fun a z=>?_⟩
 ·have:a≠p:=fun y=>by
   rcases r.g a (by rw[y];exact gp) with z|z
   ·exact n z
   ·rw[z] at e;cases e
  rw[fP a this];exact r.k a o e n
 ·by_cases y:a=p
  ·rw[y];exact hm
  ·rw[fP a y];exact r.gm a (hG a z)
end
def oh(uk uv:UB):UB:=fun env Q=>uk env fun r1 e1=>uv e1 fun r2 e2=>∃kd k d,r1=.a8 kd/\D_ kd=some k/\r2=.a8 d/\Q (.a8 (.cB true false [.s k] [d])) e2
theorem BY{tk tv:TE}{uk uv:UB}(hk:aZ tk uk)(hv:aZ tv uv):aZ (Js [(tk,tv)]) (oh uk uv):=by
 intro σ env Z H φ Q R O q k p hn
 have r0:Res Z H (cT φ) Z (upd H p (.dK [])) (cT φ) (fun a=>a=p):=⟨fun _ z=>z,fun _ z=>.inl z,fun a o e _=>ck.upd hn a o e,fun _ z=>.inl z,fun a z=>.inr (by rw[z];exact hn),fun a ⟨i,z⟩ y=>(O.fm i a z).ne (by rw[y];exact hn),fun a z y=>O.zh a y (by rw[z];exact hn),fun a z=>by rw[z,aB];exact trivial⟩
 refine hk σ env Z _ φ _ _ (O.grow (ck.upd hn)) q fun r1 aK v1 Z1 H1 bE G1 q1 O1 s1 jc=>?_
 refine hv σ aK Z1 H1 bE _ _ O1 q1 fun r2 gB v2 Z2 H2 hX G2 ⟨kd,kk,d,e1,ek,e2,q2⟩ O2 s2 qc=>?_
 subst e1 e2
 obtain⟨Wf,aci⟩:=r0.seq s1
 obtain⟨KP,PQ⟩:=Wf.seq s2
 have jc:Own Z1 H1 kd v1 G1:=jc
 have qc:Own Z2 H2 d v2 G2:=qc
 have gp:((fun a=>a=p\/G1 a) p\/G2 p):=.inl (.inl rfl)
 have np:¬cT hX p:=fun z=>KP.d p z gp
 have nz:¬Z2 p:=KP.gz p gp
 have h1:H1 p=some (.dK []):=s1.k p _ aB fun⟨i,z⟩=>(O.fm i p z).ne hn
 have h2:H2 p=some (.dK []):=s2.k p _ h1 fun z=>Wf.d p z (.inl rfl)
 have hm:mJ (H2 p):=by rw[h2];exact trivial
 refine⟨h2,[(kk,v2)],by rw[nh ek jc];rfl,by simp,?_⟩
 have fP:∀b,b≠p->upd H2 p (.dK (oT [] [(kk,v2)])) b=H2 b:=fun b n=>aE n
 have ng:¬G2 p:=PQ p (.inl rfl)
 refine k (.a8 _) gB (.ref p) Z2 _ hX (fun a=>G2 a\/a=p) q2 (O2.fP np nz hm fP) (KP.atG (p:=p) gp fP (by rw[aB];exact trivial) fun a z=>z.elim .inr fun z=>.inl (.inl z)) ?_
 show Own Z2 _ (.cB true false [.s kk] [d]) (.ref p) _
 refine c9.mpr ⟨p,[v2],_,rfl,aB,⟨[kk],rfl,rfl,by simp,rfl⟩,.inr rfl,?_⟩
 exact aF.mpr ⟨v2,[],G2,cx,rfl,nJ nz hm fP (fun b z y=>ng (by rw[<-y];exact z)) qc,ba.mpr rfl,fun a z=>⟨.inl z,fun y=>ng (by rw[<-y];exact z)⟩,fun _ z=>z.elim,fun _ _ z=>z⟩
def qv:List D->(D->Prop)->Prop
 | [.cB _ false ks ds],P=>a9 ds=true/\P (.cB true false ks ds)
 |_,_=>False
theorem CI:Nw (fun xs H Q=>∃a av,xs=[V.ref a]/\Rd H a (.dK av)/\∀q,H q=none->Q (.ref q) (upd H q (.dK av))) qv:=by
 intro Z H ds vs P R s f k
 cases s with
 |nil=>exact f.elim
 |cons h t=>
  obtain⟨F,h⟩:=h
  cases t with
  |cons h2 t2=>
   rename_i d _ _ _ _ _
   cases d<;>try exact f.elim
   rename_i t _ _
   cases t<;>exact f.elim
  |nil=>
   rename_i d v
   cases d<;>try exact f.elim
   rename_i o t ks ds
   cases t<;>try exact f.elim
   obtain⟨a,vs,u,rfl,hr,⟨kl,rfl,pK,yc,rfl⟩,hl⟩:=gi h
   refine⟨a,_,rfl,hr,fun q hn=>k _ _ _ (fun a=>a=q) f.2 ⟨ck.upd hn,c9.mpr ⟨q,vs,_,rfl,aB,⟨kl,rfl,pK,yc,rfl⟩,rfl,((hl.bare _ f.1).grow (ck.upd hn)).mono fun _ z=>z.elim⟩,fun b z=>by subst z;exact⟨hn,by rw[aB];exact trivial⟩⟩⟩
structure qi(t:Bool) where
 ks:List DK
 ds:List D
instance {t:Bool}:Acc (qi t):=⟨(·.ds),fun a u vs=>DictAt t u a.ks vs,fun{a u vs} h=>by
 cases t with
 |false=>obtain⟨_,_,_,_,rfl⟩:=h;exact trivial
 |true=>obtain⟨_,_,_,_,rfl⟩:=h;exact trivial⟩
theorem uW{α β:Type}{k:DK}{x:α}{y:β}:∀{ks:List DK}{ds:List α}{vs:List β},ks.length=ds.length->ks.length=vs.length->(dput ks ds k x).1=(dput ks vs k y).1
 | [],ds,vs,h,h'=>by cases ds<;>cases vs<;>simp[dput] at h h' ⊢
 |_::_,[],vs,h,h'=>by simp at h
 |_::_,_::_,[],h,h'=>by simp at h'
 |k'::ks,d::ds,v::vs,h,h'=>by
  unfold dput
  by_cases e:k'=k
  ·rw[if_pos e,if_pos e]
  ·rw[if_neg e,if_neg e]
   simp only[uW (ks:=ks) (ds:=ds) (vs:=vs) (x:=x) (y:=y) (by simpa using h) (by simpa using h')]
def kR{t:Bool}(uk uv:UB):UL (qi t):=fun acc e k=>uk e fun r1 e1=>uv e1 fun r2 e2=>∃kd kk d,r1=.a8 kd/\keyOf t kd=some kk/\r2=.a8 d/\acc.ds.length<=1000000/\k ⟨(dput acc.ks acc.ds kk d).1,(dput acc.ks acc.ds kk d).2⟩ e2
theorem BW{t:Bool}{I:Nat->Bool}{p:Addr}{tk tv:TE}{uk uv:UB}(hk:aZ tk uk)(hv:aZ tv uv):nZ I p (Dv tk tv p) (kR (t:=t) uk uv):=by
 intro Z1 H1 F1 sQ acc e τ H Z φ A vs k K c q kk
 refine hk τ e Z H φ _ _ c.ok q fun r1 e1 y Z3 H3 yH G3 q3 O3 s3 AS=>?_
 refine hv τ e1 Z3 H3 yH _ _ O3 q3 fun r2 e4 v Z4 H4 Gx G4 ⟨kd,key,d,er1,ek,UD,hz,q4⟩ O4 s4 Ox=>?_
 subst er1 UD
 have AS:Own Z3 H3 kd y G3:=AS
 have Ox:Own Z4 H4 d v G4:=Ox
 have hy:=s4.keep O3 s3.d AS
 obtain⟨s34,_⟩:=s3.seq s4
 obtain⟨u,hu,lM⟩:=c.at_
 have c4:CS I Z1 H1 F1 sQ p acc e1 τ H3 Z3 yH A vs:=c.next O3 s3.drop Kp.refl
 obtain⟨u3,To,yg⟩:=c4.at_
 have O9:H4 p=some u3:=s4.k p _ To fun z=>c4.res.d p z (.inr rfl)
 have hlen:vs.length<=1000000:=by rw[c4.own.length];exact hz
 obtain⟨u',hp,qt,hm⟩:=r9 (x:=v) O9 yg ek hy hlen
 refine⟨_,hp,?_⟩
 have fP:∀b,b≠p->upd H4 p u' b=H4 b:=fun b n=>aE n
 have q:=(c4.res.seq s4).1
 refine kk _ e4 τ _ Z4 Gx _ _ q4 (c4.emit (acc2:=⟨(dput acc.ks acc.ds key d).1,(dput acc.ks acc.ds key d).2⟩) O4 s4 Ox fP aB (vs2:=(dput acc.ks vs key v).2) ?_ ?_) ((s3.CV c.ok).trans (c4.CV (s4.CV O3) (fun z=>q.gz p (.inl (.inr rfl)) z) (fun kf z=>by rw[O9] at z;cases z;exact Acc.Rn (a:=acc) yg) fP))
 ·show DictAt t u' (dput acc.ks acc.ds key d).1 _
  rw[uW (by rw[iN yg,c4.own.length]<;>rfl) (iN yg) (y:=v)]
  exact qt
 ·intro A' G' hA hG dj
  exact(ar.dput (by rw[iN yg,c4.own.length]<;>rfl) hA hG dj).1
def oi(t:Bool)(n:Nat)(ui:UI)(ug:UG)(ut:UT)(ul:UL (qi t)):UB:=fun env Q=>ui env fun items e=>eD ug ut ul (fun acc e'=>Q (.a8 (.cB true t acc.ks acc.ds)) (e'.drop n)) items ⟨[],[]⟩ (List.replicate n none++e)
theorem B0{t:Bool}{X:Cx}{sc:Scope}{N:List Str}{tg:Expr}{ifs:List Expr}{inner:Value->PySem.Env->Sem Unit}{n:Nat}{wi:TI}{ui:UI}{ug:UG}{ut:UT}{ul:UL (qi t)}(hi:tX wi ui)(hb:∀C s H0 fp pins p,∃g tt tl,PG (dE X sc N C s H0 fp pins) tg g/\C3 (dE X sc N C s H0 fp pins) ifs tt/\PN (dE X sc N C s H0 fp pins) (inner (.ref p) (dE X sc N C s H0 fp pins).env) tl/\j0 (outs n) g ug/\hU tt ut/\nZ (outs n) p tl ul):aZ (jA X sc N tg ifs inner (d0 t) n wi) (oi t n ui ug ut ul):=
 uu (acc0:=(⟨[],[]⟩:qi t)) rfl (by cases t<;>exact⟨[],rfl,rfl,by simp,rfl⟩) (fun acc=>.cB true t acc.ks acc.ds) (fun{acc u vs Z H A p} hu ha ho np=>
  c9.mpr ⟨p,vs,u,rfl,hu,ha,.inr rfl,ho.mono fun a z=>⟨.inl z,fun y=>np (by rw[<-y];exact z)⟩⟩) hi hb
end VS
end
section
namespace L2
open PySem PySem.Spec PyProof.Rows
theorem rp{α β:Type}{F:α->β->Prop}:∀{E1:List α}{EZ:List β}{i:Nat}{a:α}{b:β},Paired F E1 EZ->E1[i]? = some a->EZ[i]? = some b->F a b
 |_,_,_,_,_,.nil,e,_=>by simp at e
 |_,_,0,_,_,.cons h _,e,e'=>by simp at e e';subst e e';exact h
 |_,_,i+1,_,_,.cons _ t,e,e'=>rp (i:=i) t (by simpa using e) (by simpa using e')
def Vx(K:PySem.W.Frag)(a:Addr):It:=
 ⟨fun i H=>∃xs x,ju K H a xs/\xs[i]? = some x,fun i H x H'=>∃T y,x=.ref T/\H T=none/\H'=upd H T (.tup [.int i,y])/\∀xs,ju K H a xs->xs[i]? = some y,fun i H=>∃xs,ju K H a xs/\xs.length<=i⟩
theorem BB{P:Program}{w:World}{K:PySem.W.Frag}{elts:List Expr}{kk:Nat}{pos:Pos}(a e it:Addr)(nu:e≠it):Turn P w K (.Tuple elts kk pos) (Vx K a) [e,it] e (fun i h=>(∃old,IsEnum h e it i old)/\h.IsListIter it a i) where
 mem:=by simp
 obj:=fun i h st b hb=>by
  obtain⟨⟨old,he⟩,o,ho,c,d⟩:=st
  have hb:b=e\/b=it:=by simpa using hb
  rcases hb with rfl|rfl
  ·exact⟨_,he,fun v z=>by cases z⟩
  ·exact⟨o,ho,fun v z=>by rw[d] at z;cases z⟩
 keep:=fun i h h' st k=>⟨let ⟨old,he⟩:=st.1;⟨old,k e (by simp) _ he⟩,st.2.at fun o q=>k it (by simp) o q⟩
 item:=by
  intro X hP hw hK hc i pins s σ H E I hf st hg
  subst hP hw hK
  obtain⟨xs,x,hq,hx⟩:=hg
  obtain⟨its,rv,p,hz⟩:=I.list hq
  obtain⟨u,hu,ru⟩:=rv.get hx
  obtain⟨⟨old,he⟩,hit⟩:=st
  obtain⟨e0,e1,e2,e3,e4,e5⟩:=hf e (by simp)
  obtain⟨f0,f1,f2,f3,f4,f5⟩:=hf it (by simp)
  have W3:e<s.heap.objs.size:=Heap.lt_size he
  have Nk:it<s.heap.objs.size:=by obtain⟨_,q,_⟩:=hit;exact Heap.lt_size q
  refine wpAny_pyNext_enum_item he hit p.isList (x:=u) (by simpa using hu) nu fun h1 ho T3 hT hsz hk=>?_
  refine⟨_,rfl,wpAny_letOwnedTupleGo_enum ho fun h2 he2 OY=>?_⟩
  have Me:∀b o,b≠e->b≠it->s.heap.get? b=some o->h2.get? b=some o:=fun b o n1 n2 q=>(OY.2 b n1).trans (hk b o n1 n2 q)
  have hn:H s.heap.objs.size=none:=I.cg.fresh (Nat.le_refl _)
  have hT2:h2.get? s.heap.objs.size=some {cls:=.type "tuple",data:=.seq #[.int i s.toks,u]}:=(OY.2 _ (Nat.ne_of_gt W3)).trans hT
  have Wn:∀b ob,H b=some ob->b≠e/\b≠it:=fun b ob q=>⟨fun z=>(by rw[z,e0] at q;cases q),fun z=>(by rw[z,f0] at q;cases q)⟩
  have cg:l4 X.prog X.w (upd H s.heap.objs.size (.tup [.int i,x])) h2:=fun b ob q=>by
   by_cases hb:b=s.heap.objs.size
   ·subst hb
    rw[aB] at q;cases q
    exact⟨by show 2<=sizeLine;decide,[.int i s.toks,u],.cons ⟨_,rfl⟩ (.cons ru .nil),_,hT2,rfl,_,rfl⟩
   ·rw[aE hb] at q
    refine(I.cg b ob q).xg (fun c v hc r=>?_) (fun c r=>by rw[aE (cP r hn)];exact r) fun c ys r=>by rw[aE (cP r hn)];exact r
    have:∃oc,H c=some oc:=hc.elim (fun z=>⟨ob,by rw[z];exact q⟩) fun z=>⟨_,z⟩
    obtain⟨oc,Fl⟩:=this
    exact Me c v (Wn c oc Fl).1 (Wn c oc Fl).2 r
  have I2:Inv X pins σ (upd H s.heap.objs.size (.tup [.int i,x])) {s with heap:=h2,toks:=s.toks+1}:=by
   have mem:∀b,b∉[e,it]->b≠e/\b≠it:=fun b hb=>⟨fun z=>hb (by simp[z]),fun z=>hb (by simp[z])⟩
   refine I.step (g':=s.gens) (d':=s.drawn) (ch:=[e,it]) (fun b hb=>?_) (fun b o _ _ hc q _=>Me b o (mem b hc).1 (mem b hc).2 q) (fun b o _ _ hc q _=>⟨o.slots,Me b o (mem b hc).1 (mem b hc).2 q⟩) (fun b o _ q n=>by rw[aE (Nat.ne_of_lt (Heap.lt_size q))];exact n)
    (fun b o hc q=>⟨o,Me b o (mem b hc).1 (mem b hc).2 q⟩) (fun b ys q=>by rw[aE (cP q hn)];exact q) (fun b o u q=>by rw[aE (cP q hn)];exact q) (fun b ps q=>⟨#[],by rw[aE (cP q hn),q];simp⟩) (fun m hm=>?_) cg I.bare
   ·have hb:b=e\/b=it:=by simpa using hb
    rcases hb with rfl|rfl
    ·exact⟨e3,e1,e4,e5⟩
    ·exact⟨f3,f1,f4,f5⟩
   ·obtain⟨o,es,ep,gH,r⟩:=hm
    exact⟨o,es,ep,Me _ o (Ne.symm e1) (Ne.symm f1) gH,r⟩
  refine⟨.ref s.heap.objs.size,_,I2,rfl,⟨_,x,rfl,hn,rfl,fun ys hy=>by rw[I.xY hy hq];exact hx⟩,⟨⟨u,by simpa using he2⟩,T3.at fun o q=>(OY.2 it (Ne.symm nu)).trans q⟩,fun b hb=>?_⟩
  have hb:b=e\/b=it:=by simpa using hb
  rcases hb with rfl|rfl
  ·rw[aE (Nat.ne_of_lt W3)];exact e0
  ·rw[aE (Nat.ne_of_lt Nk)];exact f0
 done:=by
  intro X hP hw hK hc i pins s σ H E I hf st hg
  subst hP hw hK
  obtain⟨xs,hq,hx⟩:=hg
  obtain⟨its,rv,p,hz⟩:=I.list hq
  obtain⟨⟨old,he⟩,hit⟩:=st
  obtain⟨f0,f1,f2,f3,f4,f5⟩:=hf it (by simp)
  have hl:=rv.length
  exact wpAny_pyNext_enum_end (I.ok.hd hc) he hit p.isList (by simp;omega) fun h' eb=>⟨rfl,I.turned (t':=s.toks) (fun b o hb q=>eb b o hb q) f0 f1 f3 f4 f5⟩
 self:=fun A i s Q E st h=>let ⟨⟨old,he⟩,_⟩:=st;wpAny_pyIter_enum he h
def JM(K:PySem.W.Frag)(ta:TA):TI:=fun σ H R=>ta σ H fun vs H1=>∃a,vs=[.ref a]/\(∃xs,ju K H1 a xs)/\R (Vx K a) H1
theorem HZ{X:Cx}{l:Expr}{ta:TA}{elts:List Expr}{kk:Nat}{yS p pos:Pos}(hg:Gl X "enumerate")(hm:X.mg "enumerate" = none)(ha:PA X [l] ta)(hs:starEach [l] X.env=[(false,eval l X.env)]:=by rfl):PI X (.Tuple elts kk yS) (.Call (.Name "enumerate" p) [l] [] pos) (JM X.K ta):=by
 intro pins s σ H R I h
 refine Call_ (rK I hg hm boot_enumerate (PyProof.Rows.callWith_type1 (cn (ha pos pins s σ H _ I h) fun us s1 ⟨vs,H1,I1,r1,q1⟩=>?_) hs rfl))
 obtain⟨a,e,⟨xs,hq⟩,q⟩:=q1
 subst e
 cases r1 with
 |cons r rr=>
  cases rr
  cases r
  obtain⟨its,rv,p,hz⟩:=I1.list hq
  refine call_enumerate_list p.isList fun h' he hit hsz hk=>?_
  refine wpAny_pyIter_enum he ⟨s1.heap.objs.size+1,[s1.heap.objs.size+1,s1.heap.objs.size],_,_,H1,rfl,I1.kept (t':=s1.toks) hk,BB a _ _ (Nat.ne_of_gt (Nat.lt_succ_self _)),⟨⟨_,he⟩,hit⟩,fun b hb=>?_,q⟩
  have hb:b=s1.heap.objs.size+1\/b=s1.heap.objs.size:=by simpa using hb
  rcases hb with rfl|rfl
  ·exact I1.CG (Nat.le_succ _) (I1.cg.fresh (Nat.le_succ _))
  ·exact I1.CG (Nat.le_refl _) (I1.cg.fresh (Nat.le_refl _))
def tY(X:Cx)(a:Addr):Prop:=∀o v,X.CQ a≠some (.aU o v)
theorem Inv.S4{X:Cx}{pins:List (Addr×Obj)}{σ:St}{H:Hp}{s:Shared}{a:Addr}{av:List (Key×V)}(I:Inv X pins σ H s)(e:H a=some (.dK av)):tY X a:=fun o v z=>by
 rw[I.base.mB a o v z] at e;cases e
theorem Inv.freeze{X:Cx}{pins:List (Addr×Obj)}{σ:St}{H:Hp}{s:Shared}{a:Addr}{av:List (Key×V)}(I:Inv X pins σ H s)(e:H a=some (.dK av)):∃ob,s.heap.get? a=some ob/\Inv X pins σ (upd H a (.aU ob (.dK av))) s:=by
 have x:=I.cg a _ e
 obtain⟨z,hd,vs,rel,o,es,ep,ho,r⟩:=id x
 refine⟨o,ho,?_⟩
 have nu:∀b u,H b=some u->u≠.dK av->b≠a:=fun b u q n z=>n (by rw[z,e] at q;exact(Option.some.inj q).symm)
 have cg:l4 X.prog X.w (upd H a (.aU o (.dK av))) s.heap:=fun b u q=>by
  have st:∀{c:Addr}{w:HO},ez X.prog X.w H s.heap c w->ez X.prog X.w (upd H a (.aU o (.dK av))) s.heap c w:=fun y=>y.xg (fun _ _ _ q=>q) (fun c q=>by rw[aE (nu c _ q (by intro z;cases z))];exact q) fun c ys q=>by rw[aE (nu c _ q (by intro z;cases z))];exact q
  by_cases hb:b=a
  ·subst hb;rw[aB] at q;cases q;exact⟨ho,st x⟩
  ·rw[aE hb] at q;exact st (I.cg b u q)
 have q:=I.un (h':=s.heap) (t':=s.toks) (H':=upd H a (.aU o (.dK av))) ⟨fun _ _ q _ _ _=>q,fun b ob q _ _ _=>⟨ob.slots,q⟩,fun b ob q n _=>by rw[aE fun z=>by rw[z,e] at n;cases n];exact n,fun b ob q _=>⟨ob,q⟩,fun b ys q=>by rw[aE (nu b _ q (by intro z;cases z))];exact q,fun b ob u q=>by rw[aE (nu b _ q (by intro z;cases z))];exact q,fun b ps q=>⟨#[],by rw[aE (nu b _ q (by intro z;cases z)),q];simp⟩⟩ cg
 exact q
theorem Inv.Sm{X:Cx}{pins:List (Addr×Obj)}{σ:St}{H:Hp}{s:Shared}{a:Addr}{ob:Obj}{av:List (Key×V)}(I:Inv X pins σ H s)(n:tY X a)(e:H a=some (.aU ob (.dK av))):Inv X pins σ (upd H a (.dK av)) s:=by
 have nu:∀b u,H b=some u->u≠.aU ob (.dK av)->b≠a:=fun b u q n z=>n (by rw[z,e] at q;exact(Option.some.inj q).symm)
 have nn:∀b,H b=none->b≠a:=fun b q z=>by rw[z,e] at q;cases q
 have st:∀{c:Addr}{w:HO},ez X.prog X.w H s.heap c w->ez X.prog X.w (upd H a (.dK av)) s.heap c w:=fun y=>y.xg (fun _ _ _ q=>q) (fun c q=>by rw[aE (nu c _ q (by intro z;cases z))];exact q) fun c ys q=>by rw[aE (nu c _ q (by intro z;cases z))];exact q
 have cg:l4 X.prog X.w (upd H a (.dK av)) s.heap:=fun b u q=>by
  by_cases hb:b=a
  ·subst hb;rw[aB] at q;cases q;exact st (I.cg b _ e).2
  ·rw[aE hb] at q;exact st (I.cg b u q)
 refine⟨I.ok,I.os,I.bare,⟨I.base.keep,I.base.slot,fun b o q n' hx=>?_,I.base.there,fun b ys q=>?_,fun b o u q=>?_,fun b ps q=>?_⟩,I.loc,I.cell,?_,fun x c q=>?_,fun p hp=>?_,cg,I.len⟩
 ·have:=I.base.free b o q n' hx
  rw[aE (nn b this)];exact this
 ·have:=I.base.om b ys q
  rw[aE (nu b _ this (by intro z;cases z))];exact this
 ·have h1:=I.base.mB b o u q
  have hb:b≠a:=fun z=>by rw[z] at q;exact n o u q
  rw[aE hb];exact h1
 ·obtain⟨more,h1⟩:=I.base.ou b ps q
  exact⟨more,by rw[aE (nu b _ h1 (by intro z;cases z))];exact h1⟩
 ·rw[aE (nn _ I.free)];exact I.free
 ·rw[aE (nn _ (I.j_ x c q))];exact I.j_ x c q
 ·obtain⟨h1,h2,h3,h4,h5⟩:=I.pin p hp
  exact⟨h1,by rw[aE (nn _ h2)];exact h2,h3,h4,h5⟩
def Gw(X:Cx)(H H':Hp):Prop:=∃a ob av,H a=some (.aU ob (.dK av))/\((H'=H)\/(tY X a/\H'=upd H a (.dK av)))
theorem Inv.Ko{X:Cx}{pins:List (Addr×Obj)}{σ:St}{H H':Hp}{s:Shared}(I:Inv X pins σ H s)(t:Gw X H H'):Inv X pins σ H' s:=by
 obtain⟨a,ob,av,e,h|⟨n,h⟩⟩:=t
 ·rw[h];exact I
 ·rw[h];exact I.Sm n e
def yT(X:Cx)(D:Ends):Ends:=⟨fun σ H=>∃H',Gw X H H'/\D.nx σ H',fun v H=>∃H',Gw X H H'/\D.rt v H',fun σ H=>∃H',Gw X H H'/\D.bk σ H',fun σ H=>∃H',Gw X H H'/\D.ct σ H'⟩
def Dt(X:Cx)(t:TS):TS:=fun D σ H=>t (yT X D) σ H
def V4(X:Cx)(t:TE):TE:=fun σ H Q=>t σ H fun v H1=>∃H2,Gw X H1 H2/\Q v H2
theorem Er{X:Cx}{st:Stmt}{t:TS}(h:PS X st t):PS X st (Dt X t):=by
 intro pins s σ H D I q
 refine cn (h pins s σ H _ I q) fun f s' hs=>?_
 cases f with
 |next=>obtain⟨bR,H',I',H2,t,q⟩:=hs;exact⟨bR,H2,I'.Ko t,q⟩
 |brk=>obtain⟨bR,H',I',H2,t,q⟩:=hs;exact⟨bR,H2,I'.Ko t,q⟩
 |cont=>obtain⟨bR,H',I',H2,t,q⟩:=hs;exact⟨bR,H2,I'.Ko t,q⟩
 |ret u=>obtain⟨v,bR,H',I',r,H2,t,q⟩:=hs;exact⟨v,bR,H2,I'.Ko t,r,q⟩
def Ji(a:Addr)(ob:Obj)(av:List (Key×V)):It:=⟨fun i H=>H a=some (.aU ob (.dK av))/\i<av.length,fun i H x H'=>H'=H/\∃kv,av[i]? = some kv/\x=kV kv.1,fun i H=>H a=some (.aU ob (.dK av))/\av.length<=i⟩
theorem OJ{k:Key}{v:Value}(h:pI k v=true):RelV (kV k) v:=by
 rcases cK h with⟨i,t,rfl,rfl⟩|⟨x,t,rfl,rfl⟩<;>exact⟨_,rfl⟩
theorem lz{P:Program}{w:World}{h:Heap}{a:Addr}{ob:Obj}{es:Array DictEntry}{ep:Nat}{vs:List (Key×Value)}(ho:h.get? a=some ob)(hd:ob.data=.dict es ep)(d:h.DictOf (br P w) a vs):h.DictAt (br P w) a vs ep:=by
 obtain⟨o,qh,JW,h1,h2,h3,r⟩:=d
 rw[ho] at h1;cases h1
 rw[hd] at h3;cases h3
 exact⟨ob,es,ho,h2,hd,r⟩
theorem BC{P:Program}{w:World}{K:PySem.W.Frag}{tg:Expr}(a it:Addr){ob:Obj}{es:Array DictEntry}{ep:Nat}(hd:ob.data=.dict es ep)(av:List (Key×V)):Turn P w K tg (Ji a ob av) [it] it (fun i h=>h.IsKeyIter it a i av.length ep) where
 mem:=by simp
 obj:=fun i h st b hb=>by
  have e:b=it:=by simpa using hb
  subst e
  obtain⟨o,e,c,d⟩:=st
  exact⟨o,e,fun v z=>by rw[d] at z;cases z⟩
 keep:=fun i h h' st k=>st.at fun o e=>k it (by simp) o e
 item:=by
  intro X hP hw hK hc i pins s σ H E I hf st ⟨hH,hi⟩
  subst hP hw hK
  obtain⟨f0,f1,f2,f3,f4,f5⟩:=hf it (by simp)
  obtain⟨ho,hz,hs,vs,rel,dd⟩:=I.cg a _ hH
  have mI:=lz ho hd dd
  have hl:av.length=vs.length:=Paired.length rel
  obtain⟨⟨k,v⟩,RF⟩:∃p,vs[i]? = some p:=⟨vs[i]'(by omega),List.getElem?_eq_getElem (by omega)⟩
  obtain⟨⟨k',x⟩,WU⟩:∃p,av[i]? = some p:=⟨av[i],List.getElem?_eq_getElem hi⟩
  have ek:k'=k:=(rp rel WU RF).1
  subst ek
  refine wpAny_pyNext_dict_item (by rw[<-hl];exact st) mI RF fun key h' CB Pl IU=>?_
  have I1:Inv X pins σ H {s with heap:=h'}:=I.turned (t':=s.toks) (fun b o hb e=>(IU.2 b hb).trans e) f0 f1 f3 f4 f5
  obtain⟨o,e,c,d⟩:=id Pl
  exact⟨key,rfl,A5 (s:={s with heap:=h'}) e c d (by decide) ⟨kV k',H,I1,OJ CB,⟨rfl,_,WU,rfl⟩,by rw[hl];exact Pl,fun b hb=>(hf b hb).1⟩⟩
 done:=by
  intro X hP hw hK hc i pins s σ H E I hf st ⟨hH,hi⟩
  subst hP hw hK
  obtain⟨f0,f1,f2,f3,f4,f5⟩:=hf it (by simp)
  obtain⟨ho,hz,hs,vs,rel,dd⟩:=I.cg a _ hH
  have mI:=lz ho hd dd
  have hl:av.length=vs.length:=Paired.length rel
  exact wpAny_pyNext_dict_end (I.ok.hd hc) (by rw[<-hl];exact st) mI (by simp;omega) fun h' eb=>⟨rfl,I.turned (t':=s.toks) (fun b o hb e=>eb b o hb e) f0 f1 f3 f4 f5⟩
 self:=fun _ _ _ _ _ st h=>wpAny_pyIter_keyiter st h
def rS(X:Cx)(td:TE):TI:=fun σ H R=>td σ H fun x H1=>∃a av,x=.ref a/\Rd H1 a (.dK av)/\∀ob H2,(∀b,b≠a->H2 b=H1 b)->H2 a=some (.aU ob (.dK av))->((H1 a=some (.dK av)/\tY X a)\/H2=H1)->R (Ji a ob av) H2
theorem vR{X:Cx}{tg l:Expr}{td:TE}(hl:PE X l td):PI X tg l (rS X td):=by
 intro pins s σ H R I h
 refine cn (hl pins s σ H _ I h) fun v s1 ⟨x,H1,I1,r1,a,av,e,hr,q⟩=>?_
 subst e
 cases r1
 have fz:∃ob H2,Inv X pins σ H2 s1/\(∀b,b≠a->H2 b=H1 b)/\H2 a=some (.aU ob (.dK av))/\((H1 a=some (.dK av)/\tY X a)\/H2=H1):=by
  rcases hr with hr|⟨o,hr⟩
  ·obtain⟨ob,_,I2⟩:=I1.freeze hr
   exact⟨ob,_,I2,fun b n=>aE n,aB,.inl ⟨hr,I1.S4 hr⟩⟩
  ·exact⟨o,H1,I1,fun _ _=>rfl,hr,.inr rfl⟩
 obtain⟨ob,H2,I2,hb,ha,hc⟩:=fz
 obtain⟨ho,hz,hs,vs,rel,dd⟩:=I2.cg a _ ha
 obtain⟨o',es,ep,h1,h2,h3,r⟩:=id dd
 rw[ho] at h1;cases h1
 have mI:=lz ho h3 dd
 have hl:av.length=vs.length:=Paired.length rel
 refine wpAny_pyIter_dict hs mI ⟨s1.heap.objs.size,[s1.heap.objs.size],_,_,H2,rfl,I2.kept (t':=s1.toks) fun b o e=>Heap.get?_push_of_some _ e,BC a _ h3 av,⟨_,Heap.get?_push_size _ rfl,rfl,by rw[hl];rfl⟩,fun b hb=>?_,q ob H2 hb ha hc⟩
 have e:b=s1.heap.objs.size:=by simpa using hb
 subst e
 exact I2.CG (Nat.le_refl _) (I2.cg.fresh (Nat.le_refl _))
end L2
end
section
namespace VS
open PySem L2
def cu:Nat->List D->List D
 |_,[]=>[]
 |i,d::ds=>.tup [.int i,d]::cu (i+1) ds
theorem rn:∀{ds:List D}{n i:Nat}{x:D},(cu n ds)[i]? = some x->∃d,ds[i]? = some d/\x=.tup [.int ((n+i:Nat):Int),d]
 | [],n,i,x,h=>by simp[cu] at h
 |d::ds,n,0,x,h=>by simp[cu] at h;exact⟨d,rfl,by rw[<-h];rfl⟩
 |d::ds,n,i+1,x,h=>by
  obtain⟨d',h1,h2⟩:=rn (ds:=ds) (n:=n+1) (i:=i) (by simpa[cu] using h)
  exact⟨d',by simpa using h1,by rw[h2];congr 3;omega⟩
theorem rm:∀{ds:List D}{n:Nat},(cu n ds).length=ds.length
 | [],n=>rfl
 |d::ds,n=>by simp[cu,rm]
theorem t6{K:PySem.W.Frag}{Z:Set}{H:Hp}{a:Addr}{vs:List V}{items:List D}(hr:Rd H a (.lst vs))(hz:Z a)(hl:ar Z H items vs cx):Walk (Vx K a) Z H (cu 0 items) where
 stop:=fun Z2 H2 r=>⟨vs,.inl (Rd.up (fun o e=>r.k a o e hz) hr),by rw[rm];exact Nat.le_of_eq hl.length⟩
 go:=fun i d Z2 H2 e r=>by
  have O6:Rd H2 a (.lst vs):=Rd.up (fun o e=>r.k a o e hz) hr
  obtain⟨d',e',rfl⟩:=rn e
  obtain⟨v,ev,ho⟩:=(r.Lm hl).get e'
  refine⟨⟨vs,v,.inl O6,ev⟩,fun x H3 ⟨T,y,ex,hn,e3,hx⟩=>?_⟩
  subst ex e3
  have:=hx vs (.inl O6)
  rw[ev] at this;cases this
  have hs:ck H2 (upd H2 T (.tup [.int i,v])):=ck.upd hn
  refine⟨hs,de.mpr ⟨T,_,rfl,aB,aF.mpr ⟨_,_,cx,cx,rfl,a_.mpr (by rw[Nat.zero_add]),aF.mpr ⟨_,_,cx,cx,rfl,ho.grow hs,ba.mpr rfl,fun _ z=>z,fun _ z=>z,fun _ z _=>z⟩,fun _ z=>z,fun _ z=>z,fun _ z _=>z⟩⟩⟩
def pF(f:ai->Ref->Option (List D))(ua:UB):UI:=fun env Q=>ua env fun r e=>∃ds,f e r=some ds/\Q (cu 0 ds) e
theorem DR{K:PySem.W.Frag}{t:TE}{u:UB}(h:aZ t u):tX (JM K (lT t xf)) (pF bt u):=by
 intro σ env Z H φ Q R O q k
 refine h σ env Z H φ _ _ O q fun r aK v Z1 H1 bE G ⟨ds,e,q1⟩ O1 r1 ok=>?_
 cases r with
 |a8 d=>
  cases d<;>simp only[bt,reduceCtorEq,Option.some.injEq] at e
  subst e
  rename_i o ds _
  have ho:Own Z1 H1 (.lst o ds) v G:=ok
  have hf:=ho.aU
  simp only[aU] at hf
  obtain⟨a,vs,rfl,hr,hz,hl⟩:=kG.mp hf
  have O2:=O1.MU (G:=G) (fun a z y=>r1.d a y z) fun a z=>(r1.gm a z).ne
  exact⟨a,rfl,⟨vs,.inl hr⟩,k _ aK _ H1 bE _ q1 O2 ⟨fun a z=>.inl (r1.z a z),fun a z=>z.elim (r1.zn a) fun z=>.inr (r1.g a z),r1.k,r1.f,fun _ z=>z.elim,fun _ _ z=>z,fun _ z=>z.elim,fun _ z=>z.elim⟩ (t6 hr hz hl)⟩
 |var i=>
  simp only[bt] at e
  split at e<;>simp only[reduceCtorEq,Option.some.injEq] at e
  subst e
  rename_i ds he
  obtain⟨v',hv,ho⟩:=O1.own i _ he
  have ok:σ[i]? = some (some v):=ok
  rw[hv] at ok;cases ok
  obtain⟨a,vs,rfl,hr,hz,hl⟩:=kG.mp ho
  exact⟨a,rfl,⟨vs,.inl hr⟩,k _ aK _ H1 bE _ q1 O1 r1.drop (t6 hr hz hl)⟩
section
variable {Z:Set}{H H':Hp}{a:Addr}{av:List (Key×V)}
structure Sw(Z:Set)(H H':Hp)(a:Addr)(av:List (Key×V)):Prop where
 z:Z a
 r:Rd H a (.dK av)
 r':Rd H' a (.dK av)
 k:∀b,b≠a->H' b=H b
theorem Sw.symm(s:Sw Z H H' a av):Sw Z H' H a av:=⟨s.z,s.r',s.r,fun b n=>(s.k b n).symm⟩
theorem KS{H:Hp}{a:Addr}{x:List (Key×V)}{u:HO}(h:Rd H a (.dK x))(h':Rd H a u)(hu:∀o w,u≠.aU o w):u=.dK x:=by
 rcases h with h|⟨o,h⟩<;>rcases h' with h'|⟨o',h'⟩
 ·rw[h] at h';cases h';rfl
 ·rw[h] at h';cases h'
 ·rw[h] at h';cases h';exact absurd rfl (hu _ _)
 ·rw[h] at h';cases h';rfl
theorem Sw.rd(s:Sw Z H H' a av){b:Addr}{u:HO}(hu:∀o w,u≠.aU o w)(h:Rd H b u):Rd H' b u:=by
 by_cases e:b=a
 ·subst e
  rw[KS s.r h hu];exact s.r'
 ·rcases h with h|⟨o,h⟩
  ·exact .inl (by rw[s.k b e];exact h)
  ·exact .inr ⟨o,by rw[s.k b e];exact h⟩
theorem Sw.tup(s:Sw Z H H' a av){b:Addr}{vs:List V}(h:H b=some (.tup vs)):H' b=some (.tup vs):=by
 rw[s.k b fun e=>?_]
 ·exact h
 ·subst e
  rcases s.r with q|⟨o,q⟩<;>(rw[h] at q;cases q)
theorem yn{t:Bool}{u:HO}{ks:List DK}{vs:List V}(h:DictAt t u ks vs):∀o w,u≠.aU o w:=by
 cases t with
 |false=>obtain⟨_,_,_,_,rfl⟩:=h;intro o w z;cases z
 |true=>obtain⟨_,_,_,_,rfl⟩:=h;intro o w z;cases z
mutual
theorem Own.sw(s:Sw Z H H' a av):∀(d:D) {v:V}{F:Set},¬F a->Own Z H d v F->Own Z H' d v F
 | .bH,v,F,_,h=>by simpa only [Own] using h
 | .bl b,v,F,_,h=>by simpa only [Own] using h
 | .int i,v,F,_,h=>by simpa only [Own] using h
 | .str x,v,F,_,h=>by simpa only [Own] using h
 | .fn b,v,F,_,h=>by simpa only [Own] using h
 | .tup ds,v,F,nf,h=>by
  simp only[Own] at h ⊢
  obtain⟨b,vs,e,hr,hl⟩:=h
  exact⟨b,vs,e,s.tup hr,ar.sw s ds nf hl⟩
 | .lst true ds,v,F,nf,h=>by
  simp only[Own] at h ⊢
  obtain⟨b,vs,e,hr,ha,hl⟩:=h
  exact⟨b,vs,e,by rw[s.k b fun z=>nf (by rw[<-z];exact ha)];exact hr,ha,ar.sw s ds (fun z=>nf z.1) hl⟩
 | .lst false ds,v,F,nf,h=>by
  simp only[Own] at h ⊢
  obtain⟨b,vs,e,hr,ha,hl⟩:=h
  exact⟨b,vs,e,s.rd (by intro o w z;cases z) hr,ha,ar.sw s ds (fun z=>z) hl⟩
 | .cB true t ks ds,v,F,nf,h=>by
  simp only[Own] at h ⊢
  obtain⟨b,vs,u,e,hr,hd,ha,hl⟩:=h
  exact⟨b,vs,u,e,by rw[s.k b fun z=>nf (by rw[<-z];exact ha)];exact hr,hd,ha,ar.sw s ds (fun z=>nf z.1) hl⟩
 | .cB false t ks ds,v,F,nf,h=>by
  simp only[Own] at h ⊢
  obtain⟨b,vs,u,e,hr,hd,ha,hl⟩:=h
  exact⟨b,vs,u,e,s.rd (yn hd) hr,hd,ha,ar.sw s ds (fun z=>z) hl⟩
theorem ar.sw(s:Sw Z H H' a av):∀(ds:List D) {vs:List V}{F:Set},¬F a->ar Z H ds vs F->ar Z H' ds vs F
 | [],vs,F,_,h=>by simpa only [ar] using h
 |d::ds,vs,F,nf,h=>by
  simp only[ar] at h ⊢
  obtain⟨v,r,F1,F2,e,h1,h2,s1,s2,dj⟩:=h
  exact⟨v,r,F1,F2,e,Own.sw s d (fun z=>nf (s1 a z)) h1,ar.sw s ds (fun z=>nf (s2 a z)) h2,s1,s2,dj⟩
end
theorem Ok.sw{env:ai}{σ:St}{φ:Nat->Set}(O:Ok Z H env σ φ)(s:Sw Z H H' a av):Ok Z H' env σ φ:=by
 have na:∀i,¬φ i a:=fun i z=>O.fz i a z s.z
 refine⟨fun i d e=>let ⟨w,hw,h⟩:=O.own i d e;⟨w,hw,Own.sw s d (na i) h⟩,O.dj,O.fz,fun i b h=>?_,fun b z y=>?_,O.len⟩
 ·rw[s.k b fun z=>na i (by rw[<-z];exact h)];exact O.fm i b h
 ·by_cases e:b=a
  ·subst e
   rcases s.r' with q|⟨o,q⟩<;>(rw[q] at y;cases y)
  ·rw[s.k b e] at y;exact O.zh b z y
end
def rM:DK->D
 | .s (.inl n)=>.int n
 | .s (.inr x)=>.str x
 | .t _=>.bH
def dz(e:ai):Ref->Option (List D)
 | .var i=>match e[i]? with
  |some (some (.cB false false ks _))=>some (ks.map rM)
  |_=>none
 | .a8 (.cB _ false ks _)=>some (ks.map rM)
 |_=>none
theorem E5{Z:Set}{H:Hp}(k:Key):Own Z H (rM (.s k)) (kV k) cx:=by
 cases k with
 |inl n=>exact a_.mpr rfl
 |inr x=>exact dX.mpr rfl
theorem t7{Z:Set}{H:Hp}{a:Addr}{ob:Obj}{kl:List Key}{vs:List V}(hl:kl.length=vs.length)(hz:Z a)(h:H a=some (.aU ob (.dK (kl.zip vs)))):Walk (Ji a ob (kl.zip vs)) Z H ((kl.map DK.s).map rM) where
 stop:=fun Z2 H2 r=>⟨r.k a _ h hz,by simp[hl]⟩
 go:=fun i d Z2 H2 e r=>by
  have hi:i<kl.length:=by have:=(List.getElem?_eq_some_iff.mp e).1;simpa using this
  refine⟨⟨r.k a _ h hz,by simp;omega⟩,fun x H3 ⟨e3,kv,RF,hx⟩=>?_⟩
  subst e3 hx
  refine⟨fun _ _ e=>e,?_⟩
  have e1:kv.1=kl[i]:=by
   obtain⟨h1,h2⟩:=List.getElem?_eq_some_iff.mp RF
   rw[<-h2,List.getElem_zip]
  have e2:d=rM (.s kl[i]):=by
   rw[List.getElem?_map,List.getElem?_map,List.getElem?_eq_getElem hi] at e
   exact(Option.some.inj e).symm
  rw[e1,e2]
  exact E5 _
theorem Res.sw{Z1 Z':Set}{H1 H2 H' lE:Hp}{F1 F' G:Set}{a:Addr}{av:List (Key×V)}(s1:Sw Z1 H1 H2 a av)(nf:¬F1 a)(r:Res Z1 H2 F1 Z' H' F' G)(s2:Sw Z' H' lE a av)(ea:lE a=H1 a):Res Z1 H1 F1 Z' lE F' G:=by
 have nn:∀b,H2 b=none->H1 b=none:=fun b q=>by
  by_cases e:b=a
  ·subst e
   rcases s1.r' with z|⟨o,z⟩<;>(rw[z] at q;cases q)
  ·rw[<-s1.k b e];exact q
 refine⟨r.z,fun b z=>(r.zn b z).imp id fun z=>z.imp id (nn b),fun b o e n=>?_,fun b z=>(r.f b z).imp id (nn b),fun b z=>(r.g b z).imp id (nn b),r.d,r.gz,fun b z=>?_⟩
 ·by_cases y:b=a
  ·subst y;rw[ea];exact e
  ·rw[s2.k b y];exact r.k b o (by rw[s1.k b y];exact e) n
 ·rw[s2.k b fun y=>r.gz b z (by rw[y];exact s2.z)];exact r.gm b z
theorem vw{X:Cx}{Z1 Z':Set}{H1 H2 H':Hp}{F1 F' G:Set}{a:Addr}{ob:Obj}{av:List (Key×V)}(s1:Sw Z1 H1 H2 a av)(nf:¬F1 a)(h2:H2 a=some (.aU ob (.dK av)))(c:(H1 a=some (.dK av)/\tY X a)\/H2=H1)(r:Res Z1 H2 F1 Z' H' F' G) :
  ∃lE,Gw X H' lE/\Sw Z' H' lE a av/\lE a=H1 a:=by
 have h':H' a=some (.aU ob (.dK av)):=r.k a _ h2 nf
 rcases c with⟨h1,n⟩|e
 ·exact⟨upd H' a (.dK av),⟨a,ob,av,h',.inr ⟨n,rfl⟩⟩,⟨r.z a s1.z,.inr ⟨ob,h'⟩,.inl aB,fun b n=>aE n⟩,by rw[aB,h1]⟩
 ·exact⟨H',⟨a,ob,av,h',.inl rfl⟩,⟨r.z a s1.z,.inr ⟨ob,h'⟩,.inr ⟨ob,h'⟩,fun _ _=>rfl⟩,by rw[h',<-e,h2]⟩
theorem J3.Ko{I:Nat->Bool}{X:Cx}{Z1:Set}{H1 H2:Hp}{F1:Set}{σ:St}{D:cY}{E:Ends}{a:Addr}{ob:Obj}{av:List (Key×V)}(k:J3 I Z1 H1 F1 σ D E)(s1:Sw Z1 H1 H2 a av)(nf:¬F1 a)(h2:H2 a=some (.aU ob (.dK av)))(c:(H1 a=some (.dK av)/\tY X a)\/H2=H1):J3 I Z1 H2 F1 σ D (yT X E):=by
 have kn:∀{P:ai->Prop}{K:St->Hp->Prop},KN I Z1 H1 F1 σ P K->KN I Z1 H2 F1 σ P (fun σ H=>∃H',Gw X H H'/\K σ H'):=fun k bQ bR Z' H' cN p O r kp=>by
  obtain⟨lE,t,s2,ea⟩:=vw s1 nf h2 c r
  exact⟨lE,t,k bQ bR Z' lE cN p (O.sw s2) (r.sw s1 nf s2 ea) kp⟩
 refine⟨kn k.nx,fun d bQ v bR Z' H' cN G p O r ho kp=>?_,kn k.bk,kn k.ct⟩
 obtain⟨lE,t,s2,ea⟩:=vw s1 nf h2 c r
 exact⟨lE,t,k.rt d bQ v bR Z' lE cN G p (O.sw s2) (r.sw s1 nf s2 ea) (Own.sw s2 d (fun z=>r.gz a z s2.z) ho) kp⟩
theorem DQ{I:Nat->Bool}{X:Cx}{t:TE}{u:UB}{g:TG}{ug:UG}{tb:TS}{ub:US}(h:aZ t u)(hg:j0 I g ug)(hb:fN I tb ub):fN I (Dt X (Kt (rS X t) g tb)) (eR (dQ dz u) ug ub):=by
 intro σ env Z H φ DE E O q k
 refine h σ env Z H φ _ _ O q fun r aK v Z1 H1 bE G ⟨ds,e,q1⟩ O1 r1 ok=>?_
 have core:∀(Z1:Set) (O1:Ok Z1 H1 aK σ bE) (r1:Res Z H (cT φ) Z1 H1 (cT bE) cx) (ks:List DK) (dv:List D),Own Z1 H1 (.cB false false ks dv) v cx->ds=ks.map rM->∃a av,v=.ref a/\Rd H1 a (.dK av)/\∀ob H2,(∀b,b≠a->H2 b=H1 b)->H2 a=some (.aU ob (.dK av))->((H1 a=some (.dK av)/\tY X a)\/H2=H1) ->
   ∃W:Nat->Nat->St->Hp->Prop,(∃m,W 0 m σ H2)/\∀i m σ H,W i m σ H ->
   ((Ji a ob av).stop i H/\(yT X E).nx σ H)\/((Ji a ob av).go i H/\∃N:St->Hp->Prop,(∀bR H',N bR H'->∃m',m'<m/\W (i+1) m' bR H')/\∀x H',(Ji a ob av).MV i H x H'->g x σ H' fun vi H2=>tb {yT X E with nx:=N,ct:=N,bk:=(yT X E).nx} vi H2):=by
  intro Z1 O1 r1 ks dv ho UJ
  obtain⟨a,vs,u,rfl,hr,⟨kl,rfl,pK,yc,rfl⟩,hz,hl⟩:=iG.mp ho
  refine⟨a,_,rfl,hr,fun ob H2 hk h2 c=>?_⟩
  have sw:Sw Z1 H1 H2 a (kl.zip vs):=⟨hz,hr,.inr ⟨ob,h2⟩,hk⟩
  have nf:¬cT bE a:=fun⟨i,z⟩=>O1.fz i a z hz
  have k1:=(k.after r1 Kp.refl).Ko (X:=X) sw nf h2 c
  rw[UJ] at q1
  exact yi hg hb (O1.sw sw) (t7 pK hz h2) q1 k1
 cases r with
 |a8 d=>
  cases d<;>simp only[dz,reduceCtorEq] at e
  rename_i o t ks dv _
  cases t<;>simp only[reduceCtorEq,Option.some.injEq] at e
  have ho:Own Z1 H1 (.cB o false ks dv) v G:=ok
  have hf:=ho.aU
  simp only[aU] at hf
  have O2:=O1.MU (G:=G) (fun a z y=>r1.d a y z) fun a z=>(r1.gm a z).ne
  exact core _ O2 ⟨fun a z=>.inl (r1.z a z),fun a z=>z.elim (r1.zn a) fun z=>.inr (r1.g a z),r1.k,r1.f,fun _ z=>z.elim,fun _ _ z=>z,fun _ z=>z.elim,fun _ z=>z.elim⟩ ks _ hf e.symm
 |var i=>
  simp only[dz] at e
  split at e<;>simp only[reduceCtorEq,Option.some.injEq] at e
  rename_i ks dv he
  obtain⟨v',hv,ho⟩:=O1.own i _ he
  have ok:σ[i]? = some (some v):=ok
  rw[hv] at ok;cases ok
  exact core Z1 O1 r1.drop ks dv (iG.mpr (iG.mp ho)) e.symm
theorem ym{X:Cx}{t:TE}{u:UB}(h:aZ t u){σ:St}{env:ai}{Z:Set}{H:Hp}{φ:Nat->Set}{Q:List D->ai->Prop}{R:It->Hp->Prop}(O:Ok Z H env σ φ)(q:dQ dz u env Q)
  (k:∀items aK Z1 H1 bE a ob av H2,Q items aK->Ok Z1 H1 aK σ bE->Res Z H (cT φ) Z1 H1 (cT bE) cx->Sw Z1 H1 H2 a av->¬cT bE a->H2 a=some (.aU ob (.dK av))->((H1 a=some (.dK av)/\tY X a)\/H2=H1)->Walk (Ji a ob av) Z1 H2 items->R (Ji a ob av) H2):rS X t σ H R:=by
 refine h σ env Z H φ _ _ O q fun r aK v Z1 H1 bE G ⟨ds,e,q1⟩ O1 r1 ok=>?_
 have core:∀(Z1:Set) (O1:Ok Z1 H1 aK σ bE) (r1:Res Z H (cT φ) Z1 H1 (cT bE) cx) (ks:List DK) (dv:List D),Own Z1 H1 (.cB false false ks dv) v cx->ds=ks.map rM->∃a av,v=.ref a/\Rd H1 a (.dK av)/\∀ob H2,(∀b,b≠a->H2 b=H1 b)->H2 a=some (.aU ob (.dK av))->((H1 a=some (.dK av)/\tY X a)\/H2=H1)->R (Ji a ob av) H2:=by
  intro Z1 O1 r1 ks dv ho UJ
  obtain⟨a,vs,u,rfl,hr,⟨kl,rfl,pK,yc,rfl⟩,hz,hl⟩:=iG.mp ho
  refine⟨a,_,rfl,hr,fun ob H2 hk h2 c=>?_⟩
  have sw:Sw Z1 H1 H2 a (kl.zip vs):=⟨hz,hr,.inr ⟨ob,h2⟩,hk⟩
  rw[UJ] at q1
  exact k _ aK Z1 H1 bE a ob _ H2 q1 O1 r1 sw (fun⟨i,z⟩=>O1.fz i a z hz) h2 c (t7 pK hz h2)
 cases r with
 |a8 d=>
  cases d<;>simp only[dz,reduceCtorEq] at e
  rename_i o t ks dv _
  cases t<;>simp only[reduceCtorEq,Option.some.injEq] at e
  have ho:Own Z1 H1 (.cB o false ks dv) v G:=ok
  have hf:=ho.aU
  simp only[aU] at hf
  have O2:=O1.MU (G:=G) (fun a z y=>r1.d a y z) fun a z=>(r1.gm a z).ne
  exact core _ O2 ⟨fun a z=>.inl (r1.z a z),fun a z=>z.elim (r1.zn a) fun z=>.inr (r1.g a z),r1.k,r1.f,fun _ z=>z.elim,fun _ _ z=>z,fun _ z=>z.elim,fun _ z=>z.elim⟩ ks _ hf e.symm
 |var i=>
  simp only[dz] at e
  split at e<;>simp only[reduceCtorEq,Option.some.injEq] at e
  rename_i ks dv he
  obtain⟨v',hv,ho⟩:=O1.own i _ he
  have ok:σ[i]? = some (some v):=ok
  rw[hv] at ok;cases ok
  exact core Z1 O1 r1.drop ks dv (iG.mpr (iG.mp ho)) e.symm
theorem qN{I:Nat->Bool}{α:Type} [Acc α] {X:Cx}{sc:Scope}{N:List Str}{tg:Expr}{ifs:List Expr}{inner:Value->PySem.Env->Sem Unit}{n:Nat}{t:TE}{u:UB}{gy:TG}{ug vo:UG}{ut:UT}{ul:UL α}{acc0:α}{u0:HO} (e0:Acc.vals acc0=[]) (a0:Acc.is acc0 u0 []) (fin:α->D) (Fp:∀{acc u vs Z H A p},H p=some u->Acc.is acc u vs->ar Z H (Acc.vals acc) vs A->¬A p->Own Z H (fin acc) (.ref p) (fun a=>A a\/a=p)) (h:aZ t u) (hb:∀C s H0 fp pins p,∃g tt tl,PG (dE X sc N C s H0 fp pins) tg g/\C3 (dE X sc N C s H0 fp pins) ifs tt/\PN (dE X sc N C s H0 fp pins) (inner (.ref p) (dE X sc N C s H0 fp pins).env) tl/\j0 (outs n) g ug/\hU tt ut/\nZ (outs n) p tl ul) (hgy:j0 I gy vo) :
  fN I (Dt X (yW (jA X sc N tg ifs inner u0 n (rS X t)) gy)) (fun E env=>dQ dz u env fun items e=>eD ug ut ul (fun acc e'=>vo (fin acc) (e'.drop n) E.nx) items acc0 (List.replicate n none++e)):=by
 intro σ env Z H φ DE E O q k
 show jA X sc N tg ifs inner u0 n (rS X t) σ H (fun v H1=>gy v σ H1 (yT X E).nx)
 refine ym h O q fun items e1 Z1 H1 bE a ob av H2 q1 O1 r1 sw nf h2 c w=>?_
 intro p H3 hn hs hp mI C s H0 fp pins
 obtain⟨g,tt,tl,a1,a2,a3,hg,ht,hl⟩:=hb C s H0 fp pins p
 refine⟨g,tt,tl,a1,a2,a3,u7 (R:=fun v H1=>gy v σ H1 (yT X E).nx) e0 a0 fin Fp hg ht hl (O1.sw sw) w q1 (fun acc e' Z' H' cN G q' O' r' ho=>hgy σ _ Z' H' cN _ _ G _ _ O' ho r'.d r'.gz r'.gm q' fun gB vi Z2 hX q2 O2 z2 Nx f2 k2=>?_) H3 hn hs hp mI⟩
 have r2:Res Z1 H2 (cT bE) Z2 H' (cT hX) cx:=⟨fun a z=>z2 a (r'.z a z),fun a z=>(Nx a z).elim (r'.zn a) fun z=>.inr (r'.g a z),r'.k,fun a z=>(f2 a z).elim (r'.f a) (r'.g a),fun _ z=>z.elim,fun _ _ z=>z,fun _ z=>z.elim,fun _ z=>z.elim⟩
 obtain⟨lE,th,s2,ea⟩:=vw sw nf h2 c r2
 exact⟨lE,th,k.nx gB vi Z2 lE hX q2 (O2.sw s2) (r1.trans (r2.sw sw nf s2 ea)) k2⟩
theorem I9{t:Bool}{acc:qi t}{u:HO}{vs:List V}{Z:Set}{H:Hp}{A:Set}{p:Addr}(hu:H p=some u)(ha:Acc.is acc u vs)(ho:ar Z H (Acc.vals acc) vs A)(np:¬A p):Own Z H (.cB true t acc.ks acc.ds) (.ref p) (fun a=>A a\/a=p):=
 c9.mpr ⟨p,vs,u,rfl,hu,ha,.inr rfl,ho.mono fun a z=>⟨.inl z,fun y=>np (by rw[<-y];exact z)⟩⟩
theorem OK{t:Bool}:Acc.is (⟨[],[]⟩:qi t) (d0 t) []:=by cases t<;>exact⟨[],rfl,rfl,by simp,rfl⟩
end VS
end
section
namespace VS
open PySem L2
structure VE(X:Cx)(e:Expr)(u:UB):Prop where
 ex:∃t,PE X e t/\aZ t u
structure VX(X:Cx)(e:Expr)(u:UX):Prop where
 ex:∃t,PE X e t/\pB t u
structure VT(X:Cx)(e:Expr)(u:UT):Prop where
 ex:∃t,PT X e t/\hU t u
structure VW(X:Cx)(e:Expr)(u:UT):Prop where
 ex:∃t,PW X e t/\hU t u
structure VA(X:Cx)(es:List Expr)(u:UA):Prop where
 ex:∃t,PA X es t/\n4 t u
structure VO(X:Cx)(e:Option Expr)(u:UO):Prop where
 ex:∃t,PO X e t/\wK t u
structure VG(I:Nat->Bool)(X:Cx)(e:Expr)(u:UG):Prop where
 ex:∃t,PG X e t/\j0 I t u
structure RL(I:Nat->Bool)(X:Cx)(es:List Expr)(u:C1):Prop where
 ex:∃t,Nv X es t/\yA I t u
structure VI(X:Cx)(tg e:Expr)(u:UI):Prop where
 ex:∃t,PI X tg e t/\tX t u
structure Bk(X:Cx)(es:List Expr)(u:UT):Prop where
 ex:∃t,C3 X es t/\hU t u
structure VL{α:Type} [Acc α] (I:Nat->Bool) (X:Cx) (inner:Value->PySem.Env->Sem Unit) (u:UL α):Prop where
 ex:∀p,∃tl,PN X (inner (.ref p) X.env) tl/\nZ I p tl u
structure ko(I:Nat->Bool)(X:Cx)(s:Stmt)(u:US):Prop where
 ex:∃t,PS X s t/\fN I t u
structure Gv(I:Nat->Bool)(X:Cx)(ss:List Stmt)(u:US):Prop where
 ex:∃t,Ad X ss t/\fN I t u
section
variable {I:Nat->Bool}{X:Cx}{a b c e o l v:Expr}{es:List Expr}{ua ub uc ue uk uv uy:UB}{wa:UA}{ut VQ:UT}{x name:Str}{p pos pos' apos bD:Pos}{r r':R2}{f f':D->D->(D->Prop)->Prop}{i n k:Nat}{T id:String}{ss sa sb:List Stmt}{s:Stmt}{w w':US}
theorem C'(hN:X.N[i]? = some x)(hv:km X.env.scope x)(hd:(x==("__debug__":Str))=false:=by decide)(fu:(x==("__classdict__":Str))=false:=by decide):VE X (.Name x pos) (aa i):=⟨_,gh hN hv hd fu,BR⟩
theorem GU(hN:X.N[i]? = some x)(hv:km X.env.scope x)(hd:(x==("__debug__":Str))=false:=by decide)(fu:(x==("__classdict__":Str))=false:=by decide):VE X (.Name x pos) (a7 i):=⟨_,gh hN hv hd fu,DX⟩
theorem GN(hN:X.N[i]? = some x)(hv:km X.env.scope x)(hd:(x==("__debug__":Str))=false:=by decide)(fu:(x==("__classdict__":Str))=false:=by decide):VE X (.Name x pos) (ff i):=⟨_,gh hN hv hd fu,DJ⟩
theorem GC(hN:X.N[i]? = some x)(hv:km X.env.scope x)(hd:(x==("__debug__":Str))=false:=by decide)(fu:(x==("__classdict__":Str))=false:=by decide):VX X (.Name x pos) (mK i):=⟨_,gh hN hv hd fu,Hf⟩
theorem af{j m}:VE X (.Constant (.int j) m pos) (uC (.int j)):=⟨_,Lg,xl⟩
theorem lS{j m}:VE X (.Constant (.bool j) m pos) (uC (.bl j)):=⟨_,JB,xl⟩
theorem yM{m}:VE X (.Constant .none m pos) (uC .bH):=⟨_,Lf,xl⟩
theorem bI{j m}:VE X (.Constant (.str j) m pos) (uC (.str j)):=⟨_,Lc,xl⟩
theorem NT{j m}:VX X (.Constant (.bool j) m pos) (xC (.bl j)):=⟨_,JB,Sv⟩
theorem GP{j:Int}{t:Tok}(hm:X.mg x=some (.int j t))(hg:Gl X x)(hd:(x==("__debug__":Str))=false:=by decide):VE X (.Name x p) (uC (.int j)):=⟨_,AI (v:=.int j) hg hm ⟨t,rfl⟩ hd,xl⟩
theorem aQ{op:Operator}(ho:jv X (binaryOp op) r)(hf:iU r f)(ha:VE X a ua)(hb:VE X b ub):VE X (.BinOp a op b pos) (aj f ua ub):=let ⟨_,h1,s1⟩:=ha.ex;let ⟨_,h2,s2⟩:=hb.ex;⟨_,Ol ho h1 h2,jD s1 s2 hf⟩
theorem Dc(ha:VE X a ua):VE X (.UnaryOp .USub a pos) (pX (fU fun i=>.int (-i)) ua):=let ⟨_,h1,s1⟩:=ha.ex;⟨_,Oj Kk h1,vB s1 Mq⟩
theorem vm{op:CmpOp}(ho:jv X (compareOp op) r)(hf:iU r f)(ha:VE X a ua)(hb:VE X b ub)(hm:behindInMarks op b=false):VE X (.Compare a [op] [b] pos) (aj f ua ub):=let ⟨_,h1,s1⟩:=ha.ex;let ⟨_,h2,s2⟩:=hb.ex;⟨_,Ih ho h1 h2 hm,jD s1 s2 hf⟩
theorem aT{op:CmpOp}(ho:jv X (compareOp op) r)(hf:iU r f)(ha:VE X a ua)(hb:VE X b ub)(hm:behindInMarks op b=false):VT X (.Compare a [op] [b] pos) (aR (aj f ua ub)):=let ⟨_,h1,s1⟩:=ha.ex;let ⟨_,h2,s2⟩:=hb.ex;⟨_,HQ ho h1 h2 hm,qM (jD s1 s2 hf)⟩
structure VC(X:Cx)(op:CmpOp)(a b:Expr)(u:UB):Prop where
 ex:∃t,PC X op a b t/\aZ t u
theorem Kg{op:CmpOp}(h:VC X op a b ue)(h1:behindInMarks op b=false:=by first|exact nq _ (by decide) (by decide)|rfl):VE X (.Compare a [op] [b] pos) ue:=let ⟨_,q,s⟩:=h.ex;⟨_,Lh q h1,s⟩
theorem jx{op:CmpOp}(h:VC X op a b ue)(h1:behindInMarks op b=false:=by first|exact nq _ (by decide) (by decide)|rfl):VT X (.Compare a [op] [b] pos) (aR ue):=let ⟨_,q,s⟩:=h.ex;⟨_,K5 q h1,BP s⟩
theorem Ah{j pos'}(ha:VE X a ua):VC X .IsNot a (.Constant .none j pos') (pX (FF true) ua):=let ⟨_,h1,s1⟩:=ha.ex;⟨_,Ik h1,DH s1⟩
theorem Kj(hu:X.A.units+1<cLine)(ha:VE X a ua)(hb:VE X b ub):VC X .In a b (aj (jV false) ua ub):=let ⟨_,h1,s1⟩:=ha.ex;let ⟨_,h2,s2⟩:=hb.ex;⟨_,Ll hu h1 h2,Hw s1 s2⟩
theorem By(hu:X.A.units+1<cLine)(ha:VE X a ua)(hb:VE X b ub):VC X .NotIn a b (aj (jV true) ua ub):=let ⟨_,h1,s1⟩:=ha.ex;let ⟨_,h2,s2⟩:=hb.ex;⟨_,Cg hu h1 h2,y8 s1 s2⟩
theorem C9{op Lv:CmpOp}{pp qq:Int->Int->Bool}(ho:jv X (compareOp op) (zi fun i j=>.bl (pp i j)))(gH:jv X (compareOp Lv) (zi fun i j=>.bl (qq i j)))(ha:VE X a ua)(hb:VE X b ub)(hc:VE X c uc)(hm:lastMarks [op,Lv] [b,c]=false:=by with_unfolding_all rfl):VT X (.Compare a [op,Lv] [b,c] pos) (aR (oj pp qq ua ub uc)):=
 let ⟨_,h1,s1⟩:=ha.ex;let ⟨_,h2,s2⟩:=hb.ex;let ⟨_,h3,s3⟩:=hc.ex;⟨_,Em ho gH h1 h2 h3 hm,qM (B1 s1 s2 s3)⟩
theorem C8(h:VT X a ut):VT X (.UnaryOp .Not a pos) (yO ut):=let ⟨_,q,s⟩:=h.ex;⟨_,K4 q,Hr s⟩
theorem VW.vt(h:VW X e ut):VT X e ut:=let ⟨_,q,s⟩:=h.ex;⟨_,q.pt,s⟩
theorem k0(h:VT X a ut):VW X (.BoolOp .And [a] pos) ut:=let ⟨_,q,s⟩:=h.ex;⟨_,HM q,s⟩
theorem l5(h:VT X a ut)(h':VW X (.BoolOp .And (b::es) pos) VQ):VW X (.BoolOp .And (a::b::es) pos) (qG ut VQ):=let ⟨_,q,s⟩:=h.ex;let ⟨_,q',s'⟩:=h'.ex;⟨_,K2 q q',snd_and s s'⟩
theorem mM(h:VE X a ua)(he:∀whole,isTrue a X.env whole=(do let v <-whole;standAt a.pos;holding [v] (truthy v))):VT X a (l7 ua):=let ⟨_,q,s⟩:=h.ex;⟨_,El q he,BO s⟩
theorem Kf{op}(h:VE X a ua):VE X (.BoolOp op [a] pos) ua:=let ⟨_,q,s⟩:=h.ex;⟨_,Le q,s⟩
theorem Kh(h:VE X a ua)(h':VE X (.BoolOp .And (b::es) pos) ub):VE X (.BoolOp .And (a::b::es) pos) (An ua ub):=let ⟨_,q,s⟩:=h.ex;let ⟨_,q',s'⟩:=h'.ex;⟨_,Li q q',DZ s s'⟩
theorem mN(hc:VT X c ut)(h:VE X a ua)(h':VE X b ub):VE X (.IfExp c a b pos) (Aj ut ua ub):=let ⟨_,q0,s0⟩:=hc.ex;let ⟨_,q,s⟩:=h.ex;let ⟨_,q',s'⟩:=h'.ex;⟨_,EC q0 q q',Hu s0 s s'⟩
theorem ah:VA X [] ao:=⟨_,mn,vA⟩
theorem ab(ha:VE X e ue)(hr:VA X es wa)(h:aH e=true:=by rfl):VA X (e::es) (ae ue wa):=let ⟨_,q,s⟩:=ha.ex;let ⟨_,q',s'⟩:=hr.ex;⟨_,JD q q' h,mU s s'⟩
theorem fc{m}(h:VA X es wa):VE X (.Tuple es m pos) (gE wa):=let ⟨_,q,s⟩:=h.ex;⟨_,H_ q,Hj s⟩
theorem bF(h:VA X es wa):VE X (.List es pos) (cZ wa):=let ⟨_,q,s⟩:=h.ex;⟨_,Ic q,Hs s⟩
theorem Dd(hr:Jh X r)(hf:iU r f)(ha:VE X a ua)(hb:VE X b ub)(hs:j3 b):VE X (.Subscript a b pos) (aj f ua ub):=let ⟨_,h1,s1⟩:=ha.ex;let ⟨_,h2,s2⟩:=hb.ex;⟨_,JA hr h1 h2 hs,jD s1 s2 hf⟩
theorem GS(hu:X.A.units+1<cLine)(ha:VE X a ua)(hb:VE X b ub)(hs:wL b):VE X (.Subscript a b pos) (aj pN ua ub):=let ⟨_,h1,s1⟩:=ha.ex;let ⟨_,h2,s2⟩:=hb.ex;⟨_,AJ hu h1 h2 hs,DW s1 s2⟩
theorem GQ(hu:X.A.units+1<cLine)(ho:VE X o ua)(ha:VE X a ub)(hb:VE X b uc)(m:M2 X o "get" apos a b bD):VE X (.Call (.Attribute o "get" apos) [a,b] [] bD) (xb ua ub uc):=let ⟨_,h1,s1⟩:=ho.ex;let ⟨_,h2,s2⟩:=ha.ex;let ⟨_,h3,s3⟩:=hb.ex;⟨_,EF hu h1 h2 h3 m,DP s1 s2 s3⟩
theorem la:VO X none ip:=⟨_,HW,y4⟩
theorem k_(h:VE X e ue):VO X (some e) (mQ ue):=let ⟨_,q,s⟩:=h.ex;⟨_,HV q,DG s⟩
theorem w8{lo hi:Option Expr}{ul uh:UO}{p2:Pos}(h:VE X e ue)(hl:VO X lo ul)(hh:VO X hi uh):VE X (.Subscript e (.Slice lo hi none p2) pos) (NV ue ul uh):=let ⟨_,q,s⟩:=h.ex;let ⟨_,q1,s1⟩:=hl.ex;let ⟨_,q2,s2⟩:=hh.ex;⟨_,rh xm q q1 q2,Kw s s1 s2⟩
theorem GV{ms:List Bool}{m:fQ}(O:L2.Own X.prog X.w X.K X.mg X.base x k (fZ ms m))(hr:dS k X.A)(ha:VA X (e::es) wa)(hg:Gl X x)(jo:(x==("__debug__":Str))=false:=by decide)(h1:aH e=true:=by rfl)(h2:es.all aH=true:=by rfl):VE X (.Call (.Name x p) (e::es) [] pos) (aA ms m wa):=
 let ⟨_,q,s⟩:=ha.ex;⟨_,Oq O hr q hg jo h1 h2,xk s⟩
theorem Dj{r:List V->Hp->VK->Prop}{f:List D->(D->Prop)->Prop}(hc:hV X (.builtin id) r)(hf:Nw r f)(hg:Gl X x)(hm:X.mg x=none)(hv:bootBuiltins x=some (.builtin id))(ha:VA X (e::es) wa)(hn:x≠"__name__":=by decide)(jo:(x==("__debug__":Str))=false:=by decide)(h1:aH e=true:=by rfl)(h2:es.all aH=true:=by rfl):VE X (.Call (.Name x p) (e::es) [] pos) (qk f wa):=
 let ⟨_,q,s⟩:=ha.ex;⟨_,wG hc hg hm hv q hn jo h1 h2,vC s hf⟩
theorem t8{r:List V->Hp->VK->Prop}{f:List D->(D->Prop)->Prop}(hc:hV X (.type T) r)(hf:Nw r f)(hg:Gl X x)(hm:X.mg x=none)(hv:bootBuiltins x=some (.type T))(ha:VA X (e::es) wa)(hn:x≠"__name__":=by decide)(jo:(x==("__debug__":Str))=false:=by decide)(h1:aH e=true:=by rfl)(h2:es.all aH=true:=by rfl):VE X (.Call (.Name x p) (e::es) [] pos) (qk f wa):=
 let ⟨_,q,s⟩:=ha.ex;⟨_,Bh hc hg hm hv q hn jo h1 h2,vC s hf⟩
theorem Ag:VE X (.Dict [] [] pos) (xc false):=⟨_,EE,BX⟩
theorem qC(ha:VE X a ua)(hb:VE X b ub):VE X (.Dict [some a] [b] pos) (oh ua ub):=let ⟨_,h1,s1⟩:=ha.ex;let ⟨_,h2,s2⟩:=hb.ex;⟨_,Ie (Ey h1 h2 HU) rfl rfl (by simp) (by simp),BY s1 s2⟩
theorem Ke(hN:X.N[i]? = some x)(hv:km X.env.scope x)(hd:(x==("__debug__":Str))=false:=by decide)(fu:(x==("__classdict__":Str))=false:=by decide)(eh:attributeBase (.Name x p) "pop" X.env (eval (.Name x p) X.env)=eval (.Name x p) X.env:=by rfl)(ef:(apos.endLine==bD.line)=true:=by rfl):VE X (.Call (.Attribute (.Name x p) "pop" apos) [] [] bD) (Dl i):=
 ⟨_,EJ PySem.F.plainAttrs_list PySem.F.slot_list_pop PySem.F.type_list_pop LC (gh hN hv hd fu) eh ef,Ho⟩
theorem GL(hI:I i=false)(hN:X.N.Nodup)(hi:X.N[i]? = some x)(hx:Loc X.env.scope x)(hf:X.fn x=true\/X.env.scope.names.lookup x=some .local):VG I X (.Name x pos) (au i):=⟨_,AH hN hi hx hf,ur hI⟩
theorem C_(hI:I i=false)(hN:X.N.Nodup)(hi:X.N[i]? = some x)(hx:Loc X.env.scope x)(hf:X.fn x=true\/X.env.scope.names.lookup x=some .local):VG I X (.Name x pos) (bx i):=⟨_,AH hN hi hx hf,qO hI⟩
theorem dU:RL I X [] gc:=⟨_,H9,DO⟩
theorem aW{g:UG}{gs:C1}(h:VG I X e g)(h':RL I X es gs)(hs:(assignEach (e::es) X.env).map (·.2)=assign e X.env::(assignEach es X.env).map (·.2):=by rfl):RL I X (e::es) (bz g gs):=let ⟨_,q,s⟩:=h.ex;let ⟨_,q',s'⟩:=h'.ex;⟨_,EB q q' hs,BV s s'⟩
theorem fE{m:Nat}{gs:C1}(hc:X.calm=true)(h:RL I X es gs)(hn:(assignEach es X.env).length=n:=by rfl)(zO:(assignEach es X.env).findIdx? (·.1)=none:=by rfl):VG I X (.Tuple es m pos) (gb n gs):=let ⟨_,q,s⟩:=h.ex;⟨_,La hc q hn zO,DN s⟩
theorem bX{tg:Expr}(h:VE X l ue):VI X tg l (dQ bt ue):=let ⟨_,q,s⟩:=h.ex;⟨_,HY q,BU s⟩
theorem Kd{tg:Expr}(h:VE X l ue):VI X tg l (dQ rN ue):=let ⟨_,q,s⟩:=h.ex;⟨_,K' q,DM s⟩
theorem GJ{tg:Expr}(hg:Gl X "range")(hm:X.mg "range" = none)(h:VA X [a] wa)(hp:aH a=true:=by rfl):VI X tg (.Call (.Name "range" p) [a] [] pos) (fH wa):=let ⟨_,q,s⟩:=h.ex;⟨_,Cd hg hm q (by rw[bN hp];rfl),DF s⟩
theorem GK{elts:List Expr}{kk:Nat}{yS:Pos}(hg:Gl X "enumerate")(hm:X.mg "enumerate" = none)(h:VE X l ue)(hp:aH l=true:=by rfl):VI X (.Tuple elts kk yS) (.Call (.Name "enumerate" p) [l] [] pos) (pF bt ue):=let ⟨_,q,s⟩:=h.ex;⟨_,HZ hg hm (JD q mn hp) (by rw[bN hp];rfl),DR s⟩
theorem bq:Gv I X [] cm:=⟨_,HS,DI⟩
theorem ak(h:ko I X s w):Gv I X [s] w:=let ⟨_,q,s⟩:=h.ex;⟨_,HR q,s⟩
theorem ag(h:ko I X s w)(h':Gv I X ss w'):Gv I X (s::ss) (aC w w'):=let ⟨_,q,s⟩:=h.ex;let ⟨_,q',s'⟩:=h'.ex;⟨_,Eo q q',Hm s s'⟩
theorem wZ:ko I X s l8:=⟨_,Et,BS⟩
theorem w4:ko I X (.Continue pos) Am:=⟨_,xE,DY⟩
theorem aJ(h:VE X e ue):ko I X (.Return (some e) pos) (bM ue):=let ⟨_,q,s⟩:=h.ex;⟨_,K6 q,Hn s⟩
theorem GH(h:VE X e ue)(hs:swapsWith e none pos.line X.env=pure false:=by rfl):ko I X (.Expr e pos) (Ak ue):=let ⟨_,q,s⟩:=h.ex;⟨_,mZ q hs,DT s⟩
theorem cU(hc:VT X c ut)(ha:Gv I X sa w)(hb:Gv I X sb w'):ko I X (.If c sa sb pos) (dn ut w w'):=let ⟨_,q0,s0⟩:=hc.ex;let ⟨_,q,s⟩:=ha.ex;let ⟨_,q',s'⟩:=hb.ex;⟨_,Oi q0 q q',Kx s0 s s'⟩
theorem Ka(hI:I i=false)(hN:X.N.Nodup)(hi:X.N[i]? = some x)(hx:Loc X.env.scope x)(he:VE X e ue)(hf:X.fn x=true\/X.env.scope.names.lookup x=some .local)(hs:swapsWith e (some (.Name x pos')) pos.line X.env=pure false:=by rfl):ko I X (.Assign [.Name x pos'] e pos) (aX ue (au i)):=let ⟨_,q,s⟩:=he.ex;⟨_,Es hN hi hx q hs hf,mV s (ur hI)⟩
theorem GG(hI:I i=false)(hN:X.N.Nodup)(hi:X.N[i]? = some x)(hx:Loc X.env.scope x)(he:VE X e ue)(hf:X.fn x=true\/X.env.scope.names.lookup x=some .local)(hs:swapsWith e (some (.Name x pos')) pos.line X.env=pure false:=by rfl):ko I X (.Assign [.Name x pos'] e pos) (aX ue (bx i)):=let ⟨_,q,s⟩:=he.ex;⟨_,Es hN hi hx q hs hf,mV s (qO hI)⟩
theorem qB{tg:Expr}{ug:UG}(he:VE X e ue)(hg:VG I X tg ug)(hs:swapsWithSole [tg] e pos.line X.env=pure false:=by rfl)(hw:swappedStores [tg] e X.env=pure none:=by rfl)(h1:(assignEach [tg] X.env).map (·.2)=[assign tg X.env]:=by rfl):ko I X (.Assign [tg] e pos) (aX ue ug):=let ⟨_,q,s⟩:=he.ex;let ⟨_,q',s'⟩:=hg.ex;⟨_,Ew q q' hs hw h1,mV s s'⟩
theorem Kc{op:Operator}{g:Int->Int->Int}(hI:I i=false)(hN:X.N.Nodup)(hi:X.N[i]? = some x)(hx:Loc X.env.scope x)(he:VE X e ue)(ho:Vs X op (Tc g))(hf:X.fn x=true\/X.env.scope.names.lookup x=some .local):ko I X (.AugAssign (.Name x pos') op e pos) (Dm i g ue):=let ⟨_,q,s⟩:=he.ex;⟨_,K8 hN hi hx q ho hf,Hx hI s⟩
theorem Bt(hN:X.N[i]? = some x)(hv:km X.env.scope x)(ha:VA X (e::es) wa)(hd:(x==("__debug__":Str))=false:=by decide)(fu:(x==("__classdict__":Str))=false:=by decide)
  (eh:attributeBase (.Name x p) "append" X.env (eval (.Name x p) X.env)=eval (.Name x p) X.env:=by rfl) (hlen:(e::es).length<30:=by simp) (ef:(apos.endLine==bD.line)=true:=by rfl) (h1:aH e=true:=by rfl) (h2:es.all aH=true:=by rfl) (hs:swapsWith (.Call (.Attribute (.Name x p) "append" apos) (e::es) [] bD) none pos.line X.env=pure false:=by rfl) :
  ko I X (.Expr (.Call (.Attribute (.Name x p) "append" apos) (e::es) [] bD) pos) (cF i wa):=let ⟨_,q,s⟩:=ha.ex;⟨_,mZ (Vm PySem.F.plainAttrs_list PySem.F.slot_list_append PySem.F.type_list_append mv (gh hN hv hd fu) q eh hlen ef h1 h2) hs,y_ s⟩
theorem Bq(hN:X.N[i]? = some x)(hv:km X.env.scope x)(ha:VA X (e::es) wa)(hd:(x==("__debug__":Str))=false:=by decide)(fu:(x==("__classdict__":Str))=false:=by decide)
  (eh:attributeBase (.Name x p) "extend" X.env (eval (.Name x p) X.env)=eval (.Name x p) X.env:=by rfl) (hlen:(e::es).length<30:=by simp) (ef:(apos.endLine==bD.line)=true:=by rfl) (h1:aH e=true:=by rfl) (h2:es.all aH=true:=by rfl) (hs:swapsWith (.Call (.Attribute (.Name x p) "extend" apos) (e::es) [] bD) none pos.line X.env=pure false:=by rfl) :
  ko I X (.Expr (.Call (.Attribute (.Name x p) "extend" apos) (e::es) [] bD) pos) (iV i wa):=let ⟨_,q,s⟩:=ha.ex;⟨_,mZ (Vm PySem.F.plainAttrs_list PySem.F.slot_list_extend PySem.F.type_list_extend Cn (gh hN hv hd fu) q eh hlen ef h1 h2) hs,y6 s⟩
theorem yJ(hN:X.N[i]? = some x)(hv:km X.env.scope x)(hd:(x==("__debug__":Str))=false:=by decide)(fu:(x==("__classdict__":Str))=false:=by decide)(eh:attributeBase (.Name x p) "reverse" X.env (eval (.Name x p) X.env)=eval (.Name x p) X.env:=by rfl)(ef:(apos.endLine==bD.line)=true:=by rfl)(hs:swapsWith (.Call (.Attribute (.Name x p) "reverse" apos) [] [] bD) none pos.line X.env=pure false:=by rfl) :
  ko I X (.Expr (.Call (.Attribute (.Name x p) "reverse" apos) [] [] bD) pos) (ky i):=⟨_,mZ (EJ PySem.F.plainAttrs_list PySem.F.slot_list_reverse PySem.F.type_list_reverse zx (gh hN hv hd fu) eh ef) hs,xi⟩
structure MK(X:Cx)(s:Sel)(i:Nat)(e:Expr)(u:UX):Prop where
 ex:∃tk,PE X e (s.t X.K (jz i) tk)/\pB tk u
theorem GX(hu:X.A.units+1<cLine)(hN:X.N[i]? = some x)(hv:km X.env.scope x){uk:UX}(hk:VX X b uk)(hs:wL b)(hd:(x==("__debug__":Str))=false:=by decide)(fu:(x==("__classdict__":Str))=false:=by decide):MK X .cB i (.Subscript (.Name x p) b pos) uk:=let ⟨_,q,s⟩:=hk.ex;⟨_,AJ hu (gh hN hv hd fu) q hs,s⟩
theorem GW(hN:X.N[i]? = some x)(hv:km X.env.scope x){uk:UX}(hk:VX X b uk)(hs:j3 b)(hd:(x==("__debug__":Str))=false:=by decide)(fu:(x==("__classdict__":Str))=false:=by decide):MK X .lst i (.Subscript (.Name x p) b pos) uk:=let ⟨_,q,s⟩:=hk.ex;⟨_,JA AW (gh hN hv hd fu) q hs,s⟩
theorem w5{sl:Sel}{uk uy:UX}(hc:MK X sl i o uk)(hy:VX X e uy)(eh:attributeBase o "append" X.env (eval o X.env)=eval o X.env:=by rfl)(ef:(apos.endLine==bD.line)=true:=by rfl)(h1:aH e=true:=by rfl)(hs:swapsWith (.Call (.Attribute o "append" apos) [e] [] bD) none pos.line X.env=pure false:=by rfl) :
  ko I X (.Expr (.Call (.Attribute o "append" apos) [e] [] bD) pos) (ji sl i uk uy):=let ⟨_,q,s⟩:=hc.ex;let ⟨_,q',s'⟩:=hy.ex;⟨_,mZ (Vm PySem.F.plainAttrs_list PySem.F.slot_list_append PySem.F.type_list_append mv q (JD q' mn h1) eh (by simp) ef h1 rfl) hs,vD sl s s'⟩
theorem GI(hu:X.A.units+1<cLine)(hN:X.N[i]? = some x)(L5:km X.env.scope x)(hk:VE X b uk)(hv:VE X v uv)(hd:(x==("__debug__":Str))=false:=by decide)(fu:(x==("__classdict__":Str))=false:=by decide)(hs:swapsWith v (some (.Subscript (.Name x p) b pos')) pos.line X.env=pure false:=by rfl):ko I X (.Assign [.Subscript (.Name x p) b pos'] v pos) (jh i uk uv):=
 let ⟨_,q,s⟩:=hk.ex;let ⟨_,q',s'⟩:=hv.ex;⟨_,AG hu (gh hN L5 hd fu) q q' hs,DU s s'⟩
theorem Br{sl:Sel}{uj uk uv:UX}(hu:X.A.units+1<cLine)(hc:MK X sl i o uj)(hk:VX X b uk)(hv:VX X v uv)(hs:swapsWith v (some (.Subscript o b pos')) pos.line X.env=pure false:=by rfl):ko I X (.Assign [.Subscript o b pos'] v pos) (mS sl i uj uk uv):=
 let ⟨_,q0,s0⟩:=hc.ex;let ⟨_,q,s⟩:=hk.ex;let ⟨_,q',s'⟩:=hv.ex;⟨_,AG hu q0 q q' hs,y7 sl s0 s s'⟩
theorem GF(hN:X.N[i]? = some x)(L5:km X.env.scope x)(hk:VE X b uk)(hv:VE X v uv)(hd:(x==("__debug__":Str))=false:=by decide)(fu:(x==("__classdict__":Str))=false:=by decide)(ha:∀v,assign (.Subscript (.Name x p) b pos') X.env v=(do let ov <-holding [v] (eval (.Name x p) X.env);let iv <-holding [v,ov] (eval b X.env);standAt pos';holding [v,ov,iv] (setItem ov iv v);release [v,ov,iv] []):=by intro _;rfl)
  (hs:swapsWithSole [.Subscript (.Name x p) b pos'] v pos.line X.env=pure false:=by rfl) (hw:swappedStores [.Subscript (.Name x p) b pos'] v X.env=pure none:=by rfl) (h1:(assignEach [.Subscript (.Name x p) b pos'] X.env).map (·.2)=[assign (.Subscript (.Name x p) b pos') X.env]:=by rfl):ko I X (.Assign [.Subscript (.Name x p) b pos'] v pos) (t_ i uk uv):=
 let ⟨_,q,s⟩:=hk.ex;let ⟨_,q',s'⟩:=hv.ex;⟨_,Ew q' (Lb (gh hN L5 hd fu) q set_list ha) hs hw h1,DD s s'⟩
theorem c8{tg iter:Expr}{ui:UI}{ug:UG}(hp:PassesOwn (model X.prog X.w) X.A X.env X.xe)(hc:X.calm=true)(hi:VI X tg iter ui)(hg:VG I X tg ug)(hb:Gv I X ss w)(hs:∀x,foldedSetIterable iter X.env x=pure x:=by intro _;rfl):ko I X (.For tg iter ss [] pos) (eR ui ug w):=let ⟨_,q0,s0⟩:=hi.ex;let ⟨_,q,s⟩:=hg.ex;let ⟨_,q',s'⟩:=hb.ex;⟨_,Eu hp hc q0 q q' hs,Hv s0 s s'⟩
theorem Af{tg iter:Expr}{ug:UG}(hp:PassesOwn (model X.prog X.w) X.A X.env X.xe)(hc:X.calm=true)(hi:VE X iter ue)(hg:VG I X tg ug)(hb:Gv I X ss w)(hs:∀x,foldedSetIterable iter X.env x=pure x:=by intro _;rfl):ko I X (.For tg iter ss [] pos) (eR (dQ dz ue) ug w):=let ⟨_,q0,s0⟩:=hi.ex;let ⟨_,q,s⟩:=hg.ex;let ⟨_,q',s'⟩:=hb.ex;⟨_,Er (Eu hp hc (vR q0) q q' hs),DQ s0 s s'⟩
theorem qz(hp:PassesOwn (model X.prog X.w) X.A X.env X.xe)(hc:VT X c ut)(hb:Gv I X ss w):ko I X (.While c ss [] pos) (og ut w):=let ⟨_,q,s⟩:=hc.ex;let ⟨_,q',s'⟩:=hb.ex;⟨_,Ep hp q q',BN s s'⟩
end
def oR:List Str->Bool
 | []=>true
 |x::r=>!r.contains x&&oR r
theorem ll:∀{l:List Str},oR l=true->l.Nodup
 | [],_=>.nil
 |x::r,h=>by
  simp only[oR,Bool.and_eq_true,Bool.not_eq_true',List.contains_eq_mem,decide_eq_false_iff_not] at h
  exact List.nodup_cons.mpr ⟨h.1,ll h.2⟩
def MG(sc M':Scope)(ks N2 N0:List Str):Bool:=
 (match sc.kind with | .function=>true|_=>false)&&sc.names.all (fun y=>decide (y.2≠.cell))&&sc.names.all (fun y=>decide (y.2=.local->sc.names.lookup y.1=some .local))&&sc.names.all (fun y=>decide (y.2=.free->M'.names.lookup y.1=some .cell\/M'.names.lookup y.1=some .free)) &&
 decide (N2.length=N0.length)&&oR (ks++N2)&&(List.range N2.length).all fun j=>match N2[j]? with
  |some x=>decide (sc.names.lookup x=none)||(decide (sc.names.lookup x=some .free)&&decide (N0[j]? = some x))
  |none=>true
theorem MF{X:Cx}{sc M':Scope}{ks N2 N0:List Str}(h0:X.env.scope=M')(hN:X.N=N0)(h:MG sc M' ks N2 N0=true):wM X sc ks N2:=by
 simp only[MG,Bool.and_eq_true,List.all_eq_true,decide_eq_true_eq] at h
 obtain⟨⟨⟨⟨⟨⟨h1,h2⟩,h3⟩,h4⟩,h5⟩,h6⟩,h7⟩:=h
 refine⟨?_,fun y hy=>h2 y hy,fun y hy=>h3 y hy,fun y hy e=>?_,by rw[hN];exact h5,ll h6,fun j x e=>?_⟩
 ·revert h1
  cases sc.kind<;>intro h1<;>first|rfl|(cases h1)
 ·show X.env.scope.names.lookup y.1=some .cell\/X.env.scope.names.lookup y.1=some .free
  rw[h0];exact h4 y hy e
 ·have hj:j<N2.length:=(List.getElem?_eq_some_iff.mp e).1
  have q:=h7 j (List.mem_range.mpr hj)
  rw[e] at q
  simp only[Bool.or_eq_true,Bool.and_eq_true,decide_eq_true_eq] at q
  rw[hN];exact q
section
variable {I:Nat->Bool}{X:Cx}{sc:Scope}{N:List Str}{C:Addr}{sh:Shared}{H0:Hp}{fp:List Addr}{pins:List (Addr×Obj)}{x:Str}
theorem mG(x:Str):(dE X sc N C sh H0 fp pins).env.scope.names.lookup x=(sc.names.lookup x).map fun k=>if (k==NameKind.free&&X.env.scope.kind==.function&&X.env.kindOf x==some .cell) then NameKind.cell else k:=iK (env:=X.env) sc.names x
theorem jZ(h:sc.names.lookup x=some .local):(dE X sc N C sh H0 fp pins).env.scope.names.lookup x=some .local:=by rw[mG,h];rfl
theorem kX(h:sc.names.lookup x=some .local):Loc (dE X sc N C sh H0 fp pins).env.scope x:=.inl (jZ h)
theorem dC(h:sc.names.lookup x=some .local):km (dE X sc N C sh H0 fp pins).env.scope x:=.inl (jZ h)
theorem dD(h:sc.names.lookup x=some .free):km (dE X sc N C sh H0 fp pins).env.scope x:=by
 have e:=mG (X:=X) (sc:=sc) (N:=N) (C:=C) (sh:=sh) (H0:=H0) (fp:=fp) (pins:=pins) x
 rw[h] at e
 by_cases q:(NameKind.free==NameKind.free&&X.env.scope.kind==.function&&X.env.kindOf x==some .cell)=true
 ·exact .inr (.inl (e.trans (by show some (if _ then _ else _)=_;rw[if_pos q])))
 ·exact .inr (.inr (e.trans (by show some (if _ then _ else _)=_;rw[if_neg q])))
theorem fb(h:sc.names.lookup x=some .globalImplicit):Gl (dE X sc N C sh H0 fp pins) x:=by
 show(dE X sc N C sh H0 fp pins).env.scope.names.lookup x=some .globalImplicit
 rw[mG,h];rfl
end
theorem gZ{X:Cx}:Bk X [] l6:=⟨_,HP,Hi⟩
theorem mL{X:Cx}{c:Expr}{u:UT}(h:VT X c u):Bk X [c] u:=let ⟨_,q,s⟩:=h.ex;⟨_,HN q,s⟩
theorem qj{I:Nat->Bool}{X:Cx}{elt:Expr}{u:UB}(h:VE X elt u):VL I X (fun acc env=>do let _ <-call (.builtin "list.append") [acc,<-eval elt env]) (fM u):=⟨fun p=>let ⟨_,q,s⟩:=h.ex;⟨_,HX q,DS s⟩⟩
theorem w6{t:Bool}{I:Nat->Bool}{X:Cx}{kx vx:Expr}{uk uv:UB}{q:Pos}(hu:X.A.units+1<cLine)(hk:VE X kx uk)(hv:VE X vx uv):VL I X (fun acc env=>do
    let kv <-eval kx env
    let vv <-holding [kv] (eval vx env)
    match acc with
    | .ref d=>do
     standAt q
     holding [kv,vv] (dictSet d kv vv)
    |_=>unsupported "internal:dictcomp") (kR (t:=t) uk uv):=⟨fun p=>let ⟨_,q1,s1⟩:=hk.ex;let ⟨_,q2,s2⟩:=hv.ex;⟨_,Ez hu q1 q2,BW s1 s2⟩⟩
section
variable {I:Nat->Bool}{X:Cx}{elt kx vx iter tg:Expr}{ifs:List Expr}{sc M':Scope}{pos jC py:Pos}{y:Str}{ks N2 N0:List Str}{ui:UI}{ug vo:UG}{ut:UT}{ue uk uv:UB}
theorem rY{α:Type} [Acc α] {N:List Str}{n:Nat}{inner:Value->PySem.Env->Sem Unit}{ul:UL α} (hg:∀C s H fp pins,VG (outs n) (dE X sc N C s H fp pins) tg ug) (ht:∀C s H fp pins,Bk (dE X sc N C s H fp pins) ifs ut) (hl:∀C s H fp pins,VL (outs n) (dE X sc N C s H fp pins) inner ul) :
  ∀C s H0 fp pins p,∃g tt tl,PG (dE X sc N C s H0 fp pins) tg g/\C3 (dE X sc N C s H0 fp pins) ifs tt/\PN (dE X sc N C s H0 fp pins) (inner (.ref p) (dE X sc N C s H0 fp pins).env) tl/\j0 (outs n) g ug/\hU tt ut/\nZ (outs n) p tl ul:=fun C s H0 fp pins p=>
 let ⟨_,q1,s1⟩:=(hg C s H0 fp pins).ex;let ⟨_,q2,s2⟩:=(ht C s H0 fp pins).ex;let ⟨_,q3,s3⟩:=(hl C s H0 fp pins).ex p;⟨_,_,_,q1,q2,q3,s1,s2,s3⟩
theorem jy(S:wM X sc ks N2)(hc:X.calm=true)(hi:VI X tg iter ui)(hg:∀C s H fp pins,VG (outs ks.length) (dE X sc (ks++N2) C s H fp pins) tg ug)(ht:∀C s H fp pins,Bk (dE X sc (ks++N2) C s H fp pins) ifs ut)(he:∀C s H fp pins,VE (dE X sc (ks++N2) C s H fp pins) elt ue)(hs:∀x,foldedSetIterable iter X.env x=pure x:=by intro _;rfl) :
  VE X (.ListComp elt [⟨tg,iter,ifs,0⟩] sc pos) (gf ks.length ui ug ut (fM ue)):=let ⟨_,q,s⟩:=hi.ex;⟨_,Ig (inner:=fun acc env=>do let _ <-call (.builtin "list.append") [acc,<-eval elt env]) S hc q (fun _ _ _=>rfl) hs,qP s (rY hg ht fun C s H fp pins=>qj (he C s H fp pins))⟩
theorem qA(hI:VG I X (.Name y py) vo)(S:wM X sc ks N2)(hc:X.calm=true)(hi:VI X tg iter ui)(hg:∀C s H fp pins,VG (outs ks.length) (dE X sc (ks++N2) C s H fp pins) tg ug)(ht:∀C s H fp pins,Bk (dE X sc (ks++N2) C s H fp pins) ifs ut)(he:∀C s H fp pins,VE (dE X sc (ks++N2) C s H fp pins) elt ue)
  (Cw:swapsWith (.ListComp elt [⟨tg,iter,ifs,0⟩] sc pos) (some (.Name y py)) jC.line X.env=pure true) (hs:∀x,foldedSetIterable iter X.env x=pure x:=by intro _;rfl) :
  ko I X (.Assign [.Name y py] (.ListComp elt [⟨tg,iter,ifs,0⟩] sc pos) jC) (aX (gf ks.length ui ug ut (fM ue)) vo):=let ⟨_,q,s⟩:=hi.ex;let ⟨_,q',s'⟩:=hI.ex;⟨_,rf (inner:=fun acc env=>do let _ <-call (.builtin "list.append") [acc,<-eval elt env]) S hc q (fun _ _ _=>rfl) q' Cw hs,mV (qP s (rY hg ht fun C s H fp pins=>qj (he C s H fp pins))) s'⟩
theorem vj(t:Bool)(hu:X.A.units+1<cLine)(hI:VG I X (.Name y py) vo)(S:wM X sc ks N2)(hc:X.calm=true)(hi:VE X iter ue)(hg:∀C s H fp pins,VG (outs ks.length) (dE X sc (ks++N2) C s H fp pins) tg ug)(ht:∀C s H fp pins,Bk (dE X sc (ks++N2) C s H fp pins) ifs ut)(hk:∀C s H fp pins,VE (dE X sc (ks++N2) C s H fp pins) kx uk)(hv:∀C s H fp pins,VE (dE X sc (ks++N2) C s H fp pins) vx uv)
  (Cw:swapsWith (.DictComp kx vx [⟨tg,iter,ifs,0⟩] sc pos) (some (.Name y py)) jC.line X.env=pure true) (hs:∀x,foldedSetIterable iter X.env x=pure x:=by intro _;rfl) :
  ko I X (.Assign [.Name y py] (.DictComp kx vx [⟨tg,iter,ifs,0⟩] sc pos) jC) (aX (oi t ks.length (dQ dz ue) ug ut (kR uk uv)) vo):=by
 obtain⟨_,q,s⟩:=hi.ex
 obtain⟨_,q',s'⟩:=hI.ex
 refine⟨_,Er (xD t (inner:=fun acc env=>do
    let kv <-eval kx env
    let vv <-holding [kv] (eval vx env)
    match acc with
    | .ref d=>do
     standAt {kx.pos with endLine:=vx.pos.endLine,endCol:=vx.pos.endCol}
     holding [kv,vv] (dictSet d kv vv)
    |_=>unsupported "internal:dictcomp") S hc (vR q) (fun _ _ _=>rfl) q' Cw hs),?_⟩
 intro σ env Z H φ DE E O hq k
 refine qN (acc0:=(⟨[],[]⟩:qi t)) rfl OK (fun acc=>.cB true t acc.ks acc.ds) I9 s (rY hg ht fun C s H fp pins=>w6 hu (hk C s H fp pins) (hv C s H fp pins)) s' σ env Z H φ DE E O ?_ k
 have e:(fun(acc:qi t) (e':ai)=>∃d,Ref.a8 (.cB true t acc.ks acc.ds)=.a8 d/\vo d (e'.drop ks.length) DE.nx)=fun acc e'=>vo (.cB true t acc.ks acc.ds) (e'.drop ks.length) DE.nx:=by
  funext acc e'
  exact propext ⟨fun⟨d,h,q⟩=>by cases h;exact q,fun q=>⟨_,rfl,q⟩⟩
 show dQ dz ue env fun items e=>eD ug ut (kR uk uv) (fun acc e'=>vo (.cB true t acc.ks acc.ds) (e'.drop ks.length) DE.nx) items ⟨[],[]⟩ (List.replicate ks.length none++e)
 rw[<-e]
 exact hq
end
end VS
end
section
namespace VS
open PySem L2
section
variable {g:Int->Int->D}{C:Int->Int->Prop}{h:Int->D}
end
theorem bY{o:Bool}{ds:List D}:aU (.lst o ds)=.lst false (eA ds):=by simp only[aU]
theorem jN{ds:List D}:aU (.tup ds)=.tup (eA ds):=by simp only[aU]
theorem zj{o t:Bool}{ks:List DK}{ds:List D}:aU (.cB o t ks ds)=.cB false t ks (eA ds):=by simp only[aU]
theorem ie{i:Int}:aU (.int i)=.int i:=by simp only[aU]
theorem i9{x:Str}:aU (.str x)=.str x:=by simp only[aU]
theorem Ei{x:Bool}:aU (.bl x)=.bl x:=by simp only[aU]
theorem K0:aU .bH=.bH:=by simp only[aU]
theorem jO{o:Bool}{ds:List D}:bare (.lst o ds)=(!o&&a9 ds):=by simp only[bare]
theorem zk{ds:List D}:bare (.tup ds)=a9 ds:=by simp only[bare]
theorem Oh{o t:Bool}{ks:List DK}{ds:List D}:bare (.cB o t ks ds)=(!o&&a9 ds):=by simp only[bare]
theorem K1{i:Int}:bare (.int i)=true:=by simp only[bare]
theorem Ej{x:Str}:bare (.str x)=true:=by simp only[bare]
theorem SR{x:Bool}:bare (.bl x)=true:=by simp only[bare]
theorem SQ:bare .bH=true:=by simp only[bare]
theorem p1{o:Bool}{ds:List D}:eX (.lst o ds)=(o&&jR ds):=by simp only[eX]
theorem xx{ds:List D}:eX (.tup ds)=jR ds:=by simp only[eX]
theorem HL{o t:Bool}{ks:List DK}{ds:List D}:eX (.cB o t ks ds)=(o&&jR ds):=by simp only[eX]
theorem HK{i:Int}:eX (.int i)=true:=by simp only[eX]
theorem HJ{x:Str}:eX (.str x)=true:=by simp only[eX]
theorem SO{x:Bool}:eX (.bl x)=true:=by simp only[eX]
theorem SN:eX .bH=true:=by simp only[eX]
theorem bK{d:D}{ds:List D}:a9 (d::ds)=(bare d&&a9 ds):=by simp only[a9]
theorem eu:a9 []=true:=by simp only[a9]
theorem e9{d:D}{ds:List D}:jR (d::ds)=(eX d&&jR ds):=by simp only[jR]
theorem g9:jR []=true:=by simp only[jR]
theorem e_{d:D}{ds:List D}:eA (d::ds)=aU d::eA ds:=by simp only[eA]
theorem fK:eA []=[]:=by simp only[eA]
theorem lB:∀{ds:List D},a9 ds=true↔∀d∈ds,bare d=true
 | []=>by simp[a9]
 |d::ds=>by simp[a9,lB (ds:=ds)]
theorem rD:∀{ds:List D},jR ds=true↔∀d∈ds,eX d=true
 | []=>by simp[jR]
 |d::ds=>by simp[jR,rD (ds:=ds)]
theorem nB:∀{ds:List D},eA ds=ds.map aU
 | []=>by simp[eA]
 |d::ds=>by simp[eA,nB (ds:=ds)]
theorem Bj{α:Type}{xs:List α}{n:Nat}:il xs ((n:Nat):Int)=xs[n]?:=by
 unfold il x6
 by_cases h:n<xs.length
 ·rw[if_pos (by omega),if_pos (by omega)];simp
 ·rw[if_pos (by omega),if_neg (by omega)];simp;omega
theorem P_{α:Type}{xs:List α}:il xs 0=xs[0]?:=Bj (n:=0)
theorem IE{n m:Nat}(h:m<n):x6 n ((m:Nat):Int)=some m:=by
 unfold x6
 rw[if_pos (by omega),if_pos (by omega)];simp
end VS
end
section
namespace VS
open PySem L2
theorem LZ{i:Nat}{d:D}{env:ai}{k:ai->Prop}(h:i<env.length/\k (env.set i (some d))):au i d env k:=h
theorem IQ{i:Nat}{d:D}{env:ai}{k:ai->Prop}(h:i<env.length/\k (env.set i (some (aU d)))):bx i d env k:=h
theorem zM{s:Sel}{i:Nat}{uk uy:UX}{E:cY}{env:ai}(h:∃d0 kd y cs kg,env[i]? = some (some d0)/\s.ok d0/\uk env kd/\uy env y/\child d0 kd=some (.lst true cs,kg)/\cs.length<=1000000/\E.nx (env.set i (some (kg (.lst true (cs++[y])))))):ji s i uk uy E env:=h
theorem Fd{s:Sel}{i:Nat}{uj uk uv:UX}{E:cY}{env:ai}(h:∃d0 jd kd x t ks ds k kg,env[i]? = some (some d0)/\s.ok d0/\uj env jd/\uk env kd/\uv env x/\child d0 jd=some (.cB true t ks ds,kg)/\keyOf t kd=some k/\ds.length<=1000000/\E.nx (env.set i (some (kg (.cB true t (dput ks ds k x).1 (dput ks ds k x).2))))):mS s i uj uk uv E env:=h
section
variable {o o' t:Bool}{ds xs ys:List D}{ks:List DK}{i j k:Int}{x y:Str}{b c:Bool}{P:D->Prop}{d d1 d2:D}{a:Addr}{g:Int->Int->D}{C:Int->Int->Prop}{h1:Int->D}
end
theorem OO{ms:List Bool}{P:D->ai->Prop}{e:ai}(h:P .bH (fin ms e)):cY.nx (bC ms P) e:=h
theorem OM{ms:List Bool}{P:D->ai->Prop}{d:D}{e:ai}(h:P d (fin ms e)):cY.rt (bC ms P) d e:=h
theorem OP{c:Bool}{A B:Prop}(h:c=true)(k:A):(if c=true then A else B):=by rw[if_pos h];exact k
theorem OQ{c:Bool}{A B:Prop}(h:c=false)(k:B):(if c=true then A else B):=by rw[if_neg (by rw[h];exact Bool.false_ne_true)];exact k
theorem fD{c:Bool}{A B:Prop}(h:c=true->A)(k:c=false->B):(if c=true then A else B):=by
 cases e:c with
 |true=>exact h e
 |false=>exact k e
theorem bL{ug:UG}{ub:US}{E:cY}(W:List D->ai->Prop)(hn:∀e,W [] e->E.nx e)(hs:∀x xs e,(∀e',W xs e'->qg ug ub E xs e')->W (x::xs) e->ug x e fun e2=>ub ⟨qg ug ub E xs,E.rt,E.nx,qg ug ub E xs⟩ e2):∀xs e,W xs e->qg ug ub E xs e
 | [],e,h=>hn e h
 |x::xs,e,h=>hs x xs e (fun e'=>bL W hn hs xs e') h
theorem n_{uc:UT}{ub:US}{E:cY}{env:ai}(W:Nat->ai->Prop)(h0:∃m,W m env)(hs:∀m e (N:ai->Prop),(∀m' e',m'<m->W m' e'->N e')->W m e->uc e fun b e1=>if b=true then ub ⟨N,E.rt,E.nx,N⟩ e1 else E.nx e1):og uc ub E env:=
 ⟨W,h0,fun m e w=>hs m e (fun e2=>∃m',m'<m/\W m' e2) (fun m' e' l w'=>⟨m',l,w'⟩) w⟩
theorem eZ{α:Type}{ug:UG}{ut:UT}{inner:UL α}{k:α->ai->Prop}(W:List D->α->ai->Prop)(hn:∀a e,W [] a e->k a e)(hs:∀x xs a e,(∀a' e',W xs a' e'->eD ug ut inner k xs a' e')->W (x::xs) a e->ug x e fun e2=>ut e2 fun b e3=>if b=true then inner a e3 (eD ug ut inner k xs) else eD ug ut inner k xs a e3):∀xs a e,W xs a e->eD ug ut inner k xs a e
 | [],a,e,h=>hn a e h
 |x::xs,a,e,h=>hs x xs a e (fun a' e'=>eZ W hn hs xs a' e') h
theorem LR{n:Nat}{k:Int}(h:0<=k)(h2:k<n):x6 n k=some k.toNat:=by
 obtain⟨m,rfl⟩:=Int.eq_ofNat_of_zero_le h
 rw[IE (by omega)];rfl
theorem FW{α:Type}{xs:List α}{k:Int}(h:0<=k)(h2:k<xs.length):il xs k=some (xs[k.toNat]'(by omega)):=by
 obtain⟨m,rfl⟩:=Int.eq_ofNat_of_zero_le h
 rw[Bj,List.getElem?_eq_getElem (by omega)];rfl
theorem qw{α:Type}{f:α->D}{xs:List α}{k:Int}(h:0<=k)(h2:k<xs.length):il (xs.map f) k=some (f (xs[k.toNat]'(by omega))):=by
 rw[FW h (by simpa using h2)];simp
theorem MJ{α:Type}{xs:List α}{k:Int}(h:0<=k)(h2:k<xs.length):∃x∈xs,il xs k=some x:=⟨_,List.getElem_mem _,FW h h2⟩
theorem nM{α:Type}{f:α->D}{xs:List α}{k:Int}(h:0<=k)(h2:k<xs.length):∃x∈xs,il (xs.map f) k=some (f x):=⟨_,List.getElem_mem _,qw h h2⟩
end VS
end
section
namespace VS
open PySem L2
def m_(e:ai):List Ref->Option (List D)
 | []=>some []
 | .a8 d::rs=>(m_ e rs).map (aU d :: ·)
 | .var i::rs=>match e[i]?,m_ e rs with
  |some (some d),some ds=>if bare d=true then some (aU d::ds) else none
  |_,_=>none
theorem oF{e:ai}:∀{rs:List Ref}{ds:List D},m_ e rs=some ds->ds.length=rs.length/\∀(k:Nat) (d:D),ds[k]? = some d->(∃d0,rs[k]? = some (.a8 d0)/\d=aU d0)\/(∃i d0,rs[k]? = some (.var i)/\e[i]? = some (some d0)/\bare d0=true/\d=aU d0)
 | [],ds,h=>by cases (show some []=some ds from h);exact⟨rfl,fun k d z=>by simp at z⟩
 | .a8 d0::rs,ds,h=>by
  unfold m_ at h
  cases e2:m_ e rs with
  |none=>simp[e2] at h
  |some Bb=>
   rw[e2] at h
   cases (show some (aU d0::Bb)=some ds from h)
   obtain⟨l,ih⟩:=oF e2
   refine⟨by simp[l],fun k d z=>?_⟩
   cases k with
   |zero=>cases (show some (aU d0)=some d from z);exact .inl ⟨d0,rfl,rfl⟩
   |succ k=>exact ih k d (by simpa using z)
 | .var i::rs,ds,h=>by
  unfold m_ at h
  split at h
  ·rename_i d0 Bb e1 e2
   split at h
   ·rename_i hb
    cases (show some (aU d0::Bb)=some ds from h)
    obtain⟨l,ih⟩:=oF e2
    refine⟨by simp[l],fun k d z=>?_⟩
    cases k with
    |zero=>cases (show some (aU d0)=some d from z);exact .inr ⟨i,d0,rfl,e1,hb,rfl⟩
    |succ k=>exact ih k d (by simpa using z)
   ·cases h
  ·cases h
def qE(ms:List Bool)(m:fQ)(ua:UA):UB:=fun env Q=>ua env fun rs e=>∃ds,m_ e rs=some ds/\ds.length=ms.length/\m ds fun d es=>Q (.a8 d) e
theorem B2{ms:List Bool}{m:fQ}(RC:∀i:Nat,ms[i]? = some true->False){t:TA}{u:UA}(h:n4 t u):aZ (uf (fZ ms m) [] E0 t) (qE ms m u):=by
 intro σ env Z H φ Q R O q k
 refine h σ env Z H φ _ _ O q fun rs aK vs Z1 H1 bE G1 ⟨ds,Fg,hlen,q1⟩ O1 r1 ok=>?_
 rw[List.append_nil]
 obtain⟨lv,refs⟩:=qU ok
 obtain⟨l1,ps⟩:=oF Fg
 let Zc:Set:=fun a=>Z1 a\/G1 a
 let J6:Nat->Set:=fun _ _=>False
 have Oc:Ok Zc H1 (ds.map some) (vs.map some) J6:=by
  refine⟨fun j d e=>?_,fun _ _ _ z=>z.elim,fun _ _ z=>z.elim,fun _ _ z=>z.elim,fun a z=>z.elim (O1.zh a) fun z=>(r1.gm a z).ne,by simp[l1,lv]⟩
  obtain⟨x,ex,e⟩:=nr e
  cases ex
  rcases ps j d e with⟨d0,hr,rfl⟩|⟨i,d0,hr,he,hb,rfl⟩
  ·obtain⟨v,Gk,hv,ho,hs⟩:=refs j _ hr
   refine⟨v,by rw[List.getElem?_map,hv];rfl,?_⟩
   have ho:Own Z1 H1 d0 v Gk:=ho
   exact((Own.aU d0 ho).iB fun a z=>z.imp id (hs a)).mono fun _ z=>z.elim
  ·obtain⟨v,Gk,hv,ho,hs⟩:=refs j _ hr
   refine⟨v,by rw[List.getElem?_map,hv];rfl,?_⟩
   obtain⟨v',zN,gH⟩:=O1.own i d0 he
   have ho:σ[i]? = some (some v):=ho
   rw[zN] at ho;cases ho
   exact((Own.aU d0 (Own.bare d0 hb gH)).iB fun a z=>z.elim .inl fun z=>z.elim).mono fun _ z=>z.elim
 have nU:∀a,¬cT J6 a:=fun a ⟨_,z⟩=>z
 refine⟨by rw[lv,<-l1,hlen],ds,Zc,J6,_,hlen,Oc,fun j a z=>z.elim,q1,?_⟩
 rintro d es v Qb H' J5 G q2 Wt Qh rc sm ho
 have kk:∀a o,H1 a=some o->H' a=some o:=fun a o e=>rc.k a o e (nU a)
 have zc:∀a,Qb a->Z1 a\/G1 a\/H1 a=none:=fun a z=>by
  rcases rc.zn a z with z|z|z
  ·exact z.imp id .inl
  ·exact(nU a z).elim
  ·exact .inr (.inr z)
 have gn:∀a,G a->H1 a=none:=fun a z=>(rc.g a z).elim (fun z=>(nU a z).elim) id
 have nz:∀i a,bE i a->¬Qb a:=fun i a z y=>by
  rcases zc a y with y|y|y
  ·exact O1.fz i a z y
  ·exact r1.d a ⟨i,z⟩ y
  ·exact(O1.fm i a z).ne y
 have O2:Ok Qb H' aK σ bE:=by
  refine⟨fun i d' e=>?_,O1.dj,nz,fun i a z=>(O1.fm i a z).up fun o e=>kk a o e,fun a z=>Qh.zh a z,O1.len⟩
  obtain⟨w,hw,gH⟩:=O1.own i d' e
  exact⟨w,hw,Own.step (fun _=>False) (fun a z=>rc.z a (.inl z)) (fun a o e _=>kk a o e) (fun _ z=>z.elim) (fun _ _ z=>z.elim) d' (fun _ z=>z) (fun _ z=>z.elim) gH⟩
 refine k (.a8 d) aK v Qb H' bE G q2 O2 ⟨fun a z=>rc.z a (.inl (r1.z a z)),fun a z=>?_,fun a o e n=>?_,r1.f,fun a z=>r1.kn (.inr (gn a z)),fun a ⟨i,z⟩ y=>(O1.fm i a z).ne (gn a y),fun a z=>rc.gz a z,rc.gm⟩ ho
 ·rcases zc a z with z|z|z
  ·exact r1.zn a z
  ·exact .inr (r1.g a z)
  ·exact .inr (r1.kn (.inr z))
 ·exact kk a o (r1.k a o e n)
theorem S3{ms:List Bool}(h:(ms.all fun b=>!b)=true):∀i:Nat,ms[i]? = some true->False:=fun i e=>by
 have:=List.all_eq_true.mp h true (List.mem_of_getElem? e)
 simp at this
section
variable {X:Cx}{e:Expr}{es:List Expr}{wa:UA}{x:Str}{k:Nat}{p pos:Pos}
theorem Dh{ms:List Bool}{m:fQ}(RC:∀i:Nat,ms[i]? = some true->False)(O:L2.Own X.prog X.w X.K X.mg X.base x k (fZ ms m))(hr:dS k X.A)(ha:VA X (e::es) wa)(hg:Gl X x)(jo:(x==("__debug__":Str))=false:=by decide)(h1:aH e=true:=by rfl)(h2:es.all aH=true:=by rfl):VE X (.Call (.Name x p) (e::es) [] pos) (qE ms m wa):=
 let ⟨_,q,s⟩:=ha.ex;⟨_,Oq O hr q hg jo h1 h2,B2 RC s⟩
end
end VS
end
section
namespace VS
open PySem L2
def KL(K:PySem.W.Frag)(a:Addr)(ns:List Int):Prop:=∃(o:Obj) (its:Array Value) (n:Nat),K.lookup a=some o/\o.cls=.type "list"/\o.dict=none/\o.data=.seq its n/\its.size<=sizeLine/\Vals (ns.map V.int) its.toList
theorem oJ{Z:Set}{H:Hp}:∀{ns:List Int},ar Z H (ns.map D.int) (ns.map V.int) cx
 | []=>by simp[ar]
 |n::ns=>by
  simp only[List.map_cons,ar]
  exact⟨_,_,cx,cx,rfl,a_.mpr rfl,oJ,fun _ z=>z,fun _ z=>z,fun _ z=>z.elim⟩
def GZ(L:Addr->List Int->Prop)(ua:UB)(ul uh:UO):UB:=fun env Q=>ua env fun r e1=>ul e1 fun lo e2=>uh e2 fun hi e3=>(∃o ds,r.at e3=some (.lst o ds)/\a9 ds=true/\Q (.a8 (.lst true (eQ ds lo hi))) e3)\/∃a ns,r.at e3=some (.fn a)/\L a ns/\Q (.a8 (.lst true (eQ (ns.map .int) lo hi))) e3
theorem Hl{K:PySem.W.Frag}{t:TE}{u:UB}{tl th:TO}{ul uh:UO}(h:aZ t u)(hl:wK tl ul)(hh:wK th uh):aZ (Q8 (KY K) t tl th) (GZ (KL K) u ul uh):=by
 intro σ env Z H φ Q R O q k
 refine h σ env Z H φ _ _ O q fun x1 aK v1 Z1 H1 bE G1 q1 O1 r1 jc=>?_
 refine hl σ aK Z1 H1 bE _ _ O1 q1 fun lo gB Z2 H2 hX q2 O2 r2=>?_
 refine hh σ gB Z2 H2 hX _ _ O2 q2 fun hi tV Z3 H3 yH q3 O3 r3=>?_
 obtain⟨AF,_⟩:=r1.seq r2
 have qc:=(jc.keep O1 r2 r1.d)
 have AS:=qc.keep O2 r3 fun a z y=>AF.d a z (.inl y)
 rcases q3 with⟨o,ds,ea,hb,q3⟩|⟨a,ns,ea,hL,q3⟩
 ·obtain⟨F,ho⟩:=dW O3 AS ea
  obtain⟨a,vs,rfl,hr,CA⟩:=fO ho
  refine⟨a,vs,rfl,.inl hr,fun p H4 hn hs hp=>?_⟩
  have hc:ar Z3 H3 (eQ ds lo hi) (kU vs lo hi) cx:=by
   unfold eQ kU
   rw[CA.length]
   exact((CA.bare ds hb).drop _).take _
  have n:=jb.lst hn hs hp hc
  exact k (.a8 _) tV _ Z3 H4 yH _ q3 (O3.grow hs) (n.res O3 (AF.drop.trans r3)) n.own
 ·obtain⟨F,ho⟩:=dW O3 AS ea
  have ho:v1=.ref a:=by simpa only [Own] using ho
  subst ho
  refine⟨a,ns.map V.int,rfl,.inr hL,fun p H4 hn hs hp=>?_⟩
  have hc:ar Z3 H3 (eQ (ns.map D.int) lo hi) (kU (ns.map V.int) lo hi) cx:=by
   unfold eQ kU
   rw[List.length_map,List.length_map]
   exact(oJ.drop _).take _
  have n:=jb.lst hn hs hp hc
  exact k (.a8 _) tV _ Z3 H4 yH _ q3 (O3.grow hs) (n.res O3 (AF.drop.trans r3)) n.own
section
variable {X:Cx}{e:Expr}{ue:UB}{pos:Pos}
theorem Bw{lo hi:Option Expr}{ul uh:UO}{p2:Pos}(h:VE X e ue)(hl:VO X lo ul)(hh:VO X hi uh):VE X (.Subscript e (.Slice lo hi none p2) pos) (GZ (KL X.K) ue ul uh):=let ⟨_,q,s⟩:=h.ex;let ⟨_,q1,s1⟩:=hl.ex;let ⟨_,q2,s2⟩:=hh.ex;⟨_,rh xm q q1 q2,Hl s s1 s2⟩
end
theorem BM{K:PySem.W.Frag}{m:fQ}{H:Hp}{a:Addr}{ns:List Int}{E:XK}(hS:ju K H a (ns.map V.int))(h:∀d:D,(d=.lst false (ns.map .int)\/(d=.fn a/\KL K a ns))->m [d] fun r _=>r=.bl true):fZ [false] m [.ref a] H (fun v _=>v=.bl true) E:=by
 refine⟨rfl,?_⟩
 rcases hS with hS|hS
 ·refine⟨[.lst false (ns.map .int)],fun b=>b=a,fun _ _=>False,fun r _=>r=.bl true,rfl,⟨fun i d e=>?_,fun _ _ _ z=>z.elim,fun _ _ z=>z.elim,fun _ _ z=>z.elim,fun b z=>?_,rfl⟩,fun _ _ z=>z.elim,h _ (.inl rfl),?_⟩
  ·cases i with
   |zero=>
    cases (show some (some (D.lst false (ns.map .int)))=some (some d) from e)
    refine⟨.ref a,rfl,?_⟩
    simp only[Own]
    exact⟨a,_,rfl,hS,rfl,oJ⟩
   |succ i=>simp at e
  ·subst z
   rcases hS with e|⟨_,e⟩<;>rw[e]<;>simp
  ·rintro d es v Z' H' cN G rfl _ _ _ _ ho
   exact dh.mp ho
 ·refine⟨[.fn a],fun _=>False,fun _ _=>False,fun r _=>r=.bl true,rfl,⟨fun i d e=>?_,fun _ _ _ z=>z.elim,fun _ _ z=>z.elim,fun _ _ z=>z.elim,fun b z=>z.elim,rfl⟩,fun _ _ z=>z.elim,h _ (.inr ⟨rfl,hS⟩),?_⟩
  ·cases i with
   |zero=>
    cases (show some (some (D.fn a))=some (some d) from e)
    exact⟨.ref a,rfl,by simp only[Own]⟩
   |succ i=>simp at e
  ·rintro d es v Z' H' cN G rfl _ _ _ _ ho
   exact dh.mp ho
end VS
end
section
namespace L2
open PySem PySem.Spec PyProof.Rows
inductive Gd where
 |str|tup|lst|int|bool
 deriving DecidableEq
def Gd.nm:Gd->String
 | .str => "str" | .tup => "tuple" | .lst => "list" | .int => "int" | .bool => "bool"
def Xr(H:Hp):V->Gd->Bool->Prop
 | .int _,t,b=>b=decide (t=.int)
 | .bl _,t,b=>b=(decide (t=.int)||decide (t=.bool))
 | .str _,t,b=>b=decide (t=.str)
 | .bH,_,b=>b=false
 | .ref a,t,b=>((∃xs,Rd H a (.lst xs))/\b=decide (t=.lst))\/((∃xs,Rd H a (.tup xs))/\b=decide (t=.tup))\/(MN H a/\b=false)
 |_,_,_=>False
def Of(t:Gd):List V->Hp->VK->Prop:=fun xs H Q=>∃x b,xs=[x,.ty t.nm]/\Xr H x t b/\Q (.bl b) H
theorem FT{X:Cx}{t:Gd}:hV X (.builtin "isinstance") (Of t):=by
 intro pins s σ H xs us Q I r h
 obtain⟨x,b,rfl,hi,q⟩:=h
 cases r with
 |cons r1 r2=>
  cases r2 with
  |cons r2 r3=>
   cases r3
   obtain rfl:_=Value.type t.nm:=r2
   have f0:EP X pins σ Q (.bool b) s:=⟨.bl b,H,I,rfl,q⟩
   have f1:EP X pins σ Q (.bool b) {s with toks:=s.toks+1}:=⟨.bl b,H,I.tok _,rfl,q⟩
   cases x with
   |int i=>
    obtain⟨tk,rfl⟩:=r1
    cases t<;>cases hi
    ·exact IsiPair.int_str f1
    ·exact IsiPair.int_tuple f1
    ·exact IsiPair.int_list f1
    ·exact IsiPair.int_int f0
    ·exact IsiPair.int_bool f1
   |bl i=>
    cases r1
    cases t<;>cases hi
    ·exact IsiPair.bool_str f1
    ·exact IsiPair.bool_tuple f1
    ·exact IsiPair.bool_list f1
    ·exact IsiPair.bool_int f0
    ·exact IsiPair.bool_bool f0
   |str i=>
    obtain⟨tk,rfl⟩:=r1
    cases t<;>cases hi
    ·exact IsiPair.str_str f0
    ·exact IsiPair.str_tuple f1
    ·exact IsiPair.str_list f1
    ·exact IsiPair.str_int f1
    ·exact IsiPair.str_bool f1
   |bH=>
    cases r1
    cases t<;>cases hi
    ·exact IsiPair.NoneType_str f1
    ·exact IsiPair.NoneType_tuple f1
    ·exact IsiPair.NoneType_list f1
    ·exact IsiPair.NoneType_int f1
    ·exact IsiPair.NoneType_bool f1
   |ref a=>
    cases r1
    rcases hi with⟨⟨ys,hr⟩,e⟩|⟨⟨ys,hr⟩,e⟩|⟨hd,e⟩
    ·obtain⟨its,_,pl,_⟩:=I.list (.inl hr)
     obtain⟨o,h1,h2,_⟩:=pl.isList
     cases t<;>cases e
     ·exact IsiPair.list_str h1 h2 f1
     ·exact IsiPair.list_tuple h1 h2 f1
     ·exact IsiPair.list_list h1 h2 f0
     ·exact IsiPair.list_int h1 h2 f1
     ·exact IsiPair.list_bool h1 h2 f1
    ·obtain⟨its,_,⟨o,h1,h2,_⟩,_⟩:=I.tuple (.inl hr)
     cases t<;>cases e
     ·exact IsiPair.tuple_str h1 h2 f1
     ·exact IsiPair.tuple_tuple h1 h2 f0
     ·exact IsiPair.tuple_list h1 h2 f1
     ·exact IsiPair.tuple_int h1 h2 f1
     ·exact IsiPair.tuple_bool h1 h2 f1
    ·obtain⟨⟨o,h1,h2⟩,_⟩:=wd I hd
     cases e
     cases t
     ·exact IsiPair.dict_str h1 h2 f1
     ·exact IsiPair.dict_tuple h1 h2 f1
     ·exact IsiPair.dict_list h1 h2 f1
     ·exact IsiPair.dict_int h1 h2 f1
     ·exact IsiPair.dict_bool h1 h2 f1
   |wH _=>exact hi.elim
   |Gp _=>exact hi.elim
   |ty _=>exact hi.elim
theorem EY{X:Cx}:J2 X "dict.copy" (fun x xs H Q=>∃a av,x=.ref a/\xs=[]/\Rd H a (.dK av)/\∀q,H q=none->Q (.ref q) (upd H q (.dK av))):=by
 intro pins s σ H x xs v us Q I rx rv h
 obtain⟨a,av,rfl,rfl,e,q⟩:=h
 cases rx
 have L7:=rv.zero
 subst L7
 obtain⟨z,hd,vs,rel,dd⟩:=l0 I.cg e
 refine call_meetsIn F.slot_dict_copy dd.typeIs F.entry_dict_copy (F.args_dict_copy_1 _) (meets_dict_copy _ a hd) ⟨vs,dd,by rw[<-rel.length];exact z,fun h' d1 d2 kp=>?_⟩
 exact⟨.ref s.heap.objs.size,_,I.laid (a:=s.heap.objs.size) (o:=.dK av) (t':=s.toks) kp (Nat.le_refl _) (ph z (beq_eq_false_iff_ne.mpr (Ne.symm (Nat.ne_of_lt I.big))) rel d1),rfl,q _ (I.cg.fresh (Nat.le_refl _))⟩
end L2
namespace L2
open PySem PySem.Spec PyProof.Rows
def Dz(td:TE):TE:=fun σ H Q=>td σ H fun x H1=>∃a av,x=.ref a/\Rd H1 a (.dK av)/\∀q,H1 q=none->Q (.ref q) (upd H1 q (.dK av))
theorem EG{X:Cx}{o:Expr}{td:TE}{apos bD:Pos}(ho:PE X o td)(eh:attributeBase o "copy" X.env (eval o X.env)=eval o X.env:=by rfl)(ef:(apos.endLine==bD.line)=true:=by rfl):PE X (.Call (.Attribute o "copy" apos) [] [] bD) (Dz td):=by
 intro pins s σ H Q I h
 refine wpAny_Call_method0_late eh ef (cn (ho pins s σ H _ I h) fun v s1 ⟨x,H1,I1,r1,a,av,ex,e,q1⟩=>?_)
 subst ex
 obtain rfl:v=Value.ref a:=r1
 obtain⟨t1,t2,_⟩:=wd I1 (.inl ⟨av,e⟩)
 exact⟨"dict", "dict.copy",F.plainAttrs_dict,F.slot_dict_copy,F.type_dict_copy,t1,t2,Calls.callWith_builtin rfl (PySem.evalArgs_none (EY pins s1 σ H1 (.ref a) [] _ [] Q I1 rfl .nil ⟨a,av,rfl,rfl,e,q1⟩))⟩
end L2
end
section
namespace VS
open PySem L2
def LV(t:Gd):D->Option Bool
 | .int _=>some (decide (t=.int))
 | .bl _=>some (decide (t=.int)||decide (t=.bool))
 | .str _=>some (decide (t=.str))
 | .tup _=>some (decide (t=.tup))
 | .lst _ _=>some (decide (t=.lst))
 | .cB _ _ _ _=>some false
 | .bH=>some false
 | .fn _=>none
def yP(t:Gd)(ua:UB):UB:=fun env Q=>ua env fun r e=>∃d b,r.at e=some d/\LV t d=some b/\Q (.a8 (.bl b)) e
theorem LU{Z:Set}{H:Hp}{d:D}{v:V}{F:Set}{t:Gd}{b:Bool}(h:Own Z H d v F)(e:LV t d=some b):Xr H v t b:=by
 cases d with
 |int i=>cases a_.mp h;cases e;rfl
 |bl i=>cases dh.mp h;cases e;rfl
 |str i=>cases dX.mp h;cases e;rfl
 |bH=>cases lh.mp h;cases e;rfl
 |fn a=>cases e
 |tup ds=>obtain⟨a,vs,rfl,hr,_⟩:=de.mp h;cases e;exact .inr (.inl ⟨⟨_,.inl hr⟩,rfl⟩)
 |lst o ds=>obtain⟨a,vs,rfl,hr,_⟩:=fO h;cases e;exact .inl ⟨⟨_,hr⟩,rfl⟩
 |cB o t ks ds=>obtain⟨a,vs,u,rfl,hr,hd,_⟩:=gi h;cases e;exact .inr (.inr ⟨zG (Z:=Z) hr hd,rfl⟩)
theorem Ht{t:Gd}{te:TE}{ua:UB}(h:aZ te ua):aZ (Hd (Of t) (lT te (lT (tC (.ty t.nm)) xf))) (yP t ua):=by
 intro σ env Z H φ Q R O q k
 refine h σ env Z H φ _ _ O q fun r aK v Z1 H1 bE G1 q1 O1 r1 jc=>?_
 obtain⟨d,b,e1,e2,q2⟩:=q1
 obtain⟨F,ho⟩:=dW O1 jc e1
 exact⟨v,b,rfl,LU ho e2,k (.a8 (.bl b)) aK (.bl b) Z1 H1 bE cx q2 O1 r1.drop (show Own Z1 H1 (.bl b) (.bl b) cx from dh.mpr rfl)⟩
section
variable {I:Nat->Bool}{X:Cx}{a b e o:Expr}{es:List Expr}{ua ub ue uk uv:UB}{wa:UA}{x:Str}{i n k:Nat}{p p2 pos pos' apos bD:Pos}
theorem De{t:Gd}{c:Str}(hg:Gl X "isinstance")(hm:X.mg "isinstance" = none)(hc:Gl X c)(Pr:X.mg c=none)(hb:bootBuiltins c=some (.type t.nm))(h:VE X e ua)(hn:c≠"__name__":=by decide)(hd:(c==("__debug__":Str))=false:=by decide)(h1:aH e=true:=by rfl) :
  VE X (.Call (.Name "isinstance" p) [e,.Name c p2] [] pos) (yP t ua):=
 let ⟨_,q,s⟩:=h.ex;⟨_,wG FT hg hm PyProof.Rows.boot_isinstance (JD q (JD (Ij (v:=.ty t.nm) hc Pr hb rfl hn hd) mn rfl) h1) (by decide) (by decide) h1 rfl,Ht s⟩
def wu:D->(D->Prop)->Prop
 | .cB _ false ks ds,P=>a9 ds=true/\P (.cB true false ks ds)
 |_,_=>False
theorem BZ{t:TE}{u:UB}(h:aZ t u):aZ (Dz t) (pX wu u):=vB (r:=fun x H1 Q=>∃a av,x=.ref a/\Rd H1 a (.dK av)/\∀q,H1 q=none->Q (.ref q) (upd H1 q (.dK av))) h fun Z H d v F P R ho hf kk=>by
 cases d<;>try exact hf.elim
 rename_i o t ks ds
 cases t<;>try exact hf.elim
 obtain⟨a,vs,u,rfl,hr,⟨kl,rfl,pK,yc,rfl⟩,hl⟩:=gi ho
 exact⟨a,_,rfl,hr,fun q hn=>kk _ _ _ (fun a=>a=q) hf.2 ⟨ck.upd hn,c9.mpr ⟨q,vs,_,rfl,aB,⟨kl,rfl,pK,yc,rfl⟩,rfl,((hl.bare _ hf.1).grow (ck.upd hn)).mono fun _ z=>z.elim⟩,fun b z=>by subst z;exact⟨hn,by rw[aB];exact trivial⟩⟩⟩
theorem Df(h:VE X o ua)(eh:attributeBase o "copy" X.env (eval o X.env)=eval o X.env:=by rfl)(ef:(apos.endLine==bD.line)=true:=by rfl):VE X (.Call (.Attribute o "copy" apos) [] [] bD) (pX wu ua):=let ⟨_,q,s⟩:=h.ex;⟨_,EG q eh ef,BZ s⟩
def Bz(ua:UB)(ul uh:UO):UB:=fun env Q=>ua env fun r e1=>ul e1 fun lo e2=>uh e2 fun hi e3=>∃ds,r.at e3=some (.tup ds)/\a9 ds=true/\¬(HT.e8 ds.length 0 lo=0/\HT.e8 ds.length ds.length hi=ds.length)/\Q (.a8 (.tup (eQ ds lo hi))) e3
theorem Hk{K:PySem.W.Frag}{t:TE}{u:UB}{tl th:TO}{ul uh:UO}(h:aZ t u)(hl:wK tl ul)(hh:wK th uh):aZ (Q8 (Ob K) t tl th) (Bz u ul uh):=by
 intro σ env Z H φ Q R O q k
 refine h σ env Z H φ _ _ O q fun x1 aK v1 Z1 H1 bE G1 q1 O1 r1 jc=>?_
 refine hl σ aK Z1 H1 bE _ _ O1 q1 fun lo gB Z2 H2 hX q2 O2 r2=>?_
 refine hh σ gB Z2 H2 hX _ _ O2 q2 fun hi tV Z3 H3 yH q3 O3 r3=>?_
 obtain⟨AF,_⟩:=r1.seq r2
 have qc:=(jc.keep O1 r2 r1.d)
 have AS:=qc.keep O2 r3 fun a z y=>AF.d a z (.inl y)
 obtain⟨ds,ea,hb,hw,q3⟩:=q3
 obtain⟨F,ho⟩:=dW O3 AS ea
 obtain⟨a,vs,rfl,hr,CA⟩:=de.mp ho
 refine⟨a,vs,rfl,.inl (.inl hr),by rw[CA.length];exact hw,fun p hn=>?_⟩
 have hc:ar Z3 H3 (eQ ds lo hi) (kU vs lo hi) cx:=by
  unfold eQ kU
  rw[CA.length]
  exact((CA.bare ds hb).drop _).take _
 have hs:=ck.upd (H:=H3) (o:=.tup (kU vs lo hi)) hn
 have n:jb Z3 H3 (upd H3 p (.tup (kU vs lo hi))) (.tup (eQ ds lo hi)) (.ref p) cx:=⟨hs,de.mpr ⟨p,_,rfl,aB,hc.grow hs⟩,fun _ z=>z.elim⟩
 exact k (.a8 _) tV _ Z3 _ yH _ q3 (O3.grow hs) (n.res O3 (AF.drop.trans r3)) n.own
theorem oe{lo hi:Option Expr}{ul uh:UO}(h:VE X e ue)(hl:VO X lo ul)(hh:VO X hi uh):VE X (.Subscript e (.Slice lo hi none p2) pos) (Bz ue ul uh):=let ⟨_,q,s⟩:=h.ex;let ⟨_,q1,s1⟩:=hl.ex;let ⟨_,q2,s2⟩:=hh.ex;⟨_,rh KA q q1 q2,Hk s s1 s2⟩
def NW(ua:UA):UI:=fun env Q=>ua env fun rs e=>∃i j:Int,rs=[.a8 (.int i),.a8 (.int j)]/\-(2 ^ 62)<=i/\i<2 ^ 62/\-(2 ^ 62)<=j/\j<2 ^ 62/\Q (fq i (j-i).toNat) e
end
end VS
end
section
namespace VS
open PySem L2
def ni(A:List (Str×Addr)):List (Key×V):=A.map fun p=>(.inr p.1,.ref p.2)
theorem qD(x:Str):∀A:List (Str×Addr),f_ (ni A) (.inr x)=(A.lookup x).map V.ref
 | []=>rfl
 |(y,a)::A=>by
  show f_ ((Sum.inr y,V.ref a)::ni A) (.inr x)=_
  by_cases e:y=x
  ·rw[je (by rw[e]),List.lookup_cons,e];simp
  ·rw[jf (fun z=>e (Sum.inr.inj z)),List.lookup_cons,qD x A]
   have:(x==y)=false:=by simpa using Ne.symm e
   rw[this]
theorem j7(x:Str):∀A:List (Str×Addr),(A.lookup x).isSome=(A.map (·.1)).contains x
 | []=>rfl
 |(y,a)::A=>by
  rw[List.lookup_cons,List.map_cons,List.contains_cons,<-j7 x A]
  cases e:x==y<;>simp
def w_(neg:Bool)(ks:List Str)(ua:UB):UB:=fun env Q=>ua env fun r e=>∃x,r.at e=some (.str x)/\Q (.a8 (.bl (if neg then !ks.contains x else ks.contains x))) e
def xa(A:List (Str×Addr))(ua:UB):UB:=fun env Q=>ua env fun r e=>∃x a,r.at e=some (.str x)/\A.lookup x=some a/\Q (.a8 (.fn a)) e
theorem Az{X:Cx}{neg:Bool}{aO:Addr}{A:List (Str×Addr)}{t:TE}{u:UB}(hD:n6 X.prog X.w X.base aO (ni A))(h:aZ t u):aZ (Ks X neg t (tC (.ref aO))) (w_ neg (A.map (·.1)) u):=by
 intro σ env Z H φ Q R O q k
 refine h σ env Z H φ _ _ O q fun r aK v Z1 H1 bE G1 q1 O1 r1 jc=>?_
 obtain⟨x,e1,q2⟩:=q1
 obtain⟨F,ho⟩:=dW O1 jc e1
 have ho:v=.str x:=dX.mp ho
 subst ho
 refine⟨aO,_,.inr x,rfl,hD,rfl,?_⟩
 have e:(f_ (ni A) (.inr x)).isSome=(A.map (·.1)).contains x:=by rw[qD,Option.isSome_map,j7]
 rw[e]
 exact k (.a8 (.bl _)) aK (.bl _) Z1 H1 bE cx q2 O1 r1.drop (show Own Z1 H1 (.bl _) (.bl _) cx from dh.mpr rfl)
theorem DL{X:Cx}{aO:Addr}{A:List (Str×Addr)}{t:TE}{u:UB}(hD:n6 X.prog X.w X.base aO (ni A))(h:aZ t u):aZ (Jp X (tC (.ref aO)) t) (xa A u):=by
 intro σ env Z H φ Q R O q k
 refine h σ env Z H φ _ _ O q fun r aK v Z1 H1 bE G1 q1 O1 r1 jc=>?_
 obtain⟨x,a,e1,e2,q2⟩:=q1
 obtain⟨F,ho⟩:=dW O1 jc e1
 have ho:v=.str x:=dX.mp ho
 subst ho
 refine⟨aO,_,.inr x,.ref a,rfl,hD,rfl,by rw[qD,e2];rfl,?_⟩
 exact k (.a8 (.fn a)) aK (.ref a) Z1 H1 bE cx q2 O1 r1.drop (show Own Z1 H1 (.fn a) (.ref a) cx from zq.mpr rfl)
def qF(i:Nat)(S:Addr->fQ->Prop)(ms:List Bool)(ua:UA):UB:=fun env Q=>∃a m,env[i]? = some (some (.fn a))/\S a m/\aA ms m ua env Q
theorem B3{X:Cx}{i k:Nat}{ms:List Bool}{S:Addr->fQ->Prop}(hS:∀a m,S a m->sM X.prog X.w X.K X.mg X.base a k (fZ ms m))(hr:dS k X.A){t:TA}{u:UA}(h:n4 t u):aZ (yV X i t) (qF i S ms u):=by
 intro σ env Z H φ Q R O ⟨a,m,e,hs,q⟩ kk
 obtain⟨v,hv,ho⟩:=O.own i _ e
 have ho:v=.ref a:=zq.mp ho
 subst ho
 refine⟨a,k,fZ ms m,hv,hS a m hs,hr,?_⟩
 have:=xk (m:=m) (ms:=ms) h σ env Z H φ Q R O q kk
 simp only[uf,List.append_nil] at this
 exact this
section
variable {I:Nat->Bool}{X:Cx}{a b e o:Expr}{es:List Expr}{ua ub ue uk uv:UB}{wa:UA}{x:Str}{i n k:Nat}{p p2 pos pos' apos bD:Pos}{aO:Addr}{A:List (Str×Addr)}
theorem Ki(hm:X.mg x=some (.ref aO))(hg:Gl X x)(hD:n6 X.prog X.w X.base aO (ni A))(h:VE X a ua)(hd:(x==("__debug__":Str))=false:=by decide):VC X .In a (.Name x p) (w_ false (A.map (·.1)) ua):=let ⟨_,q,s⟩:=h.ex;⟨_,Lj q (vS hm hg hd),Az hD s⟩
theorem Bx(hm:X.mg x=some (.ref aO))(hg:Gl X x)(hD:n6 X.prog X.w X.base aO (ni A))(h:VE X a ua)(hd:(x==("__debug__":Str))=false:=by decide):VC X .NotIn a (.Name x p) (w_ true (A.map (·.1)) ua):=let ⟨_,q,s⟩:=h.ex;⟨_,Cf q (vS hm hg hd),Az hD s⟩
theorem GO(hm:X.mg x=some (.ref aO))(hg:Gl X x)(hD:n6 X.prog X.w X.base aO (ni A))(h:VE X b ub)(hs:wL b)(hd:(x==("__debug__":Str))=false:=by decide):VE X (.Subscript (.Name x p) b pos) (xa A ub):=let ⟨_,q,s⟩:=h.ex;⟨_,Ib (vS hm hg hd) q hs,DL hD s⟩
theorem Di{ms:List Bool}{S:Addr->fQ->Prop}(hS:∀a m,S a m->sM X.prog X.w X.K X.mg X.base a k (fZ ms m))(hr:dS k X.A)(hN:X.N[i]? = some x)(hv:km X.env.scope x)(ha:VA X (e::es) wa)(jo:(x==("__debug__":Str))=false:=by decide)(fu:(x==("__classdict__":Str))=false:=by decide)(h1:aH e=true:=by rfl)(h2:es.all aH=true:=by rfl):VE X (.Call (.Name x p) (e::es) [] pos) (qF i S ms wa):=
 let ⟨_,q,s⟩:=ha.ex;⟨_,Oo q hN hv jo fu h1 h2,B3 hS hr s⟩
end
def fY{α:Type}:List DK->List α->DK->List DK×List α
 |k::ks,d::ds,k'=>if k=k' then((fY ks ds k').1,(fY ks ds k').2) else(k::(fY ks ds k').1,d::(fY ks ds k').2)
 |_,_,_=>([],[])
theorem uZ(k:Key):∀(kl:List Key) (vs:List V),kl.length=vs.length->kl.Nodup->∃(uO:List Key) (kf:List V),lZ (kl.zip vs) k=uO.zip kf/\uO.length=kf.length/\uO.Nodup/\(∀y,y∈uO->y∈kl)/\(uO.map DK.s,kf)=fY (kl.map DK.s) vs (.s k)
 | [],[],_,_=>⟨[],[],rfl,rfl,by simp,by simp,rfl⟩
 | [],v::vs,h,_=>by simp at h
 |k'::kl,[],h,_=>by simp at h
 |k'::kl,v::vs,h,hn=>by
  obtain⟨Ww,VP,e1,e2,e3,e4,e5⟩:=uZ k kl vs (by simpa using h) (List.nodup_cons.mp hn).2
  simp only[List.map_cons,fY]
  by_cases e:k'=k
  ·refine⟨Ww,VP,?_,e2,e3,fun y hy=>.tail _ (e4 y hy),by rw[if_pos (by rw[e])];exact e5⟩
   rw[<-e1]
   simp[lZ,e]
  ·refine⟨k'::Ww,v::VP,?_,by simp[e2],List.nodup_cons.mpr ⟨fun z=>(List.nodup_cons.mp hn).1 (e4 _ z),e3⟩,fun y hy=>?_,by rw[if_neg (fun z=>e (DK.s.inj z)),<-e5];rfl⟩
   ·rw[List.zip_cons_cons,List.zip_cons_cons,<-e1]
    simp[lZ,e]
   ·rcases List.mem_cons.mp hy with rfl|hy
    ·exact .head _
    ·exact .tail _ (e4 y hy)
theorem ar.fY{Z:Set}{H:Hp}:∀{ks:List DK}{ds:List D}{vs:List V}{F:Set}{k:DK},ar Z H ds vs F->ar Z H (VS.fY ks ds k).2 (VS.fY ks vs k).2 F/\(VS.fY ks ds k).1=(VS.fY ks vs k).1
 | [],ds,vs,F,k,h=>by
  have e1:VS.fY [] ds k=([],[]):=by cases ds<;>rfl
  have e2:VS.fY [] vs k=([],[]):=by cases vs<;>rfl
  rw[e1,e2]
  exact⟨ba.mpr rfl,rfl⟩
 |k'::ks,[],vs,F,k,h=>by
  cases ba.mp h
  exact⟨ba.mpr rfl,rfl⟩
 |k'::ks,d::ds,vs,F,k,h=>by
  obtain⟨v,r,F1,F2,rfl,h1,h2,s1,s2,dj⟩:=aF.mp h
  obtain⟨i1,i2⟩:=ar.fY (ks:=ks) (k:=k) h2
  simp only[VS.fY]
  by_cases e:k'=k
  ·rw[if_pos e,if_pos e];exact⟨i1.mono s2,i2⟩
  ·rw[if_neg e,if_neg e];exact⟨aF.mpr ⟨v,_,F1,F2,rfl,h1,i1,s1,s2,dj⟩,by rw[i2]⟩
def Al(i:Nat)(uk:UB):UB:=fun env Q=>(∃o t ks ds,env[i]? = some (some (.cB o t ks ds)))/\uk env fun r e=>∃kd k ks ds d,r.at e=some kd/\D_ kd=some k/\e[i]? = some (some (.cB true false ks ds))/\bO ks ds (.s k)=some d/\bare d=true/\Q (.a8 d) (e.set i (some (.cB true false (fY ks ds (.s k)).1 (fY ks ds (.s k)).2)))
theorem DV{i:Nat}{ty:TE}{uk:UB}(h:aZ ty uk):aZ (Dw (jz i) ty) (Al i uk):=by
 intro σ env Z H φ Q R O ⟨⟨o0,t0,ks0,Xn,e0⟩,q⟩ kk
 obtain⟨v,hv,ho⟩:=O.own i _ e0
 obtain⟨a,NU,u0,rfl,O7,hd0,_⟩:=gi ho
 refine⟨_,hv,a,rfl,zG (Z:=Z) O7 hd0,h σ env Z H φ _ _ O q fun r aK y Z1 H1 bE G1 ⟨kd,k,ks,ds,d,e1,ek,e2,ed,hb,q1⟩ O1 r1 jc=>?_⟩
 obtain⟨F,hy⟩:=dW O1 jc e1
 have hy:y=kV k:=nh ek hy
 obtain⟨v2,OS,ho2⟩:=O1.own i _ e2
 rw[hv] at OS
 cases OS
 obtain⟨a',vs,u,ea,hr,⟨kl,rfl,pK,yc,rfl⟩,ha,hl⟩:=c9.mp ho2
 cases ea
 obtain⟨w,hw,how⟩:=(ar.find (ks:=kl.map DK.s) (k:=.s k) hl).1 d ed
 refine⟨_,k,w,hr,hy,by rw[yN k kl vs pK];exact hw,?_⟩
 obtain⟨uO,kf,x1,x2,x3,_,x5⟩:=uZ k kl vs pK yc
 rw[x1]
 have fP:∀b,b≠a->upd H1 a (.dK (uO.zip kf)) b=H1 b:=fun b n=>aE n
 have hW:∀b,(fun b=>b=a) b->bE i b:=fun b z=>by rw[z];exact ha
 have fz:=O1.fz i a ha
 have fm:=O1.fm i a ha
 have A0:=ar.fY (ks:=kl.map DK.s) (k:=.s k) (beside fz fm fP (fun b z=>z.2) hl)
 rw[<-x5] at A0
 refine kk (.a8 d) _ w Z1 _ _ cx q1 (O1.write (W:=fun b=>b=a) (G:=cx) (d':=.cB true false _ _) e2 hv hW (fun b n=>fP b n) (fun b z=>by rw[z,aB];exact trivial) (fun _ z=>z.elim) (fun _ z=>z.elim) (fun _ z=>z.elim) (c9.mpr ⟨a,kf,_,rfl,aB,⟨uO,A0.2,x2,x3,rfl⟩,.inl ha,A0.1.mono fun b z=>⟨.inl z.1,z.2⟩⟩)) (r1.drop.write (i:=i) hW (fun b n=>fP b n) fun _ z=>z) ?_
 exact nJ fz fm fP (fun _ z=>z.elim) (how.bare d hb)
section
variable {X:Cx}{e:Expr}{uk:UB}{x:Str}{i:Nat}{p apos bD:Pos}
theorem GR(hN:X.N[i]? = some x)(hv:km X.env.scope x)(h:VE X e uk)(m:M1 X (.Name x p) "pop" apos e bD)(hd:(x==("__debug__":Str))=false:=by decide)(fu:(x==("__classdict__":Str))=false:=by decide):VE X (.Call (.Attribute (.Name x p) "pop" apos) [e] [] bD) (Al i uk):=let ⟨_,q,s⟩:=h.ex;⟨_,ED (gh hN hv hd fu) q m,DV s⟩
end
end VS
end
section
namespace VS
open PySem L2
mutual
def toPy:D->PyData
 | .bH=>.none
 | .bl b=>.bool b
 | .int i=>.int i
 | .str x=>.str x
 | .fn _=>.none
 | .tup ds=>.tuple (fJ ds)
 | .lst _ ds=>.list (fJ ds)
 | .cB _ _ _ _=>.none
def fJ:List D->List PyData
 | []=>[]
 |d::ds=>toPy d::fJ ds
end
mutual
def dF:Nat->D->Bool
 |_,.bH=>true
 |_,.bl _=>true
 |_,.int _=>true
 |_,.str x=>PyData.strOk x
 |_,.fn _=>false
 |0,.tup _=>false
 |n+1,.tup ds=>eK n ds
 |0,.lst _ _=>false
 |n+1,.lst _ ds=>eK n ds
 |_,.cB _ _ _ _=>false
def eK:Nat->List D->Bool
 |_,[]=>true
 |n,d::ds=>dF n d&&eK n ds
end
theorem kI{n:Nat}:∀{ds:List D},eK n ds=true↔∀d∈ds,dF n d=true
 | []=>by simp[eK]
 |d::ds=>by simp[eK,kI (ds:=ds)]
mutual
theorem dF.shape:∀(n:Nat) (d:D),dF n d=true->PyData.canLay0 (toPy d)=true/\PyData.depth (toPy d)<=n
 |_,.bH,_=>by simp[toPy,PyData.canLay0,PyData.depth]
 |_,.bl _,_=>by simp[toPy,PyData.canLay0,PyData.depth]
 |_,.int _,_=>by simp[toPy,PyData.canLay0,PyData.depth]
 |_,.str x,h=>by simp[dF] at h;simp[toPy,PyData.canLay0,PyData.depth,h]
 |_,.fn _,h=>by simp[dF] at h
 |0,.tup _,h=>by simp[dF] at h
 |n+1,.tup ds,h=>by
  simp only[dF] at h
  obtain⟨h1,h2⟩:=eK.shape n ds h
  simp only[toPy,PyData.canLay0,PyData.depth]
  exact⟨h1,by omega⟩
 |0,.lst _ _,h=>by simp[dF] at h
 |n+1,.lst _ ds,h=>by
  simp only[dF] at h
  obtain⟨h1,h2⟩:=eK.shape n ds h
  simp only[toPy,PyData.canLay0,PyData.depth]
  exact⟨h1,by omega⟩
 |_,.cB _ _ _ _,h=>by simp[dF] at h
theorem eK.shape:∀(n:Nat) (ds:List D),eK n ds=true->PyData.canLayAll0 (fJ ds)=true/\PyData.depthAll (fJ ds)<=n
 |_,[],_=>by simp[fJ,PyData.canLayAll0,PyData.depthAll]
 |n,d::ds,h=>by
  simp only[eK,Bool.and_eq_true] at h
  obtain⟨h1,h2⟩:=dF.shape n d h.1
  obtain⟨h3,h4⟩:=eK.shape n ds h.2
  simp only[fJ,PyData.canLayAll0,PyData.depthAll,h1,h3]
  exact⟨rfl,by omega⟩
end
mutual
theorem dF.da{K:PySem.W.Frag}{Z:Set}{H:Hp}:∀(n:Nat) (d:D) {v:V}{F:Set},dF n d=true->Own Z H d v F->DA K H (toPy d) v
 |_,.bH,_,_,_,h=>by simp only[toPy,DA];exact lh.mp h
 |_,.bl _,_,_,_,h=>by simp only[toPy,DA];exact dh.mp h
 |_,.int _,_,_,_,h=>by simp only[toPy,DA];exact a_.mp h
 |_,.str x,_,_,_,h=>by simp only[toPy,DA];exact dX.mp h
 |_,.fn _,_,_,h,_=>by simp[dF] at h
 |0,.tup _,_,_,h,_=>by simp[dF] at h
 |n+1,.tup ds,_,_,h,ho=>by
  simp only[dF] at h
  obtain⟨a,vs,rfl,hr,hl⟩:=de.mp ho
  simp only[toPy,DA]
  exact⟨a,vs,rfl,.inl (.inl hr),eK.da n ds h hl⟩
 |0,.lst _ _,_,_,h,_=>by simp[dF] at h
 |n+1,.lst _ ds,_,_,h,ho=>by
  simp only[dF] at h
  obtain⟨a,vs,rfl,hr,hl⟩:=fO ho
  simp only[toPy,DA]
  exact⟨a,vs,rfl,.inl hr,eK.da n ds h hl⟩
 |_,.cB _ _ _ _,_,_,h,_=>by simp[dF] at h
theorem eK.da{K:PySem.W.Frag}{Z:Set}{H:Hp}:∀(n:Nat) (ds:List D) {vs:List V}{F:Set},eK n ds=true->ar Z H ds vs F->sP K H (fJ ds) vs
 |_,[],_,_,_,h=>by simp only[fJ,sP];exact ba.mp h
 |n,d::ds,_,_,h,ho=>by
  simp only[eK,Bool.and_eq_true] at h
  obtain⟨v,r,F1,F2,rfl,h1,h2,_⟩:=aF.mp ho
  simp only[fJ,sP]
  exact⟨v,r,rfl,dF.da n d h.1 h1,eK.da n ds h.2 h2⟩
end
def eqT(a b:D):Bool:=PyData.eqv (toPy a) (toPy b)
def FG(neg:Bool):D->D->(D->Prop)->Prop:=fun a b P=>dF 60 a=true/\dF 60 b=true/\P (.bl (if neg then !eqT a b else eqT a b))
theorem lb{d:D}(h:dF 60 d=true):SeqAt.shaped (toPy d)=true:=by
 obtain⟨h1,h2⟩:=dF.shape 60 d h
 simp only[SeqAt.shaped,h1,Bool.true_and,decide_eq_true_eq]
 omega
theorem Mx{K:PySem.W.Frag}:iU (HH K false) (FG false):=fun Z H d1 d2 v1 v2 F1 F2 P R h1 h2 ⟨o1,o2,p⟩ k=>
 ⟨_,_,dF.da 60 d1 o1 h1,dF.da 60 d2 o2 h2,lb o1,lb o2,k _ _ _ _ p (jb.refl (dh.mpr rfl))⟩
theorem Mr{K:PySem.W.Frag}:iU (HH K true) (FG true):=fun Z H d1 d2 v1 v2 F1 F2 P R h1 h2 ⟨o1,o2,p⟩ k=>
 ⟨_,_,dF.da 60 d1 o1 h1,dF.da 60 d2 o2 h2,lb o1,lb o2,k _ _ _ _ p (jb.refl (dh.mpr rfl))⟩
mutual
theorem eqv_refl:∀(n:Nat) (d:D),dF n d=true->PyData.eqv (toPy d) (toPy d)=true
 |_,.bH,_=>by simp[toPy,PyData.eqv]
 |_,.bl _,_=>by simp[toPy,PyData.eqv]
 |_,.int _,_=>by simp[toPy,PyData.eqv]
 |_,.str x,h=>by simp[toPy,PyData.eqv]
 |_,.fn _,h=>by simp[dF] at h
 |0,.tup _,h=>by simp[dF] at h
 |n+1,.tup ds,h=>by simp only[dF] at h;simp only[toPy,PyData.eqv];exact pe n ds h
 |0,.lst _ _,h=>by simp[dF] at h
 |n+1,.lst _ ds,h=>by simp only[dF] at h;simp only[toPy,PyData.eqv];exact pe n ds h
 |_,.cB _ _ _ _,h=>by simp[dF] at h
theorem pe:∀(n:Nat) (ds:List D),eK n ds=true->PyData.eqvAll (fJ ds) (fJ ds)=true
 |_,[],_=>by simp[fJ,PyData.eqvAll]
 |n,d::ds,h=>by
  simp only[eK,Bool.and_eq_true] at h
  simp only[fJ,PyData.eqvAll,eqv_refl n d h.1,pe n ds h.2];rfl
end
mutual
theorem qH:∀d:D,toPy (aU d)=toPy d
 | .bH=>by simp[aU]
 | .bl _=>by simp[aU]
 | .int _=>by simp[aU]
 | .str x=>by simp[aU]
 | .fn _=>by simp[aU]
 | .tup ds=>by simp only[aU,toPy,oq ds]
 | .lst _ ds=>by simp only[aU,toPy,oq ds]
 | .cB _ _ _ _=>by simp only[aU,toPy]
theorem oq:∀ds:List D,fJ (eA ds)=fJ ds
 | []=>by simp[eA]
 |d::ds=>by simp only[eA,fJ,qH d,oq ds]
end
theorem A_{a b:D}(h:dF 60 a=true)(e:aU a=aU b):eqT a b=true:=by
 unfold eqT
 rw[<-qH b,<-e,qH]
 exact eqv_refl 60 a h
mutual
theorem Iq:∀(n:Nat) (d:D),dF n (aU d)=dF n d
 |_,.bH=>by simp[aU]
 |_,.bl _=>by simp[aU]
 |_,.int _=>by simp[aU]
 |_,.str x=>by simp[aU]
 |_,.fn _=>by simp[aU]
 |0,.tup ds=>by simp only[aU,dF]
 |n+1,.tup ds=>by simp only[aU,dF,rC n ds]
 |0,.lst _ ds=>by simp only[aU,dF]
 |n+1,.lst _ ds=>by simp only[aU,dF,rC n ds]
 |_,.cB _ _ _ _=>by simp only[aU,dF]
theorem rC:∀(n:Nat) (ds:List D),eK n (eA ds)=eK n ds
 |_,[]=>by simp[eA]
 |n,d::ds=>by simp only[eA,eK,Iq n d,rC n ds]
end
theorem kH{n:Nat}{x:Str}:dF n (.str x)=PyData.strOk x:=by cases n<;>simp[dF]
theorem uH{n:Nat}{x:Int}:dF n (.int x)=true:=by cases n<;>simp[dF]
theorem Ow{n:Nat}{x:Bool}:dF n (.bl x)=true:=by cases n<;>simp[dF]
theorem j6{n:Nat}{ds:List D}:dF (n+1) (.tup ds)=eK n ds:=by simp[dF]
theorem EN{n:Nat}{o:Bool}{ds:List D}:dF (n+1) (.lst o ds)=eK n ds:=by simp[dF]
theorem fT{n:Nat}:eK n []=true:=by simp[eK]
theorem eJ{n:Nat}{d:D}{ds:List D}:eK n (d::ds)=(dF n d&&eK n ds):=by simp[eK]
theorem Ck{n:Nat}{xs:List Int}:eK n (xs.map D.int)=true:=kI.mpr fun d hd=>by
 obtain⟨x,_,rfl⟩:=List.mem_map.mp hd;exact uH
end VS
end
section
namespace L2
open PySem PySem.Spec PyProof.Rows
def Xq(B:Bool)(n:Nat)(t:SetTable):Prop:=t.led=B/\(n=0\/t.plain=false)
theorem AL{t:SetTable}{n:Nat}:(t.orStandIn n).led=t.led/\(t.plain=false->(t.orStandIn n).plain=false):=by
 unfold SetTable.orStandIn
 split
 ·exact⟨rfl,fun z=>z⟩
 ·exact⟨rfl,fun _=>rfl⟩
theorem IB{t:SetTable}{es:Array (Int×Value)}{h:Int}{x:Value}:(layNew t es h x).2.1.led=t.led/\(t.plain=false->(layNew t es h x).2.1.plain=false):=by
 unfold layNew
 cases t.freeSlot h with
 |none=>exact⟨rfl,fun _=>rfl⟩
 |some q=>
  obtain⟨slot,d⟩:=q
  exact⟨(AL (t:=(t.put slot).1)).1,fun z=>(AL (t:=(t.put slot).1)).2 z⟩
theorem B9{t:SetTable}{es:Array (Int×Value)}{n:Nat}:(relayAll t es n).2.1.led=t.led/\(t.plain=false->(relayAll t es n).2.1.plain=false):=by
 unfold relayAll
 cases e:t.relaid (es.map (·.1)) n with
 |none=>exact⟨rfl,fun _=>rfl⟩
 |some q=>
  obtain⟨t',order⟩:=q
  simp only[SetTable.relaid,SetTable.laid,Option.bind_eq_bind,Option.bind_eq_some_iff,Option.pure_def,Option.some.injEq,Prod.mk.injEq] at e
  obtain⟨_,_,e,_⟩:=e
  dsimp only
  split
  ·subst e;exact⟨rfl,fun z=>z⟩
  ·exact⟨rfl,fun _=>rfl⟩
section
variable {prog:Program}{w:World}{A:Around}{E:Value->Shared->Prop}{s:Shared}
structure SG(prog:Program)(w:World)(h:Heap)(a:Addr)(es:Array (Int×Value))(ep:Nat):Prop where
 ex:∃o t,h.get? a=some o/\o.ExactSet/\o.data=.set es ep t/\ElemsOf (strKind prog w) es.toList/\es.size<scanBound/\t.fits es.size=true/\Xq (!w.params.followText "set-order") es.size t
theorem SG.at{h h':Heap}{a:Addr}{es:Array (Int×Value)}{ep:Nat}(x:SG prog w h a es ep)(k:∀o,h.get? a=some o->h'.get? a=some o):SG prog w h' a es ep:=let ⟨o,t,ho,r⟩:=x.ex;⟨o,t,k o ho,r⟩
theorem SG.store{h:Heap}{a:Addr}{o:Obj}{es:Array (Int×Value)}{ep:Nat}{t:SetTable}(ho:h.get? a=some o)(hex:o.ExactSet)(hd:o.data=.set es ep t){qh:Array (Int×Value)}{t':SetTable}(wQ:ElemsOf (strKind prog w) qh.toList)(hb:qh.size<scanBound)(hf:t'.fits qh.size=true)(hm:Xq (!w.params.followText "set-order") qh.size t') :
  (h.update a (Obj.putSet qh t')).get? a=some {o with data:=.set qh (ep+1) t'}/\SG prog w (h.update a (Obj.putSet qh t')) a qh (ep+1):=by
 obtain⟨h1,_⟩:=SetOf_store (knd:=strKind prog w) (S':=fun k=>qh.toList.any fun e=>(strKind prog w).is k e.2) ho hex hd wQ (fun k=>List.any_eq_true) hb hf
 exact⟨h1,_,t',h1,hex,rfl,wQ,hb,hf,hm⟩
theorem KC{a:Addr}{es:Array (Int×Value)}{ep:Nat}{k:Str}{tk:Tok}{Q:Bool->Shared->Prop}(hg:SG prog w s.heap a es ep)(Ff:es.size+1<scanBound)
  (h:∀b h' qh JW,Heap.SameBut a s.heap h'->SG prog w h' a qh JW->(((∃e∈es.toList,(strKind prog w).is k e.2=true)/\qh=es)\/((∀e∈es.toList,(strKind prog w).is k e.2=false)/\qh.toList.Perm (es.toList++[((strKind prog w).hash k,.str k tk)])))->Q b {s with heap:=h'}) :
  wpAny (model prog w) A (setAddHashed a (.str k tk) ((strKind prog w).hash k)) Q E s:=by
 obtain⟨o,t,ho,hex,hd,wQ,hb,hf,hm⟩:=hg.ex
 have CB:=strKind_is prog w k tk
 have Tv:(Value.str k tk).scannable=true:=rfl
 unfold setAddHashed setAddHashedIn
 refine wpAny_holding (wpAny_bind (wpAny_setState_of ho hd hf ?_))
 dsimp only
 rw[byScan_of Tv hb wQ]
 simp only[↓reduceIte]
 unfold setAddByScan
 refine wpAny_bind (wpAny_bind (wpAny_rule (wpAny_bind (wpAny_setScan_of CB ho hd hf wQ ?_))))
 have e0:s={s with heap:=s.heap}:=by cases s;rfl
 cases hr:List.findIdx? (fun e=>(strKind prog w).is k e.2) es.toList with
 |some j=>
  dsimp only
  obtain⟨hj,Rt,_⟩:=List.findIdx?_eq_some_iff_getElem.mp hr
  refine wpAny_pure (wpAny_pure ?_)
  rw[e0]
  exact h _ s.heap es ep (Heap.SameBut.refl a s.heap) hg (.inl ⟨⟨_,List.getElem_mem hj,Rt⟩,rfl⟩)
 |none=>
  dsimp only
  have yF:∀e∈es.toList,(strKind prog w).is k e.2=false:=fun e he=>by
   have:=List.findIdx?_eq_none_iff.mp hr e he
   simpa using this
  have lX:=layNew_perm t es ((strKind prog w).hash k) (.str k tk)
  have AZ:=layNew_fits t es ((strKind prog w).hash k) (.str k tk)
  have zP:=IB (t:=t) (es:=es) (h:=(strKind prog w).hash k) (x:=.str k tk)
  generalize hL:layNew t es ((strKind prog w).hash k) (.str k tk)=L at lX AZ zP ⊢
  obtain⟨sS,t1,C5,abJ⟩:=L
  dsimp only at lX AZ zP ⊢
  rw[Array.toList_push] at lX
  have Pp:ElemsOf (strKind prog w) sS.toList:=(wQ.push CB Tv).perm lX
  have L8:sS.size=es.size+1:=by rw[<-Array.length_toList,lX.length_eq,List.length_append,Array.length_toList];rfl
  have Fu:sS.size<scanBound:=by rw[L8];exact Ff
  have WY:∀(b:Bool) {cJ:Shared}{Q':Unit->Shared->Prop},Q' () cJ->wpAny (model prog w) A (match b with|true=>rule "set.scan.the-table-gave-way"|false=>pure ()) Q' E cJ:=
   fun b cJ Q' hq=>by cases b<;>first|exact wpAny_pure hq|exact wpAny_rule hq
  refine wpAny_bind (WY _ ?_)
  have tail:∀t2:SetTable,t2.fits sS.size=true->t2.led=(!w.params.followText "set-order")->t2.plain=false->wpAny (model prog w) A (do
    storeSet a sS t2
    if (!C5&&t2.tooFull)=true then do
      (match (relayAll t2 sS (SetTable.grown sS.size)).2.2 with|true=>rule "set.scan.the-table-gave-way"|false=>pure ())
      storeSet a (relayAll t2 sS (SetTable.grown sS.size)).1 (relayAll t2 sS (SetTable.grown sS.size)).2.1
      pure (some true)
     else pure (some true)) (fun r s'=>∃b,r=some b/\Q b s') E s:=by
   intro t2 hf2 rV Fh
   refine wpAny_bind (wpAny_storeSet_of ho hd ?_ (fits_of_scanBound Fu))
   obtain⟨WN,hS1⟩:=SG.store (prog:=prog) (w:=w) ho hex hd Pp Fu hf2 ⟨rV,.inr Fh⟩
   have OX:=Heap.SameBut.update s.heap a (Obj.putSet sS t2)
   split
   ·have hp:=relayAll_perm t2 sS (SetTable.grown sS.size)
    have T8:=relayAll_fits t2 sS (SetTable.grown sS.size)
    have RE:=B9 (t:=t2) (es:=sS) (n:=SetTable.grown sS.size)
    generalize hRl:relayAll t2 sS (SetTable.grown sS.size)=Rl at hp T8 RE ⊢
    obtain⟨UC,t3,Xi⟩:=Rl
    dsimp only at hp T8 RE ⊢
    have hsz:UC.size=sS.size:=by rw[<-Array.length_toList,hp.length_eq,Array.length_toList]
    have wU:UC.size<scanBound:=by rw[hsz];exact Fu
    refine wpAny_bind (WY _ ?_)
    refine wpAny_bind (wpAny_storeSet_of WN rfl ?_ (fits_of_scanBound wU))
    obtain⟨_,Um⟩:=SG.store (prog:=prog) (w:=w) WN hex rfl (Pp.perm hp) wU T8 ⟨RE.1.trans rV,.inr (RE.2 Fh)⟩
    exact wpAny_pure ⟨true,rfl,h true _ UC _ (OX.trans (Heap.SameBut.update _ a _)) Um (.inr ⟨yF,hp.trans lX⟩)⟩
   ·exact wpAny_pure ⟨true,rfl,h true _ sS _ OX hS1 (.inr ⟨yF,lX⟩)⟩
  split
  ·refine wpAny_bind ?_
   rw[hashByValue_scannable 8 Tv]
   refine wpAny_pure ?_
   refine wpAny_mono (tail {t1 with plain:=false} (SetTable.fits_plain_off AZ) (zP.1.trans hm.1) rfl) (fun r s' ⟨b,e,q⟩=>?_) fun e s' q=>q
   subst e
   exact wpAny_pure q
  ·rename_i hp
   refine wpAny_bind (wpAny_pure ?_)
   simp only[↓reduceIte]
   refine wpAny_mono (tail t1 AZ (zP.1.trans hm.1) (by simpa using hp)) (fun r s' ⟨b,e,q⟩=>?_) fun e s' q=>q
   subst e
   exact wpAny_pure q
end
end L2
end
section
namespace L2
open PySem PySem.Spec PyProof.Rows
def Kz(es:Array (Int×Value))(xs:List Str):Prop:=(es.toList.map fun e=>strOf e.2).Nodup/\∀x,x∈(es.toList.map fun e=>strOf e.2)↔x∈xs
section
variable {prog:Program}{w:World}{A:Around}{E:Value->Shared->Prop}{s:Shared}
theorem wc{k:Str}{v:Value}(h:(strKind prog w).is k v=true):∃t,v=.str k t:=Value.isStrOf_shape h
theorem yj{es:List (Int×Value)}(h:ElemsOf (strKind prog w) es){e:Int×Value}(he:e∈es):∃t,e.2=.str (strOf e.2) t:=by
 obtain⟨⟨k,hk,_⟩,_⟩:=h e he
 obtain⟨t,ht⟩:=wc hk
 exact⟨t,by rw[ht];rfl⟩
theorem SG.elems{h:Heap}{a:Addr}{es:Array (Int×Value)}{ep:Nat}(x:SG prog w h a es ep):ElemsOf (strKind prog w) es.toList:=let ⟨_,_,_,_,_,r,_⟩:=x.ex;r
theorem Kz.step{es qh:Array (Int×Value)}{xs:List Str}{k:Str}{tk:Tok}(wQ:ElemsOf (strKind prog w) es.toList)(hk:Kz es xs)(h:((∃e∈es.toList,(strKind prog w).is k e.2=true)/\qh=es)\/((∀e∈es.toList,(strKind prog w).is k e.2=false)/\qh.toList.Perm (es.toList++[((strKind prog w).hash k,.str k tk)]))):Kz qh (xs++[k]):=by
 rcases h with⟨⟨e,he,hp⟩,rfl⟩|⟨yF,hp⟩
 ·refine⟨hk.1,fun x=>?_⟩
  rw[hk.2 x,List.mem_append,List.mem_singleton]
  refine⟨.inl,fun z=>z.elim id ?_⟩
  rintro rfl
  obtain⟨t,ht⟩:=wc hp
  exact(hk.2 x).mp (List.mem_map.mpr ⟨e,he,by rw[ht];rfl⟩)
 ·have hm:=hp.map (fun e=>strOf e.2)
  rw[List.map_append] at hm
  refine⟨hm.nodup_iff.mpr (List.nodup_append.mpr ⟨hk.1,by simp,?_⟩),fun x=>?_⟩
  ·intro x hx y hy e
   obtain⟨z,hz,rfl⟩:=List.mem_map.mp hx
   have hy:y=k:=by simpa[strOf] using hy
   obtain⟨t,ht⟩:=yj wQ hz
   have:=yF z hz
   rw[ht,e,hy] at this
   rw[strKind_is] at this
   cases this
  ·rw[hm.mem_iff,List.mem_append,hk.2 x,List.mem_append]
   simp[strOf]
theorem g8{α:Type} [DecidableEq α]:∀(a b:List α),a.Nodup->(∀x∈a,x∈b)->a.length<=b.length
 | [],_,_,_=>by simp
 |x::a,b,h,s=>by
  have h':=List.nodup_cons.mp h
  have hx:=s x (.head _)
  have:=g8 a (b.erase x) h'.2 fun y hy=>(List.mem_erase_of_ne (fun e:y=x=>h'.1 (e ▸ hy))).mpr (s y (.tail _ hy))
  rw[List.length_erase_of_mem hx] at this
  have:0<b.length:=List.length_pos_of_mem hx
  simp only[List.length_cons];omega
theorem IC{es:Array (Int×Value)}{xs:List Str}(h:Kz es xs):es.size<=xs.length:=by
 have:=g8 _ xs h.1 fun x hx=>(h.2 x).mp hx
 simpa using this
theorem D2{R:Result->Shared->Prop}{I:Addr}{fp wr:List Addr}{G:Array GenState->Array GenState->Prop}{n:Nat}{P:Nat->Value->Prop}{St:Nat->Shared->Prop}(W:WalksS prog w A.in1 I fp wr G n P St)(S:Addr)(Fw:S∉fp)(xs:List Str)(IS:xs.length=n)
  (L6:∀i v,P i v->∃t,∃h:i<xs.length,v=.str xs[i] t) (hb:n+1<scanBound) :
  ∀(k i:Nat) (s:Shared),n-i=k->i<=n->St i s->(∃es ep,SG prog w s.heap S es ep/\Kz es (xs.take i)) ->
   (∀s',Moved (S::wr) G s s'->(∃es ep,SG prog w s'.heap S es ep/\Kz es xs)->R (.ok (.ret .none)) s') ->
   codeAny (model prog w) A (.builtin "set.update.loop" ⟨[.ref S,.ref I],[]⟩) R s:=by
 have Xc:S∉wr:=fun h=>Fw (W.sub _ h)
 have IT:∀b∈wr,b∈S::wr:=fun b hb=>List.mem_cons_of_mem _ hb
 intro k
 induction k with
 |zero=>
  intro i s hk hi zO ⟨es,ep,hS,hz⟩ hR
  have yd:i=n:=by omega
  subst yd
  refine codeAny_builtin F.entry_set_update_loop ?_
  rw[Around.under_plainId F.plain_set_update_loop _]
  show wpAny _ A.in1 (pyNext (.ref I) >>= _) _ _ s
  refine wpAny_bind (W.done s _ _ zO fun s' hm=>?_)
  show wpAny _ A.in1 (ret Value.none) _ _ s'
  refine wpAny_pure (hR s' (hm.mono IT) ⟨es,ep,hS.at fun o ho=>hm.heap S _ Xc ho,?_⟩)
  rwa [List.take_of_length_le (by omega)] at hz
 |succ k ih=>
  intro i s hk hi zO ⟨es,ep,hS,hz⟩ hR
  have iZ:i<n:=by omega
  refine codeAny_builtin F.entry_set_update_loop ?_
  rw[Around.under_plainId F.plain_set_update_loop _]
  show wpAny _ A.in1 (pyNext (.ref I) >>= _) _ _ s
  refine wpAny_bind (W.item i s _ _ iZ zO fun v s' hP Tr hm=>?_)
  obtain⟨t,hix,rfl⟩:=L6 i v hP
  have CF:SG prog w s'.heap S es ep:=hS.at fun o ho=>hm.heap S _ Xc ho
  show wpAny _ A.in1 (holding [Value.str xs[i] t] (setAdd S (.str xs[i] t)) >>= _) _ _ s'
  refine wpAny_bind (wpAny_holding ?_)
  unfold setAdd
  refine wpAny_holding ?_
  refine wpAny_bind ((strKind prog w).pyHash (k:=xs[i]) (strKind_is _ _ _ _) ?_)
  have Ff:es.size+1<scanBound:=by
   have:=IC hz
   rw[List.length_take] at this
   omega
  refine KC (s:={s' with toks:=s'.toks+1}) CF Ff fun b h' qh JW L9 Um hd=>?_
  have Tg:Kz qh (xs.take (i+1)):=by
   rw[List.take_succ_eq_append_getElem hix]
   exact hz.step hS.elems hd
  refine wpAny_pure ⟨plainId_quiet F.plain_set_update_loop _,ih (i+1) _ (by omega) iZ (W.frame _ s' _ _ Tr (Nat.le_succ _) fun b hb o e=>?_) ⟨qh,JW,Um,Tg⟩ fun HE TY Uo=>?_⟩
  ·rw[L9.2 b (fun h:b=S=>Fw (by rw[<-h];exact hb))];exact e
  ·refine hR HE (Moved.trans W.gtrans ((hm.mono IT).then_heap (Nat.le_succ _) fun b o hb e=>?_) TY) Uo
   rw[L9.2 b (fun h:b=S=>hb (by rw[h];exact List.mem_cons_self))];exact e
theorem Hz(a:Value){Q₁:Value->Shared->Prop}
  (h:Q₁ (.ref s.heap.objs.size) {s with heap:=s.heap.push {cls:=.type "set",dict:=none,data:=.set #[] 0 (.fresh 0 0 (!w.params.followText "set-order"))}}) :
  codeAny (model prog w) A (.call (.builtin "set.__new__") ⟨[.type "set",a],[]⟩) (wants Q₁ E) s:=by
 refine codeAny_of_tree ?_
 show wpAny _ A.in1 (do checkBuiltinCall "set.__new__" ⟨[.type "set",a],[]⟩;again (.builtin "set.__new__" ⟨[.type "set",a],[]⟩)) _ _ s
 refine wpAny_bind (wpAny_of_eq (PySem.F.newCall_set_1 a) (wpAny_pure ⟨plainId_quiet PySem.F.plain_set_new _,codeAny_builtin PySem.F.entry_set_new ?_⟩))
 rw[Around.under_plainId PySem.F.plain_set_new _]
 unfold Builtin.«set.__new__» Builtin.Frozenset.newClass
 have IT:=sub_set_self
 obtain⟨hp,g,d,tk,os⟩:=s
 dsimp only
 wp_walk
 refine wpAny_askSetting (wpAny_pure ?_)
 dsimp only
 simp only[newObj]
 refine wpAny_bind (wpAny_alloc (wpAny_pure ?_))
 exact wpAny_pure h
end
end L2
end
section
namespace L2
open PySem PySem.Spec PyProof.Rows
theorem Av:∀{vs:List Value}{xs:List Str},StrsAre vs xs->∀(i:Nat) (h:i<xs.length),∃t,vs[i]? = some (.str xs[i] t)
 |_,_,.nil,i,h=>by simp at h
 |_,_,.cons y t r,0,h=>⟨t,by simp⟩
 |_,_,.cons y t r,i+1,h=>by
  obtain⟨t',e⟩:=Av r i (by simpa using h)
  exact⟨t',by simpa using e⟩
section
variable {prog:Program}{w:World}{A:Around}{E:Value->Shared->Prop}{s:Shared}
set_option maxHeartbeats 3200000 in
theorem tW{l:Addr}{items:Array Value}{xs:List Str}{Q:Value->Shared->Prop}
  (hh:A.handled=none) (hl:s.heap.IsList l items) (hi:StrsAre items.toList xs) (hb:items.size+1<scanBound)
  (h:∀(h':Heap) (tk:Nat),(∃es ep,SG prog w h' s.heap.objs.size es ep/\Kz es xs) ->
   (∀b o,b<s.heap.objs.size->s.heap.get? b=some o->h'.get? b=some o)->Q (.ref s.heap.objs.size) {s with heap:=h',toks:=tk}) :
  wpAny (model prog w) A (call (.type "set") [.ref l]) Q E s:=by
 obtain⟨c,tl,aaQ⟩:=PySem.F.called_set.mro
 have WQ:=PySem.F.called_set.made
 have IT:=PySem.F.called_set.sub
 refine wpAny_call (codeAny_of_tree ?_)
 show wpAny _ _ (callAny (.type "set") _) _ _ _
 refine wpAny_pure ⟨Code.quiet_builtin _ (by decide +kernel),codeAny_builtin PySem.F.entry_type_call ?_⟩
 rw[Around.under_plain (weight_type_call_type "set" [.ref l] []) rfl]
 have h1:=PySem.F.called_set.notType
 have h2:=PySem.F.called_set.canCreate
 have hct:=PySem.F.typeCall_set_1 (.ref l)
 repeat (any_goals (first|assumption|wp_step))
 generalize zP:(!w.params.followText "set-order")=led
 refine codeAny_mono (Hz (.ref l) (E:=E) (Q₁:=fun obj cJ=>obj=.ref s.heap.objs.size/\cJ={s with heap:=s.heap.push {cls:=.type "set",dict:=none,data:=.set #[] 0 (.fresh 0 0 led)}}) ⟨rfl,by rw[zP]⟩) fun r cJ hr=>?_
 cases r with
 |error e=>exact hr
 |ok fl=>
  cases fl with
  |ret obj=>
   obtain⟨rfl,rfl⟩:=hr
   have hS:(s.heap.push {cls:=.type "set",dict:=none,data:=.set #[] 0 (.fresh 0 0 led)}).get? s.heap.objs.size=some {cls:=.type "set",dict:=none,data:=.set #[] 0 (.fresh 0 0 led)}:=Heap.get?_push_size _ rfl
   have hT:Shared.TypeIs {s with heap:=s.heap.push {cls:=.type "set",dict:=none,data:=.set #[] 0 (.fresh 0 0 led)}} (.ref s.heap.objs.size) "set":=⟨_,hS,rfl⟩
   have hli:=PySem.F.called_set.init.lookup
   have RI:=PySem.F.called_set.init.bind (.ref s.heap.objs.size)
   repeat (any_goals (first|assumption|wp_step))
   refine codeAny_mono (codeAny_call_builtin (R:=wants (fun r ow=>r=.none/\∃h' tk,ow={s with heap:=h',toks:=tk} /\
     (∃es ep,SG prog w h' s.heap.objs.size es ep/\Kz es xs) /\
     (∀b o,b<s.heap.objs.size->s.heap.get? b=some o->h'.get? b=some o)) E) PySem.F.called_set.init.plain PySem.F.entry_set_init (check_set_init_1 hT ?_)) fun Sz ow Fe=>?_
   ·obtain⟨ol,Rx,wk,nl,A0⟩:=hl
    obtain⟨Y2,Oy,Wl,Lo⟩:=ol
    simp only at wk A0
    subst wk;subst A0
    have TM:(s.heap.push {cls:=.type "set",dict:=none,data:=.set #[] 0 (.fresh 0 0 led)}).get? l=some {cls:=.type "list",dict:=Oy,data:=.seq items nl,slots:=Lo}:=Heap.get?_push_of_some _ Rx
    have aaz:=PySem.F.sub_list_set
    have aaA:=PySem.F.sub_list_frozenset
    have nu:(Value.type "list" == Value.type "dict")=false:=by decide
    have pK:(s.heap.push {cls:=.type "set",dict:=none,data:=.set #[] 0 (.fresh 0 0 led)}).IsList l items:=⟨_,TM,rfl,nl,rfl⟩
    unfold Builtin.«set.__init__» noKeywords Builtin.Frozenset.updateFrom
    generalize hPI:pyIter=PI
    wp_walk
    subst hPI
    refine wpAny_pyIter_list pK ?_
    refine wpAny_bind (wpAny_runValue ?_)
    have WT:l<s.heap.objs.size:=Heap.lt_size Rx
    have hh3:A.in1.in1.in1.handled=none:=by simp[hh]
    have TV:l≠(s.heap.push {cls:=.type "set",dict:=none,data:=.set #[] 0 (.fresh 0 0 led)}).objs.size:=by
     rw[Heap.size_push];exact Nat.ne_of_lt (Nat.lt_succ_of_lt WT)
    have Fw:s.heap.objs.size∉[(s.heap.push {cls:=.type "set",dict:=none,data:=.set #[] 0 (.fresh 0 0 led)}).objs.size,l]:=by
     rw[Heap.size_push];simp only[List.mem_cons,List.mem_singleton,List.not_mem_nil,or_false,not_or]
     exact⟨Nat.ne_of_lt (Nat.lt_succ_self _),Nat.ne_of_gt WT⟩
    have hlen:xs.length=items.size:=by
     have:=hi.length
     simpa using this.symm
    have L6:∀(i:Nat) (v:Value),items[i]? = some v->∃t,∃h:i<xs.length,v=.str xs[i] t:=fun i v hv=>by
     obtain⟨iZ,e⟩:=Array.getElem?_eq_some_iff.mp hv
     obtain⟨t,ht⟩:=Av hi i (by rw[hlen];exact iZ)
     refine⟨t,by rw[hlen];exact iZ,?_⟩
     rw[Array.getElem?_toList,hv] at ht
     exact Option.some.inj ht
    refine D2 ((Walks.list hh3 _ l TV items).toS) s.heap.objs.size Fw xs hlen L6 hb (items.size-0) 0 _ (by omega) (Nat.zero_le _)
     ⟨⟨_,Heap.get?_push_size _ rfl,rfl,rfl⟩,(pK.push _)⟩ ?hS0 ?hR
    case hS0=>
     refine⟨#[],0,⟨_,_,Heap.get?_push_of_some _ hS,⟨rfl,rfl,rfl⟩,rfl,fun e he=>by simp at he,by decide,rfl,?_⟩,by simp[Kz]⟩
     exact⟨zP.symm,.inl rfl⟩
    case hR=>
     intro s' hm CF
     obtain⟨h',g',d',YH,SV⟩:=s'
     have eg:g'=s.gens:=hm.gens
     have ed:d'=s.drawn:=hm.drawn
     have eo:SV=s.os:=hm.os
     subst eg;subst ed;subst eo
     show wpAny _ _ _ _ _ _
     refine wpAny_pure ?_
     show wpAny _ _ (ret Value.none) _ _ _
     refine wpAny_pure ⟨rfl,h',YH,rfl,CF,fun b o hb e=>?_⟩
     have Fu:b≠s.heap.objs.size:=Nat.ne_of_lt hb
     have wU:b≠(s.heap.push {cls:=.type "set",dict:=none,data:=.set #[] 0 (.fresh 0 0 led)}).objs.size:=by
      rw[Heap.size_push];exact Nat.ne_of_lt (Nat.lt_succ_of_lt hb)
     exact hm.heap b o (by simp only[List.mem_cons,List.mem_singleton,List.not_mem_nil,or_false,not_or];exact⟨Fu,wU⟩) (Heap.get?_push_of_some _ (Heap.get?_push_of_some _ e))
   ·cases Sz with
    |error e=>exact Fe
    |ok PD=>
     cases PD with
     |ret r=>
      obtain⟨rfl,h',tk,rfl,CF,Mf⟩:=Fe
      repeat (any_goals (first|assumption|wp_step))
      exact h _ _ CF Mf
     |_=>exact Fe.elim
  |_=>exact hr.elim
end
end L2
end
section
namespace L2
open PySem PySem.Spec PyProof.Rows
namespace SF
theorem next:Slot "set_iterator" "__next__" "set_iterator.__next__":=
 .of (owner := "set_iterator") (n := "__next__") (by rw[typeLookup_type,builtinLookup_eq_fast];kernel_rfl) (by decide +kernel) (by decide +kernel) (by decide +kernel) (by first|exact .inl (by decide +kernel)|exact .inr (by decide +kernel)) (by rw[isSubtype_type];kernel_rfl)
theorem entry:entryFor table "set_iterator.__next__" = some Builtin.«set_iterator.__next__»:=entryFor_of_tree (by kernel_rfl)
theorem args(a:Value):argsOk "set_iterator.__next__" ⟨[a],[]⟩:=by unfold argsOk;kernel_rfl
theorem iter:Slot "set_iterator" "__iter__" "set_iterator.__iter__":=
 .of (owner := "set_iterator") (n := "__iter__") (by rw[typeLookup_type,builtinLookup_eq_fast];kernel_rfl) (by decide +kernel) (by decide +kernel) (by decide +kernel) (by first|exact .inl (by decide +kernel)|exact .inr (by decide +kernel)) (by rw[isSubtype_type];kernel_rfl)
theorem MD:entryFor table "set_iterator.__iter__" = some Builtin.«dict_keyiterator.__iter__»:=entryFor_alias (id' := "dict_keyiterator.__iter__") (by kernel_rfl) rfl (by decide +kernel) (by kernel_rfl)
theorem P'(a:Value):argsOk "set_iterator.__iter__" ⟨[a],[]⟩:=by unfold argsOk;kernel_rfl
theorem MC:entryFor table "set.__iter__" = some Builtin.«frozenset.__iter__»:=entryFor_alias (id' := "frozenset.__iter__") (by kernel_rfl) rfl (by decide +kernel) (by kernel_rfl)
end SF
theorem jW{α:Type}:∀{l:List α}{i:Nat} (h:i<l.length),(l[i]::l.eraseIdx i).Perm l
 | [],i,h=>by simp at h
 |x::l,0,h=>by simp
 |x::l,i+1,h=>by
  simp only[List.getElem_cons_succ,List.eraseIdx_cons_succ]
  exact(List.Perm.swap _ _ _).trans ((jW (by simpa using h)).cons x)
section
variable {prog:Program}{w:World}{A:Around}{E:Value->Shared->Prop}{s:Shared}
theorem Ab{M:Model}{src:Source}{n:Nat}{Q:Nat->Shared->Prop}(hn:n≠0)(h:∀i,i<n->∀d,Q i {s with drawn:=d}):wpAny M A (choose src n) Q E s:=fun Γ p hΓ=>by
 unfold choose
 rw[Sem.wp_choose]
 exact⟨hn,h _ (Nat.mod_lt _ (Nat.pos_of_ne_zero hn)) _⟩
theorem yu{M:Model}{α:Type}:∀(n:Nat) (xs:List α) (s:Shared) {Q:List α->Shared->Prop},n=xs.length->(∀ys d,ys.Perm xs->Q ys {s with drawn:=d})->wpAny M A (drawOrder n xs) Q E s
 |0,xs,s,Q,e,h=>by
  have:xs=[]:=List.eq_nil_of_length_eq_zero e.symm
  subst this
  exact wpAny_pure (h [] s.drawn (List.Perm.refl _))
 |n+1,[],s,Q,e,h=>by simp at e
 |n+1,x::xs,s,Q,e,h=>by
  unfold drawOrder
  refine wpAny_bind (Ab (by simp) fun i hi d=>?_)
  rw[List.getElem?_eq_getElem hi]
  dsimp only
  refine wpAny_bind (yu n ((x::xs).eraseIdx i) _ (by rw[List.length_eraseIdx_of_lt hi];simp at e ⊢;omega) fun ys d' hp=>?_)
  exact wpAny_pure (h _ d' ((hp.cons _).trans (jW hi)))
theorem uE{α:Type}(next:Nat->Nat)(xs:Array α):(pickOrder next xs).toList.Perm xs.toList:=by
 have go:∀(fuel k:Nat) (left:List α) (out:Array α),left.length=fuel->(pickOrder.go next fuel k left out).toList.Perm (out.toList++left):=by
  intro fuel
  induction fuel with
  |zero=>intro k left out h;rw[List.eq_nil_of_length_eq_zero h];simp[pickOrder.go]
  |succ fuel ih=>
   intro k left out h
   have iZ:next k % left.length<left.length:=Nat.mod_lt _ (by omega)
   unfold pickOrder.go
   rw[List.getElem?_eq_getElem iZ]
   dsimp only
   refine(ih (k+1) _ _ (by rw[List.length_eraseIdx_of_lt iZ];omega)).trans ?_
   rw[Array.toList_push,List.append_assoc]
   exact List.Perm.append_left _ (jW iZ)
 have:=go xs.size 0 xs.toList #[] (by simp)
 simpa[pickOrder] using this
end
end L2
end
section
namespace L2
open PySem PySem.Spec PyProof.Rows
section
variable {prog:Program}{w:World}{A:Around}{E:Value->Shared->Prop}{s:Shared}
def Qm(w:World)(I a:Addr)(fp:List Addr)(es:Array (Int×Value))(ep:Nat)(vs:List Value)(i:Nat)(h:Heap)(o:Obj):Prop:=
 (∃(tup:Addr) (ot:Obj) (n0:Nat) (order:List Nat),tup∈fp/\tup≠I/\o.data=.fields #[.ref tup,.int i 0,.ref a,.int es.size 0,.int ep 0]/\h.get? tup=some ot/\ot.data=.seq (order.map fun(j:Nat)=>rawInt j).toArray n0/\vs.length=order.length/\∀(j p:Nat),order[j]? = some p->∃e,es[p]? = some e/\vs[j]? = some e.2)
 \/ (∃slot:Nat,w.params.followText "set-order" = true/\o.data=.fields #[.int slot 0,.int i 0,.ref a,.int es.size 0,.int ep 0]/\vs=(pickOrder (w.params.setOrder a ep) es).toList.map (·.2))
 \/ (∃(slot:Nat) (oa:Obj) (t:SetTable),w.params.followText "set-order" = false/\es.size<=1/\o.data=.fields #[.int slot 0,.int i 0,.ref a,.int es.size 0,.int ep 0]/\h.get? a=some oa/\oa.data=.set es ep t/\(i=0->slot=0)/\(i=1->∃j,t.place = #[j]/\slot=j+1)/\vs=es.toList.map (·.2))
structure yG(prog:Program)(w:World)(I a:Addr)(fp:List Addr)(es:Array (Int×Value))(ep:Nat)(vs:List Value)(i:Nat)(h:Heap):Prop where
 sg:SG prog w h a es ep
 len:vs.length=es.size
 it:∃o,h.get? I=some o/\o.cls=.type "set_iterator"/\Qm w I a fp es ep vs i h o
 hI:I∈fp
 ha:a∈fp
 ne:a≠I
section
variable {I a:Addr}{fp:List Addr}{es:Array (Int×Value)}{ep:Nat}{vs:List Value}{i:Nat}
theorem yG.typeIs{s:Shared}(x:yG prog w I a fp es ep vs i s.heap):s.TypeIs (.ref I) "set_iterator":=let ⟨o,ho,hc,_⟩:=x.it;⟨o,ho,hc⟩
theorem Qm.at{h h':Heap}{o:Obj}(x:Qm w I a fp es ep vs i h o)(k:∀b∈fp,b≠I->∀o,h.get? b=some o->h'.get? b=some o)(ha:a∈fp)(ne:a≠I):Qm w I a fp es ep vs i h' o:=by
 rcases x with⟨tup,ot,n0,order,h1,h2,h3,h4,h5⟩|x|⟨slot,oa,t,h1,h2,h3,h4,h5⟩
 ·exact .inl ⟨tup,ot,n0,order,h1,h2,h3,k tup h1 h2 _ h4,h5⟩
 ·exact .inr (.inl x)
 ·exact .inr (.inr ⟨slot,oa,t,h1,h2,h3,k a ha ne _ h4,h5⟩)
theorem yG.at{h h':Heap}(x:yG prog w I a fp es ep vs i h)(k:∀b∈fp,∀o,h.get? b=some o->h'.get? b=some o):yG prog w I a fp es ep vs i h':=by
 obtain⟨o,ho,hc,hM⟩:=x.it
 exact⟨x.sg.at fun o e=>k a x.ha o e,x.len,⟨o,k I x.hI o ho,hc,hM.at (fun b hb _=>k b hb) x.ha x.ne⟩,x.hI,x.ha,x.ne⟩
theorem yG.put(x:yG prog w I a fp es ep vs i s.heap){j:Nat}{h':Heap}{o':Obj}(k:∀b o,b≠I->s.heap.get? b=some o->h'.get? b=some o)(gH:h'.get? I=some o')(hc:o'.cls=.type "set_iterator")(hM:Qm w I a fp es ep vs j s.heap o'):yG prog w I a fp es ep vs j h':=
 ⟨x.sg.at fun o e=>k a o x.ne e,x.len,⟨o',gH,hc,hM.at (fun b _ hn o e=>k b o hn e) x.ha x.ne⟩,x.hI,x.ha,x.ne⟩
theorem gT{h:Heap}{o:Obj}{fs:Array Value}{j:Nat}{v:Value}(ho:h.get? I=some o)(hc:o.cls=.type "set_iterator")(hd:o.data=.fields fs):∃o',(h.update I (Obj.mapFields (·.setIfInBounds j v))).get? I=some o'/\o'.cls=.type "set_iterator"/\o'.data=.fields (fs.setIfInBounds j v):=
 ⟨_,Heap.get?_update_self _ ho (Obj.isFreed_of_fields (Obj.data_mapFields hd _)),(Obj.cls_mapFields ..).trans hc,by rw[Obj.data_mapFields hd]⟩
theorem D1{Q:Option Value->Shared->Prop}(x:yG prog w I a fp es ep vs i s.heap)(hi:i<vs.length)
  (hQ:∀h',yG prog w I a fp es ep vs (i+1) h'->(∀b o,b≠I->s.heap.get? b=some o->h'.get? b=some o)->Q (some vs[i]) {s with heap:=h'}):wpAny (model prog w) A (pyNext (.ref I)) Q E s:=by
 obtain⟨o,ho,hc,hM⟩:=x.it
 obtain⟨oa,t,mH,hex,pb,wQ,hb,hf,hm⟩:=x.sg.ex
 have up:∀(h:Heap) (f:Obj->Obj) b o,b≠I->h.get? b=some o->(h.update I f).get? b=some o:=fun h f b o hn e=>(Heap.get?_update_other _ _ (Ne.symm hn)).trans e
 unfold pyNext
 refine wpAny_bind (wpAny_attempt (wpAny_callSpecial?_slot (name:=Str.ofString "__next__") x.typeIs SF.next (wpAny_call_entry SF.next x.typeIs SF.entry ?_ (SF.args _))))
 refine wpAny_bind (wpAny_pure ?_)
 rcases hM with⟨tup,ot,n0,order,T9,nu,hd,Rw,Ry,hlen,L'⟩|⟨slot,wR,hd,CW⟩|⟨slot,Y3,t',wR,hsz,hd,Mb,Mh,h0,h1,CW⟩
 ·refine wpAny_bind (wpAny_fieldsOf ho hd ?_)
  dsimp only
  refine wpAny_bind (wpAny_setEntries_of mH pb hf ?_)
  rw[if_neg (by simp)]
  unfold seqItems?
  dsimp only
  refine wpAny_bind (wpAny_bind (wpAny_load Rw ?_))
  rw[Ry]
  dsimp only
  refine wpAny_pure ?_
  have WW:i<order.length:=by omega
  obtain⟨e,he,hv⟩:=L' i order[i] (List.getElem?_eq_getElem WW)
  have sR:(order.map fun(j:Nat)=>rawInt j).toArray[((i:Nat):Int).toNat]? = some (.int (order[i]:Nat) 0):=by
   rw[Int.toNat_natCast,List.getElem?_toArray,List.getElem?_map,List.getElem?_eq_getElem WW];rfl
  dsimp only
  rw[sR]
  dsimp only
  unfold setNextDrawn
  refine wpAny_bind (wpAny_bind (wpAny_setState_of mH pb hf ?_))
  dsimp only
  rw[if_neg (by simp),Int.toNat_natCast,he]
  dsimp only
  refine wpAny_pure ?_
  refine wpAny_bind (wpAny_setField ho hd (by simp) ?_)
  obtain⟨o',gH,Gn,qt⟩:=gT (j:=1) (v:=rawInt ((i:Int)+1)) ho hc hd
  have ev:e.2=vs[i]:=by rw[List.getElem?_eq_getElem hi] at hv;exact(Option.some.inj hv).symm
  rw[ev]
  refine wpAny_pure ⟨_,rfl,wpAny_pure (hQ _ (x.put (up _ _) gH Gn (.inl ⟨tup,ot,n0,order,T9,nu,?_,Rw,Ry,hlen,L'⟩)) (up _ _))⟩
  rw[qt];simp[rawInt]
 ·refine wpAny_bind (wpAny_fieldsOf ho hd ?_)
  dsimp only
  refine wpAny_bind (wpAny_setEntries_of mH pb hf ?_)
  rw[if_neg (by simp)]
  have key:wpAny (model prog w) A.in1 (setNext a ((slot:Nat):Int).toNat ((i:Nat):Int).toNat ((ep:Nat):Int).toNat) (fun r s'=>s'=s/\r=some (vs[i],slot)) (fun e s'=>False) s:=by
   simp only[Int.toNat_natCast]
   unfold setNext setsByText
   refine wpAny_bind (wpAny_setState_of mH pb hf ?_)
   dsimp only
   refine wpAny_bind (wpAny_bind (wpAny_askSetting (wpAny_pure ?_)))
   rw[if_pos (show(Setting.mk (model prog w).prog (model prog w).w.params).params.followText "set-order" = true from wR),if_neg (by simp)]
   unfold setWalk setsByText
   refine wpAny_bind (wpAny_bind (wpAny_setState_of mH pb hf ?_))
   dsimp only
   refine wpAny_bind (wpAny_bind (wpAny_askSetting (wpAny_pure ?_)))
   rw[if_pos (show(Setting.mk (model prog w).prog (model prog w).w.params).params.followText "set-order" = true from wR)]
   refine wpAny_bind (wpAny_askSetting (wpAny_pure (wpAny_pure ⟨rfl,?_⟩)))
   have e:(pickOrder (w.params.setOrder a ep) es)[i]?.map (·.2)=some vs[i]:=by
    subst CW
    have:=List.getElem?_eq_getElem hi
    rwa [List.getElem?_map,Array.getElem?_toList] at this
   show((pickOrder (w.params.setOrder a ep) es)[i]?).map (fun e=>(e.2,slot))=_
   cases q:(pickOrder (w.params.setOrder a ep) es)[i]? with
   |none=>rw[q] at e;cases e
   |some y=>rw[q] at e;have e:y.2=vs[i]:=Option.some.inj e;rw[Option.map_some,e]
  refine wpAny_bind (wpAny_mono key (fun r s' ⟨e1,e2⟩=>?_) fun _ _ z=>z.elim)
  subst e1 e2
  dsimp only
  refine wpAny_bind (wpAny_setField ho hd (by simp) ?_)
  obtain⟨o',gH,Gn,qt⟩:=gT (j:=0) (v:=rawInt (slot:Int)) ho hc hd
  refine wpAny_bind (wpAny_setField gH qt (by simp) ?_)
  obtain⟨Y4,Mc,Mj,Mi⟩:=gT (j:=1) (v:=rawInt ((i:Int)+1)) gH Gn qt
  refine wpAny_pure ⟨_,rfl,wpAny_pure (hQ _ (x.put (fun b o n e=>up _ _ b o n (up _ _ b o n e)) Mc Mj (.inr (.inl ⟨slot,wR,?_,CW⟩))) fun b o n e=>up _ _ b o n (up _ _ b o n e))⟩
  rw[Mi];simp[rawInt]
 ·have W2:es.size=1:=by have:=x.len;omega
  have Pn:i=0:=by have:=x.len;omega
  subst Pn
  cases mH.symm.trans Mb
  cases pb.symm.trans Mh
  have sR:∃j,t.place = #[j]:=by
   simp only[SetTable.fits,Bool.and_eq_true,beq_iff_eq] at hf
   have hp:=hf.1
   rw[W2] at hp
   exact⟨t.place[0],by apply Array.ext;simp[hp];intro i h1 h2;have:i=0:=(by omega);subst this;rfl⟩
  obtain⟨j,hj⟩:=sR
  have OW:=h0 rfl
  subst OW
  refine wpAny_bind (wpAny_fieldsOf ho hd ?_)
  dsimp only
  refine wpAny_bind (wpAny_setEntries_of mH pb hf ?_)
  rw[if_neg (by simp)]
  have key:wpAny (model prog w) A.in1 (setNext a ((0:Nat):Int).toNat ((0:Nat):Int).toNat ((ep:Nat):Int).toNat) (fun r s'=>s'=s/\r=some (vs[0],j+1)) (fun e s'=>False) s:=by
   simp only[Int.toNat_natCast]
   unfold setNext setsByText
   refine wpAny_bind (wpAny_setState_of mH pb hf ?_)
   dsimp only
   refine wpAny_bind (wpAny_bind (wpAny_askSetting (wpAny_pure ?_)))
   rw[if_neg (by rw[show(⟨(model prog w).prog,(model prog w).w.params⟩:Setting).params.followText "set-order" = false from wR];exact Bool.false_ne_true)]
   refine wpAny_ite_split (fun z=>?_) (fun _=>?_)
   ·have z:(!t.plain&&decide (es.size > 1))=true:=z
    simp only[W2,Bool.and_eq_true,decide_eq_true_eq] at z
    omega
   ·refine wpAny_bind ?_
    show wpAny _ _ (if (!t.led && !es.isEmpty)=true then unsupported _ else pure ()) _ _ _
    rw[if_neg (by rw[hm.1,wR];simp)]
    refine wpAny_pure (wpAny_pure ⟨rfl,?_⟩)
    have JR:SetTable.below t.place 0=0:=by rw[hj];rfl
    rw[JR,hj]
    have e0:es[0]? = some es[0]:=Array.getElem?_eq_getElem (by omega)
    have ev:vs[0]=es[0].2:=by simp[CW]
    rw[e0,ev]
    rfl
  refine wpAny_bind (wpAny_mono key (fun r s' ⟨e1,e2⟩=>?_) fun _ _ z=>z.elim)
  subst e1 e2
  dsimp only
  refine wpAny_bind (wpAny_setField ho hd (by simp) ?_)
  obtain⟨o',gH,Gn,qt⟩:=gT (j:=0) (v:=rawInt ((j+1:Nat):Int)) ho hc hd
  refine wpAny_bind (wpAny_setField gH qt (by simp) ?_)
  obtain⟨Y4,Mc,Mj,Mi⟩:=gT (j:=1) (v:=rawInt (((0:Nat):Int)+1)) gH Gn qt
  refine wpAny_pure ⟨_,rfl,wpAny_pure (hQ _ (x.put (fun b o n e=>up _ _ b o n (up _ _ b o n e)) Mc Mj (.inr (.inr ⟨j+1,oa,t,wR,hsz,?_,mH,pb,fun z=>by omega,fun _=>⟨j,hj,rfl⟩,CW⟩))) fun b o n e=>up _ _ b o n (up _ _ b o n e))⟩
  rw[Mi];simp[rawInt]
theorem BI{s1:Shared}{α:Type}{P:α->Shared->Prop}{Q:Option Value->Shared->Prop}(hh:A.handled=none)(h:∀h',(∀b o,s1.heap.get? b=some o->h'.get? b=some o)->Q none {s1 with heap:=h'}) :
  wpAny (model prog w) A.in1 (do let e <-newExc (Value.type "StopIteration") [];raiseNew e) P (fun e s'=>wpAny (model prog w) A (do let q <-isInstance e (.type "StopIteration");if q=true then pure none else throw e) Q E s') s1:=by
 refine wpAny_bind ?_
 simp only[newExc,newTuple]
 refine wpAny_bind (wpAny_newObj_type ?_ (by size_fits))
 refine wpAny_bind (m:=firstArgMember _ _) (wpAny_of_eq (a:=Value.none) (by first|rfl|(simp only[firstArgMember];rfl)) ?_)
 refine wpAny_newObj_type ?_ (by size_fits)
 simp only[raiseNew]
 refine wpAny_bind (wpAny_handled ?_)
 rw[show A.in1.handled=none from hh]
 refine wpAny_bind (wpAny_pure (wpAny_throw ?_))
 refine wpAny_bind (wpAny_isInstance (T := "StopIteration") (b:=true) ⟨_,Heap.get?_push_size _ rfl,rfl⟩ isSubtype_stop ?_)
 exact wpAny_pure (h _ fun b o e=>Heap.get?_push_of_some _ (Heap.get?_push_of_some _ e))
theorem D5{Q:Option Value->Shared->Prop}(hh:A.handled=none)(x:yG prog w I a fp es ep vs vs.length s.heap)
  (hQ:∀h',(∀b o,b≠I->s.heap.get? b=some o->h'.get? b=some o)->Q none {s with heap:=h'}):wpAny (model prog w) A (pyNext (.ref I)) Q E s:=by
 obtain⟨o,ho,hc,hM⟩:=x.it
 obtain⟨oa,t,mH,hex,pb,wQ,hb,hf,hm⟩:=x.sg.ex
 have up:∀(h:Heap) (f:Obj->Obj) b o,b≠I->h.get? b=some o->(h.update I f).get? b=some o:=fun h f b o hn e=>(Heap.get?_update_other _ _ (Ne.symm hn)).trans e
 have Dr:∀(s1:Shared) (o1:Obj) (fs:Array Value) {P:Fin->Shared->Prop},s1.heap.get? I=some o1->o1.cls=.type "set_iterator"->o1.data=.fields fs->2<fs.size->(∃h1,s1={s with heap:=h1}/\∀b o,b≠I->s.heap.get? b=some o->h1.get? b=some o) ->
   wpAny (model prog w) A.in1 (do setField (Value.ref I) 2 Value.none;let e <-newExc (Value.type "StopIteration") [];raiseNew e) P (fun e s'=>wpAny (model prog w) A (do let q <-isInstance e (.type "StopIteration");if q=true then pure none else throw e) Q E s') s1:=by
  rintro s1 o1 fs P h1 h2 h3 h4 ⟨hp,rfl,h5⟩
  refine wpAny_bind (wpAny_setField h1 h3 h4 ?_)
  exact BI hh fun h' k=>hQ h' fun b o n e=>k b o (up _ _ b o n (h5 b o n e))
 unfold pyNext
 refine wpAny_bind (wpAny_attempt (wpAny_callSpecial?_slot (name:=Str.ofString "__next__") x.typeIs SF.next (wpAny_call_entry SF.next x.typeIs SF.entry ?_ (SF.args _))))
 refine wpAny_bind (wpAny_pure ?_)
 have e0:s={s with heap:=s.heap}:=by cases s;rfl
 rcases hM with⟨tup,ot,n0,order,T9,nu,hd,Rw,Ry,hlen,L'⟩|⟨slot,wR,hd,CW⟩|⟨slot,Y3,t',wR,hsz,hd,Mb,Mh,h0,h1,CW⟩
 ·refine wpAny_bind (wpAny_fieldsOf ho hd ?_)
  dsimp only
  refine wpAny_bind (wpAny_setEntries_of mH pb hf ?_)
  rw[if_neg (by simp)]
  unfold seqItems?
  dsimp only
  refine wpAny_bind (wpAny_bind (wpAny_load Rw ?_))
  rw[Ry]
  dsimp only
  refine wpAny_pure ?_
  dsimp only
  have sR:(order.map fun(j:Nat)=>rawInt j).toArray[((vs.length:Nat):Int).toNat]? = none:=by
   rw[Int.toNat_natCast,List.getElem?_toArray,List.getElem?_eq_none];simp;omega
  rw[sR]
  dsimp only
  refine wpAny_bind (wpAny_setField ho hd (by simp) ?_)
  obtain⟨o',gH,Gn,qt⟩:=gT (j:=0) (v:=rawInt 0) ho hc hd
  exact Dr _ o' _ gH Gn qt (by simp) ⟨_,rfl,up _ _⟩
 ·refine wpAny_bind (wpAny_fieldsOf ho hd ?_)
  dsimp only
  refine wpAny_bind (wpAny_setEntries_of mH pb hf ?_)
  rw[if_neg (by simp)]
  have key:wpAny (model prog w) A.in1 (setNext a ((slot:Nat):Int).toNat ((vs.length:Nat):Int).toNat ((ep:Nat):Int).toNat) (fun r s'=>s'=s/\r=none) (fun e s'=>False) s:=by
   simp only[Int.toNat_natCast]
   unfold setNext setsByText
   refine wpAny_bind (wpAny_setState_of mH pb hf ?_)
   dsimp only
   refine wpAny_bind (wpAny_bind (wpAny_askSetting (wpAny_pure ?_)))
   rw[if_pos (show(Setting.mk (model prog w).prog (model prog w).w.params).params.followText "set-order" = true from wR),if_neg (by simp)]
   unfold setWalk setsByText
   refine wpAny_bind (wpAny_bind (wpAny_setState_of mH pb hf ?_))
   dsimp only
   refine wpAny_bind (wpAny_bind (wpAny_askSetting (wpAny_pure ?_)))
   rw[if_pos (show(Setting.mk (model prog w).prog (model prog w).w.params).params.followText "set-order" = true from wR)]
   refine wpAny_bind (wpAny_askSetting (wpAny_pure (wpAny_pure ⟨rfl,?_⟩)))
   show((pickOrder (w.params.setOrder a ep) es)[vs.length]?).map (fun e=>(e.2,slot))=_
   rw[Array.getElem?_eq_none (by rw[CW];simp)]
   rfl
  refine wpAny_bind (wpAny_mono key (fun r s' ⟨e1,e2⟩=>?_) fun _ _ z=>z.elim)
  subst e1 e2
  dsimp only
  exact Dr _ o _ ho hc hd (by simp) ⟨_,e0,fun b o n e=>e⟩
 ·cases mH.symm.trans Mb
  cases pb.symm.trans Mh
  refine wpAny_bind (wpAny_fieldsOf ho hd ?_)
  dsimp only
  refine wpAny_bind (wpAny_setEntries_of mH pb hf ?_)
  rw[if_neg (by simp)]
  have Gi:=x.len
  have Ul:es[SetTable.below t.place slot]? = none:=by
   by_cases z:es.size=0
   ·exact Array.getElem?_eq_none (by omega)
   ·obtain⟨j,hj,hs⟩:=h1 (by omega)
    have:SetTable.below t.place slot=1:=by
     rw[hj,hs]
     simp[SetTable.below,SetTable.below.go]
    rw[this]
    exact Array.getElem?_eq_none (by omega)
  have key:wpAny (model prog w) A.in1 (setNext a ((slot:Nat):Int).toNat ((vs.length:Nat):Int).toNat ((ep:Nat):Int).toNat) (fun r s'=>s'=s/\r=none) (fun e s'=>False) s:=by
   simp only[Int.toNat_natCast]
   unfold setNext setsByText
   refine wpAny_bind (wpAny_setState_of mH pb hf ?_)
   dsimp only
   refine wpAny_bind (wpAny_bind (wpAny_askSetting (wpAny_pure ?_)))
   rw[if_neg (by rw[show(⟨(model prog w).prog,(model prog w).w.params⟩:Setting).params.followText "set-order" = false from wR];exact Bool.false_ne_true)]
   refine wpAny_ite_split (fun z=>?_) (fun _=>?_)
   ·have z:(!t.plain&&decide (es.size > 1))=true:=z
    simp only[Bool.and_eq_true,decide_eq_true_eq] at z
    omega
   ·refine wpAny_bind ?_
    show wpAny _ _ (if (!t.led && !es.isEmpty)=true then unsupported _ else pure ()) _ _ _
    rw[if_neg (by rw[hm.1,wR];simp)]
    refine wpAny_pure (wpAny_pure ⟨rfl,?_⟩)
    rw[Ul]
  refine wpAny_bind (wpAny_mono key (fun r s' ⟨e1,e2⟩=>?_) fun _ _ z=>z.elim)
  subst e1 e2
  dsimp only
  exact Dr _ o _ ho hc hd (by simp) ⟨_,e0,fun b o n e=>e⟩
theorem D0{Q:Value->Shared->Prop}(x:yG prog w I a fp es ep vs i s.heap)(h:Q (.ref I) s):wpAny (model prog w) A (pyIter (.ref I)) Q E s:=by
 refine wpAny_pyIter_slot x.typeIs SF.iter (wpAny_call_entry SF.iter x.typeIs SF.MD ?_ (SF.P' _))
 show wpAny _ _ (ret (.ref I)) _ _ s
 exact wpAny_pure ⟨_,rfl, "set_iterator",_,x.typeIs,SF.next.lookup,h⟩
theorem B5(hh:A.handled=none)(hI:I∈fp):Walks prog w A I fp [I] vs.length (fun i v=>∃h:i<vs.length,v=vs[i]) (fun i h=>yG prog w I a fp es ep vs i h) where
 sub:=fun b hb=>by rw[List.mem_singleton.mp hb];exact hI
 frame:=fun _ _ _ st hk=>st.at hk
 item:=fun i s Q E hi st hQ=>D1 st hi fun h' CU k=>hQ _ h' s.toks ⟨hi,rfl⟩ CU fun b o hb e=>k b o (fun z=>hb (by simp[z])) e
 done:=fun s Q E st hQ=>D5 hh st fun h' k=>hQ h' s.toks fun b o hb e=>k b o (fun z=>hb (by simp[z])) e
 self:=fun _ _ _ _ st hQ=>D0 st hQ
end
end
end L2
end
section
namespace L2
open PySem PySem.Spec PyProof.Rows
section
variable {prog:Program}{w:World}{A:Around}{E:Value->Shared->Prop}{s:Shared}{a:Addr}{es:Array (Int×Value)}{ep:Nat}
theorem zr{order:List Nat}(hp:order.Perm (List.range es.size)):∃vs:List Value,vs.Perm (es.toList.map (·.2))/\vs.length=order.length/\∀(j p:Nat),order[j]? = some p->∃e,es[p]? = some e/\vs[j]? = some e.2:=by
 refine⟨order.map fun p=>((es[p]?).map (·.2)).getD .none,?_,by simp,fun j p h=>?_⟩
 ·refine(hp.map _).trans (List.Perm.of_eq ?_)
  apply List.ext_getElem?
  intro i
  simp only[List.getElem?_map]
  by_cases h:i<es.size
  ·rw[List.getElem?_range h]
   simp[h]
  ·rw[List.getElem?_eq_none (by simpa using Nat.le_of_not_lt h),List.getElem?_eq_none (by simpa using Nat.le_of_not_lt h)];rfl
 ·have hm:p∈List.range es.size:=hp.mem_iff.mp (List.mem_of_getElem? h)
  have iZ:p<es.size:=List.mem_range.mp hm
  refine⟨es[p],Array.getElem?_eq_getElem iZ,?_⟩
  rw[List.getElem?_map,h]
  simp[iZ]
theorem SG.typeIs(x:SG prog w s.heap a es ep):s.TypeIs (.ref a) "set":=let ⟨o,_,ho,hex,_⟩:=x.ex;⟨o,ho,hex.1⟩
theorem D3{Q:Value->Shared->Prop}(x:SG prog w s.heap a es ep)
  (h:∀(I:Addr) (fp:List Addr) (vs:List Value) (h':Heap) (d:Drawn),(∀b o,s.heap.get? b=some o->h'.get? b=some o)->yG prog w I a fp es ep vs 0 h'->vs.Perm (es.toList.map (·.2))->s.heap.objs.size<=I->(∀b∈fp,b<h'.objs.size)->(∀b∈fp,b=a\/s.heap.objs.size<=b)->Q (.ref I) {s with heap:=h',drawn:=d}):wpAny (model prog w) A (pyIter (.ref a)) Q E s:=by
 obtain⟨oa,t,mH,hex,pb,wQ,hb,hf,hm⟩:=x.ex
 have iZ:a<s.heap.objs.size:=Heap.lt_size mH
 refine wpAny_pyIter_slot x.typeIs PySem.F.slot_set_iter (wpAny_call_entry PySem.F.slot_set_iter x.typeIs SF.MC ?_ (PySem.F.args_set_iter_1 _))
 unfold Builtin.«frozenset.__iter__» Builtin.Frozenset.slot0 slotArgs
 simp only[List.isEmpty_nil,Bool.not_true,Bool.false_eq_true,↓reduceIte,bind_assoc,List.length_nil,bne_self_eq_false]
 unfold Builtin.Frozenset.addrOf Builtin.Frozenset.sizeOf
 refine wpAny_bind (wpAny_pure ?_)
 try dsimp only
 refine wpAny_bind (wpAny_pure ?_)
 refine wpAny_bind (wpAny_bind (wpAny_setEntries_of mH pb hf (wpAny_pure ?_)))
 unfold setDrawn setsByText
 refine wpAny_bind (wpAny_bind (wpAny_setState_of mH pb hf ?_))
 dsimp only
 refine wpAny_bind (wpAny_bind (wpAny_askSetting (wpAny_pure (wpAny_pure ?_))))
 refine wpAny_ite_split (fun z=>?_) (fun z=>?_)
 ·have z:(!w.params.followText "set-order" && (!t.plain&&decide (es.size > 1)))=true:=z
  have wR:w.params.followText "set-order" = false:=by
   cases e:w.params.followText "set-order" with
   |false=>rfl
   |true=>rw[e] at z;cases z
  refine wpAny_bind (yu _ _ _ (by simp) fun order d hp=>?_)
  obtain⟨vs,hv1,OS,hv3⟩:=zr hp
  simp only[newTuple]
  have Rx:order.length=es.size:=by rw[hp.length_eq];simp
  have Ts:=fits_of_scanBound hb
  refine wpAny_bind (wpAny_newObj_type ?_ (show(order.map fun(i:Nat)=>rawInt i).toArray.size<=sizeLine by simp;omega))
  have Pb:(s.heap.push {cls:=.type "tuple",data:=.seq (order.map fun(i:Nat)=>rawInt i).toArray}).get? a=some oa:=Heap.get?_push_of_some _ mH
  refine wpAny_bind (wpAny_setEpoch_of (s:={s with heap:=s.heap.push {cls:=.type "tuple",data:=.seq (order.map fun(i:Nat)=>rawInt i).toArray},drawn:=d}) Pb pb hf ?_)
  refine wpAny_bind (wpAny_newObj_type (wpAny_pure ⟨_,rfl, "set_iterator",_,⟨_,Heap.get?_push_size _ rfl,rfl⟩,SF.next.lookup,?_⟩))
  refine h _ [s.heap.objs.size+1,a,s.heap.objs.size] vs _ d (fun b o e=>Heap.get?_push_of_some _ (Heap.get?_push_of_some _ e)) ⟨⟨oa,t,Heap.get?_push_of_some _ Pb,hex,pb,wQ,hb,hf,hm⟩,by rw[OS,Rx],⟨_,Heap.get?_push_size _ rfl,rfl,.inl ⟨s.heap.objs.size,_,0,order,by simp,?_,?_,Heap.get?_push_of_some _ (Heap.get?_push_size _ rfl),rfl,OS,hv3⟩⟩,?_,by simp,?_⟩ hv1 ?_ ?_ ?_
  ·rw[Heap.size_push];exact Nat.ne_of_lt (Nat.lt_succ_self _)
  ·simp[rawInt]
  ·rw[Heap.size_push];simp
  ·rw[Heap.size_push];exact Nat.ne_of_lt (Nat.lt_succ_of_lt iZ)
  ·rw[Heap.size_push];exact Nat.le_succ _
  ·intro b hb
   rw[Heap.size_push,Heap.size_push]
   simp only[List.mem_cons,List.not_mem_nil,or_false] at hb
   rcases hb with rfl|rfl|rfl
   ·exact Nat.lt_succ_self _
   ·exact Nat.lt_succ_of_lt (Nat.lt_succ_of_lt iZ)
   ·exact Nat.lt_succ_of_lt (Nat.lt_succ_self _)
  ·intro b hb
   simp only[List.mem_cons,List.not_mem_nil,or_false] at hb
   rcases hb with rfl|rfl|rfl
   ·exact .inr (Nat.le_succ _)
   ·exact .inl rfl
   ·exact .inr (Nat.le_refl _)
 ·have z:¬(!w.params.followText "set-order" && (!t.plain&&decide (es.size > 1)))=true:=z
  refine wpAny_bind (wpAny_pure ?_)
  refine wpAny_bind (wpAny_setEpoch_of mH pb hf ?_)
  refine wpAny_bind (wpAny_newObj_type (wpAny_pure ⟨_,rfl, "set_iterator",_,⟨_,Heap.get?_push_size _ rfl,rfl⟩,SF.next.lookup,?_⟩))
  cases wR:w.params.followText "set-order" with
  |true=>
   refine h _ [s.heap.objs.size,a] ((pickOrder (w.params.setOrder a ep) es).toList.map (·.2)) _ s.drawn (fun b o e=>Heap.get?_push_of_some _ e) ⟨⟨oa,t,Heap.get?_push_of_some _ mH,hex,pb,wQ,hb,hf,hm⟩,?_,⟨_,Heap.get?_push_size _ rfl,rfl,.inr (.inl ⟨0,wR,?_,rfl⟩)⟩,by simp,by simp,Nat.ne_of_lt iZ⟩ ((uE _ _).map _) (Nat.le_refl _) ?_ ?_
   ·have:=(uE (w.params.setOrder a ep) es).length_eq
    simpa using this
   ·simp[rawInt]
   ·intro b hb
    rw[Heap.size_push]
    simp only[List.mem_cons,List.not_mem_nil,or_false] at hb
    rcases hb with rfl|rfl
    ·exact Nat.lt_succ_self _
    ·exact Nat.lt_succ_of_lt iZ
   ·intro b hb
    simp only[List.mem_cons,List.not_mem_nil,or_false] at hb
    rcases hb with rfl|rfl
    ·exact .inr (Nat.le_refl _)
    ·exact .inl rfl
  |false=>
   rw[wR] at z
   have hsz:es.size<=1:=by
    rcases hm.2 with e|e
    ·omega
    ·rw[e] at z;simp at z;exact z
   refine h _ [s.heap.objs.size,a] (es.toList.map (·.2)) _ s.drawn (fun b o e=>Heap.get?_push_of_some _ e) ⟨⟨oa,t,Heap.get?_push_of_some _ mH,hex,pb,wQ,hb,hf,hm⟩,by simp,⟨_,Heap.get?_push_size _ rfl,rfl,.inr (.inr ⟨0,oa,t,wR,hsz,?_,Heap.get?_push_of_some _ mH,pb,fun _=>rfl,fun z=>by omega,rfl⟩)⟩,by simp,by simp,Nat.ne_of_lt iZ⟩ (List.Perm.refl _) (Nat.le_refl _) ?_ ?_
   ·simp[rawInt]
   ·intro b hb
    rw[Heap.size_push]
    simp only[List.mem_cons,List.not_mem_nil,or_false] at hb
    rcases hb with rfl|rfl
    ·exact Nat.lt_succ_self _
    ·exact Nat.lt_succ_of_lt iZ
   ·intro b hb
    simp only[List.mem_cons,List.not_mem_nil,or_false] at hb
    rcases hb with rfl|rfl
    ·exact .inr (Nat.le_refl _)
    ·exact .inl rfl
theorem D4{Q:Bool->Shared->Prop}(hT:s.TypeIs (.ref a) "set")(h:Q false s):wpAny (model prog w) A (Builtin.List.listLengthHint (.ref a)) Q E s:=by
 unfold Builtin.List.listLengthHint
 refine wpAny_bind (wpAny_specialOf hT PySem.F.slot_set_len.lookup ?_)
 generalize WX:("set.__len__":String)=id0
 wp_delta
 rw[show splitId id0=some ("set", "__len__") from by subst WX;decide +kernel]
 subst WX
 refine wpAny_bind (wpAny_isInstance (T := "set") (b:=true) hT (by rw[isSubtype_type];kernel_rfl) ?_)
 refine wpAny_ite_split (fun Nr=>absurd Nr (by decide)) (fun _=>?_)
 refine wpAny_ite_split (fun _=>?_) (fun Nr=>absurd (by decide +kernel) Nr)
 exact wpAny_bind (wpAny_typeOf hT (wpAny_pure h))
theorem xn{R:List Value->Shared->Prop}(hh:A.handled=none)(x:SG prog w s.heap a es ep)
  (h:∀(h':Heap) (d:Drawn) (tk:Nat) (vs:List Value),(∀b o,s.heap.get? b=some o->h'.get? b=some o)->s.heap.objs.size<=h'.objs.size->vs.Perm (es.toList.map (·.2))->R vs {s with heap:=h',drawn:=d,toks:=tk}) :
  wpAny (model prog w) A (collect (.ref a)) R E s:=by
 obtain⟨oa,t,mH,hex,pb,wQ,hb,hf,hm⟩:=x.ex
 have iZ:a<s.heap.objs.size:=Heap.lt_size mH
 unfold collect
 refine wpAny_bind (wpAny_runValue (codeAny_builtin entry_proto_collect' ?_))
 rw[Around.under_plainId PySem.F.plain_proto_collect _]
 show wpAny _ A.in1 (newList [] >>= fun l=>again (.builtin "list.__iadd__" ⟨[l,.ref a],[]⟩)) _ _ s
 refine wpAny_bind (wpAny_newObj_type ?_)
 refine wpAny_pure ⟨plainId_quiet PySem.F.plain_list_iadd _,codeAny_builtin entry_list_iadd' ?_⟩
 rw[Around.under_plainId PySem.F.plain_list_iadd _]
 have rX:(s.heap.push {cls:=.type "list",data:=.seq ([]:List Value).toArray}).get? s.heap.objs.size=some {cls:=.type "list",data:=.seq #[]}:=Heap.get?_push_size _ rfl
 have x1:SG prog w (s.heap.push {cls:=.type "list",data:=.seq ([]:List Value).toArray}) a es ep:=x.at fun o e=>Heap.get?_push_of_some _ e
 show wpAny _ A.in1 (Builtin.List.listExtendWith (.ref s.heap.objs.size) (.ref a) (.ref s.heap.objs.size)) _ _ _
 unfold Builtin.List.listExtendWith
 refine wpAny_bind (wpAny_typeOf (T := "set") x1.typeIs ?_)
 have h1:Builtin.List.listSameRef (.ref s.heap.objs.size) (.ref a)=false:=by simp[Builtin.List.listSameRef,Nat.ne_of_gt iZ]
 have n1:(Value.type "set" == Value.type "list")=false:=by decide
 have n2:(Value.type "set" == Value.type "tuple")=false:=by decide
 simp only[h1,n1,n2,Bool.or_false,Bool.false_eq_true,if_false]
 refine wpAny_bind (D3 (s:={s with heap:=s.heap.push {cls:=.type "list",data:=.seq ([]:List Value).toArray}}) x1 fun I fp vs h' d kp it hp hI T9 Ub=>?_)
 have rW:=kp _ _ rX
 have Fw:s.heap.objs.size∉fp:=fun z=>by
  rcases Ub _ z with e|e
  ·exact Nat.ne_of_gt iZ e
  ·rw[Heap.size_push] at e;exact Nat.lt_irrefl _ e
 refine wpAny_bind (wpAny_holding (D4 (s:={s with heap:=h',drawn:=d}) it.sg.typeIs ?_))
 have W:=B5 (prog:=prog) (w:=w) (A:=A.in1) (a:=a) (es:=es) (ep:=ep) (vs:=vs) hh it.hI
 have hn:vs.length<=sizeLine:=by rw[it.len];exact fits_of_scanBound hb
 have key:∀(h2:Heap) (c₁ tk:Nat),yG prog w I a fp es ep vs 0 h2->(∀b o,s.heap.get? b=some o->h2.get? b=some o)->h2.get? s.heap.objs.size=some {cls:=.type "list",data:=.seq #[] c₁} ->
   codeAny (model prog w) A (.builtin "list.extend.loop" ⟨[.ref s.heap.objs.size,.ref I,.ref s.heap.objs.size],[]⟩) (fun q s'=>∃(h':Heap) (tk:Nat) (gC:Array Value) (c':Nat),q=.ok (.ret (.ref s.heap.objs.size))/\s'={s with heap:=h',drawn:=d,toks:=tk}/\(∀b o,s.heap.get? b=some o->h'.get? b=some o)/\h'.get? s.heap.objs.size=some {cls:=.type "list",dict:=none,data:=.seq gC c',slots:=#[]}/\gC.toList=vs) {s with heap:=h2,drawn:=d,toks:=tk}:=by
  intro h2 c₁ tk zO hk rX
  refine codeAny_extend_loopS W.toS hn s.heap.objs.size Fw (.ref s.heap.objs.size) vs.length 0 _ #[] c₁ rfl (Nat.zero_le _) zO rX (ItemsOf.nil _) fun s' gC c' hm CF lM=>?_
  rw[Moved.eq_with hm]
  refine⟨s'.heap,s'.toks,gC,c',rfl,rfl,fun b o e=>hm.heap b o (fun lL=>?_) (hk b o e),CF,?_⟩
  ·rcases List.mem_cons.mp lL with e'|lL
   ·exact absurd (Heap.lt_size e) (by rw[e'];exact Nat.lt_irrefl _)
   ·have:=List.mem_singleton.mp lL
    have h3:=Heap.lt_size e
    rw[this] at h3
    rw[Heap.size_push] at hI
    exact Nat.lt_irrefl _ (Nat.lt_trans h3 hI)
  ·apply List.ext_getElem?
   intro j
   by_cases hj:j<vs.length
   ·have WV:j<gC.size:=by rw[lM.1];exact hj
    obtain⟨_,e⟩:=lM.2 j gC[j] (Array.getElem?_eq_getElem WV)
    rw[Array.getElem?_toList,Array.getElem?_eq_getElem WV,e,List.getElem?_eq_getElem hj]
   ·rw[Array.getElem?_toList,Array.getElem?_eq_none (by rw[lM.1];omega),List.getElem?_eq_none (by omega)]
 have fin:∀(h2:Heap) (c₁ tk:Nat),yG prog w I a fp es ep vs 0 h2->(∀b o,s.heap.get? b=some o->h2.get? b=some o)->h2.get? s.heap.objs.size=some {cls:=.type "list",data:=.seq #[] c₁} ->
   codeAny (model prog w) A (.builtin "list.extend.loop" ⟨[.ref s.heap.objs.size,.ref I,.ref s.heap.objs.size],[]⟩) (fun r s'=>match r with
    | .ok (.ret v)=>wpAny (model prog w) A (match v with
      | .ref a=>do match (<-load a).data with | .seq xs _=>pure xs.toList|_=>unsupported "internal:collect"
      |_=>unsupported "internal:collect") R E s'
    | .ok _=>False
    | .error e=>E e s') {s with heap:=h2,drawn:=d,toks:=tk}:=fun h2 c₁ tk i1 i2 i3=>codeAny_mono (key h2 c₁ tk i1 i2 i3) fun q s2 y=>by
  obtain⟨h3,Q7,gC,c',rfl,rfl,hk,CF,lM⟩:=y
  show wpAny _ A (load s.heap.objs.size >>= _) _ _ _
  refine wpAny_bind (wpAny_load CF ?_)
  exact wpAny_pure (lM ▸ h h3 d Q7 gC.toList hk (Nat.le_of_lt (Heap.lt_size CF)) (lM ▸ hp))
 have Ng:∀b o,s.heap.get? b=some o->h'.get? b=some o:=fun b o e=>kp b o (Heap.get?_push_of_some _ e)
 refine wpAny_ite_split (fun _=>?_) (fun _=>wpAny_pure ⟨plainId_quiet PySem.F.plain_extend_loop _,fin _ _ _ it Ng rW⟩)
 refine wpAny_bind (wpAny_rule ?_)
 refine wpAny_bind ?_
 show wpAny _ _ (updateSeq s.heap.objs.size (·.push .none) >>= fun _=>updateSeq s.heap.objs.size (·.pop)) _ _ _
 refine wpAny_bind (wpAny_updateSeq rW rfl ?_)
 have yh:=Heap.get?_update_self (Obj.mapSeq (·.push Value.none)) rW rfl
 refine wpAny_updateSeq (hz:=by seq_fits) yh rfl ?_
 have A4:=Heap.get?_update_self (Obj.mapSeq (·.pop)) yh rfl
 have nb:∀b o,b≠s.heap.objs.size->h'.get? b=some o->((h'.update s.heap.objs.size (Obj.mapSeq (·.push Value.none))).update s.heap.objs.size (Obj.mapSeq (·.pop))).get? b=some o:=fun b o hb e=>(Heap.get?_update_other _ _ (Ne.symm hb)).trans ((Heap.get?_update_other _ _ (Ne.symm hb)).trans e)
 refine wpAny_pure ⟨plainId_quiet PySem.F.plain_extend_loop _,fin _ _ _ (it.at fun b hb o e=>nb b o (fun z=>Fw (z ▸ hb)) e) (fun b o e=>nb b o (Nat.ne_of_lt (Heap.lt_size e)) (Ng b o e)) A4⟩
end
end L2
end
section
namespace L2
open PySem PySem.Spec PyProof.Rows
def slt(x y:Str):Prop:=x.cps.toList<y.cps.toList
instance:DecidableRel slt:=fun x y=>inferInstanceAs (Decidable (x.cps.toList<y.cps.toList))
theorem y'(x:Str):¬slt x x:=List.lt_irrefl _
theorem B4{x y z:Str}(h:slt x y)(h':slt y z):slt x z:=List.lt_trans h h'
theorem Ky{x y:Str}(h:slt x y):x≠y:=fun e=>y' x (by rw[<-e] at h;exact h)
theorem AB(x y:Str):slt x y\/x=y\/slt y x:=by
 by_cases h:x.cps.toList<y.cps.toList
 ·exact .inl h
 ·by_cases h':y.cps.toList<x.cps.toList
  ·exact .inr (.inr h')
  ·refine .inr (.inl ?_)
   have:=List.le_antisymm (List.not_lt.mp h') (List.not_lt.mp h)
   cases x;cases y
   simpa[Array.toList_inj] using this
theorem uz:∀(l:List Str) (p:Str),risingS p l=true->(∀x∈l,¬slt x p)/\l.Pairwise fun a b=>¬slt b a
 | [],p,_=>by simp
 |x::r,p,h=>by
  simp only[risingS,Bool.and_eq_true,Bool.not_eq_true',ltCps_eq,decide_eq_false_iff_not] at h
  obtain⟨h1,h2⟩:=uz r x h.2
  have hx:¬slt x p:=h.1
  refine⟨fun y hy=>?_,List.pairwise_cons.mpr ⟨h1,h2⟩⟩
  rcases List.mem_cons.mp hy with rfl|hy
  ·exact hx
  ·intro z
   rcases AB x y with q|q|q
   ·exact hx (B4 q z)
   ·rw[q] at hx;exact hx z
   ·exact h1 y hy q
theorem lV{l:List Str}(h:sortedS l=true)(hn:l.Nodup):l.Pairwise slt:=by
 have hw:l.Pairwise fun a b=>¬slt b a:=by
  cases l with
  |nil=>simp
  |cons x r=>obtain⟨h1,h2⟩:=uz r x h;exact List.pairwise_cons.mpr ⟨h1,h2⟩
 exact(hw.and hn).imp fun⟨q,n⟩=>(AB _ _).resolve_right fun z=>z.elim n q
section
variable {prog:Program}{w:World}{A:Around}{E:Value->Shared->Prop}{s:Shared}
theorem uq{vs:List Value}{ss:List Str}{Q:Value->Shared->Prop}(hS:StrsAre vs ss)(Fx:vs.length<64)
  (h:∀(h':Heap) (out:Array Value) (ys:List Str) (e:Nat) (p:Addr),(∀b o,s.heap.get? b=some o->h'.get? b=some o)->s.heap.objs.size<=p->h'.get? p=some (seqObj "list" out e)->StrsAre out.toList ys->ys.Perm ss->sortedS ys=true->Q (.ref p) {s with heap:=h'}) :
  wpAny (model prog w) A (do let l <-newList vs;let _ <-holding [l] (call (.builtin "list.sort") [l] []);ret l) (fun fin s'=>∃r,fin=.done (.ret r)/\Q r s') E s:=by
 refine wpAny_bind (wpAny_newList ?_)
 have Pc:(s.heap.push (seqObj "list" vs.toArray 0)).get? s.heap.objs.size=some (seqObj "list" vs.toArray 0):=Heap.get?_push_size _ rfl
 refine wpAny_bind (wpAny_holding (wpAny_call_entry slot_list_sort ⟨_,Pc,rfl⟩ entry_list_sort (list_sort_treeK (s:={s with heap:=s.heap.push (seqObj "list" vs.toArray 0)}) strKind_oneLt Pc hS.keysOf (fun YB YA rest e=>keyKind_strs (by rw[<-e];exact hS)) Fx fun CU a1 a2=>⟨_,rfl,?_⟩) (args_list_sort _)))
 obtain⟨YV,h1,h2,h3⟩:=sorted_out_str hS a1 a2
 obtain⟨e,he⟩:=sortedHeap_at (out:=(arrOf CU).map (·.2)) Pc
 refine wpAny_pure ⟨_,rfl,h _ _ YV e _ (fun b o q=>?_) (Nat.le_refl _) he h1 h2 h3⟩
 have hb:=Heap.lt_size q
 rw[sortedHeap_old (Nat.ne_of_lt hb) (by rw[Heap.size_push];exact Nat.lt_succ_of_lt hb)]
 exact Heap.get?_push_of_some _ q
theorem lU:∀{vs:List Value},(∀v∈vs,∃t,v=.str (strOf v) t)->StrsAre vs (vs.map strOf)
 | [],_=>.nil
 |v::vs,h=>by
  obtain⟨t,e⟩:=h v (.head _)
  rw[e]
  exact .cons _ t (lU fun v hv=>h v (.tail _ hv))
theorem y0{a:Addr}{es:Array (Int×Value)}{ep:Nat}{xs:List Str}{Q:Value->Shared->Prop}(hh:A.handled=none)(x:SG prog w s.heap a es ep)(hz:Kz es xs)(Fx:es.size<64)
  (h:∀(h':Heap) (d:Drawn) (tk:Nat) (out:Array Value) (ys:List Str) (e:Nat) (p:Addr),(∀b o,s.heap.get? b=some o->h'.get? b=some o)->s.heap.objs.size<=p->h'.get? p=some (seqObj "list" out e)->StrsAre out.toList ys->ys.Pairwise slt->(∀x,x∈ys↔x∈xs)->Q (.ref p) {s with heap:=h',drawn:=d,toks:=tk}) :
  wpAny (model prog w) A (call (.builtin "sorted") [.ref a]) Q E s:=by
 refine Calls.call_function_entry kind_sorted plain_sorted entry_sorted (args_sorted1 _) ?_
 unfold Builtin.«sorted»
 refine wpAny_bind (m:=checkCount "sorted" 1 1 _) (wpAny_pure ?_)
 refine wpAny_bind (xn hh x fun h1 d tk vs k1 hz1 hp=>?_)
 have wQ:=x.elems
 have CW:StrsAre vs (vs.map strOf):=lU fun v hv=>by
  obtain⟨e,he,rfl⟩:=List.mem_map.mp (hp.mem_iff.mp hv)
  exact yj wQ he
 have lX:(vs.map strOf).Perm (es.toList.map fun e=>strOf e.2):=by
  have:=hp.map strOf
  rwa [List.map_map] at this
 have hlen:vs.length<64:=by rw[hp.length_eq];simpa using Fx
 refine uq (s:={s with heap:=h1,drawn:=d,toks:=tk}) CW hlen fun h' out ys e p k2 TC Fo Fi Cy Ni=>?_
 refine h h' d tk out ys e p (fun b o q=>k2 b o (k1 b o q)) (Nat.le_trans hz1 TC) Fo Fi (lV Ni ((Cy.trans lX).nodup_iff.mpr hz.1)) fun x=>?_
 rw[(Cy.trans lX).mem_iff]
 exact hz.2 x
end
section
variable {X:Cx}{pins:List (Addr×Obj)}{σ:St}{H:Hp}{s:Shared}
theorem Inv.OH{h':Heap}{a:Addr}{o:HO}{t':Nat}{d':Drawn}(I:Inv X pins σ H s)(k:∀b u,s.heap.get? b=some u->h'.get? b=some u)(hp:s.heap.objs.size<=a)(new:ez X.prog X.w (upd H a o) h' a o):Inv X pins σ (upd H a o) {s with heap:=h',drawn:=d',toks:=t'}:=
 I.call (g':=s.gens) (ch:=[]) (Un.laid k hp (I.cg.fresh hp)) (I.cg.laid k hp new) I.bare fun _ z=>nomatch z
def xo(X:Cx)(p:Addr)(xs:List Str):HO:=.ext fun h=>∃es ep,SG X.prog X.w h p es ep/\Kz es xs
theorem Hg{xs:List Str}:∀{its:List Value},Vals (xs.map V.str) its->StrsAre its xs:=by
 induction xs with
 |nil=>intro its h;cases h;exact .nil
 |cons x xs ih=>
  intro its h
  cases h with
  |cons r t=>obtain⟨tk,rfl⟩:=r;exact .cons x tk (ih t)
theorem Ai{its:List Value}{xs:List Str}(h:StrsAre its xs):Vals (xs.map V.str) its:=by
 induction h with
 |nil=>exact .nil
 |cons y t _ ih=>exact .cons ⟨t,rfl⟩ ih
theorem CP(hh:X.A.handled=none):hV X (.type "set") (fun vs H Q=>∃(l:Addr) (xs:List Str),vs=[.ref l]/\ju X.K H l (xs.map V.str)/\xs.length<=4000/\∀p,H p=none->Q (.ref p) (upd H p (xo X p xs))):=by
 intro pins s σ H vs us Q I r ⟨l,xs,e,hl,hx,q⟩
 subst e
 obtain⟨u,rfl,ru⟩:=vals1 r
 cases ru
 obtain⟨its,rel,pl,_⟩:=I.list hl
 have hlen:=rel.length
 rw[List.length_map] at hlen
 have hb:its.toArray.size+1<scanBound:=by rw[List.size_toArray,<-hlen];show _<4096;omega
 refine tW (prog:=X.prog) (w:=X.w) hh pl.isList (Hg rel) hb fun h' tk hS k=>?_
 refine⟨.ref s.heap.objs.size,_,I.laid (t':=tk) (o:=xo X s.heap.objs.size xs) (fun b o e=>k b o (Heap.lt_size e) e) (Nat.le_refl _) ?_,rfl,q _ I.fresh⟩
 refine⟨hS,?_,fun h1 h2 ⟨es,ep,q1,q2⟩ kk=>⟨es,ep,q1.at kk,q2⟩⟩
 obtain⟨es,ep,q1,_⟩:=hS
 obtain⟨o,_,ho,_⟩:=q1.ex
 exact⟨o,ho⟩
theorem Aa(hh:X.A.handled=none):hV X (.builtin "sorted") (fun vs H Q=>∃(a:Addr) (xs:List Str),vs=[.ref a]/\H a=some (xo X a xs)/\xs.length<=4000/\(∀zs:List Str,zs.Nodup->(∀z∈zs,z∈xs)->zs.length<64)/\∀(p:Addr) (ys:List Str),H p=none->ys.Pairwise slt->(∀x,x∈ys↔x∈xs)->Q (.ref p) (upd H p (.lst (ys.map V.str)))):=by
 intro pins s σ H vs us Q I r ⟨a,xs,e,ha,hx,Fx,q⟩
 subst e
 obtain⟨u,rfl,ru⟩:=vals1 r
 cases ru
 obtain⟨⟨es,ep,hS,hz⟩,_⟩:=I.cg a _ ha
 have Us:es.size<64:=by
  have:=Fx _ hz.1 fun z Tg=>(hz.2 z).mp Tg
  simpa using this
 refine y0 hh hS hz Us fun h' d tk out ys e p k hp Fo Fi Ni lL=>?_
 have hyl:ys.length<=4000:=Nat.le_trans (g8 ys xs (Ni.imp fun z=>Ky z) fun x hx=>(lL x).mp hx) hx
 refine⟨.ref p,_,I.OH (t':=tk) (d':=d) (o:=.lst (ys.map V.str)) k hp ?_,rfl,q p ys (I.cg.fresh hp) Ni lL⟩
 have Ts:(4000:Nat)<=sizeLine:=by rw[sizeLine_eq];omega
 exact⟨by rw[List.length_map];omega,out.toList,e,Ai Fi,by rw[Array.toArray_toList];exact Fo⟩
end
end L2
end
section
namespace VS
open PySem L2
def jg(ua:UB):UB:=fun env Q=>ua env fun r e=>∃(o:Bool) (xs:List Str),r.at e=some (.lst o (xs.map D.str))/\xs.length<=4000/\(∀zs:List Str,zs.Nodup->(∀z∈zs,z∈xs)->zs.length<64)/\∀ys:List Str,ys.Pairwise slt->(∀x,x∈ys↔x∈xs)->Q (.a8 (.lst true (ys.map D.str))) e
theorem uF{Z:Set}{H:Hp}{F:Set}:∀{xs:List Str}{vs:List V},ar Z H (xs.map D.str) vs F->vs=xs.map V.str
 | [],vs,h=>ba.mp h
 |x::xs,vs,h=>by
  obtain⟨v,r,F1,F2,rfl,h1,h2,_⟩:=aF.mp h
  rw[dX.mp h1,uF h2];rfl
theorem ox{Z:Set}{H:Hp}:∀{xs:List Str},ar Z H (xs.map D.str) (xs.map V.str) cx
 | []=>ba.mpr rfl
 |x::xs=>aF.mpr ⟨_,_,cx,cx,rfl,dX.mpr rfl,ox,fun _ z=>z,fun _ z=>z,fun _ z=>z.elim⟩
abbrev Od(X:Cx):List V->Hp->VK->Prop:=fun vs H Q=>∃(l:Addr) (xs:List Str),vs=[.ref l]/\ju X.K H l (xs.map V.str)/\xs.length<=4000/\∀p,H p=none->Q (.ref p) (upd H p (xo X p xs))
abbrev KW(X:Cx):List V->Hp->VK->Prop:=fun vs H Q=>∃(a:Addr) (xs:List Str),vs=[.ref a]/\H a=some (xo X a xs)/\xs.length<=4000/\(∀zs:List Str,zs.Nodup->(∀z∈zs,z∈xs)->zs.length<64)/\∀(p:Addr) (ys:List Str),H p=none->ys.Pairwise slt->(∀x,x∈ys↔x∈xs)->Q (.ref p) (upd H p (.lst (ys.map V.str)))
theorem xh{X:Cx}{t:TE}{u:UB}(h:aZ t u):aZ (Hd (KW X) (lT (Hd (Od X) (lT t xf)) xf)) (jg u):=by
 intro σ env Z H φ Q R O q k
 refine h σ env Z H φ _ _ O q fun r aK v Z1 H1 bE G1 ⟨o,xs,e,hx,Fx,q1⟩ O1 r1 jc=>?_
 obtain⟨F,ho⟩:=dW O1 jc e
 obtain⟨a,vs,rfl,hr,hl⟩:=fO ho
 refine⟨a,xs,rfl,.inl (by rw[<-uF hl];exact hr),hx,fun p hp=>?_⟩
 refine⟨p,xs,rfl,aB,hx,Fx,fun p2 ys Fh hs hm=>?_⟩
 have s1:=ck.upd (H:=H1) (o:=xo X p xs) hp
 have s2:=ck.upd (H:=upd H1 p (xo X p xs)) (o:=.lst (ys.map V.str)) Fh
 have zf:ck H1 (upd (upd H1 p (xo X p xs)) p2 (.lst (ys.map V.str))):=fun b o e=>s2 b o (s1 b o e)
 have TK:H1 p2=none:=by
  cases e:H1 p2 with
  |none=>rfl
  |some y=>rw[s1 p2 y e] at Fh;cases Fh
 have n:=jb.lst (Z:=Z1) TK zf aB (ox (Z:=Z1) (H:=H1) (xs:=ys))
 exact k (.a8 _) aK _ Z1 _ bE _ (q1 ys hs hm) (O1.grow zf) (n.res O1 r1.drop) n.own
section
variable {X:Cx}{e:Expr}{ua:UB}{p p2 pos K9:Pos}
theorem yL(hh:X.A.handled=none)(hg:Gl X "sorted")(hm:X.mg "sorted" = none)(T6:Gl X "set")(CY:X.mg "set" = none)(h:VE X e ua)(h1:aH e=true:=by rfl) :
  VE X (.Call (.Name "sorted" p) [.Call (.Name "set" p2) [e] [] K9] [] pos) (jg ua):=
 let ⟨_,q,s⟩:=h.ex;⟨_,wG (Aa hh) hg hm PyProof.Rows.boot_sorted (JD (Bh (CP hh) T6 CY (by decide +kernel) (JD q mn h1) (by decide) (by decide) h1 rfl) mn rfl) (by decide) (by decide) rfl rfl,xh s⟩
end
end VS
end
section
namespace VS
open PySem L2
def G_(i j:Nat)(ua:UA):US:=fun E env=>ua env fun rs e=>∃d1 d2,rs=[.a8 d1,.a8 d2]/\bare d1=true/\bare d2=true/\i<e.length/\j<e.length/\E.nx ((e.set i (some d1)).set j (some d2))
theorem xy{φ:Nat->Set}{i:Nat}(a:Addr)(h:cT (ik φ i cx) a):cT φ a:=(jj a h).elim id fun z=>z.elim
theorem Hq{I:Nat->Bool}{i j:Nat}(hi:I i=false)(hj:I j=false){t:TA}{u:UA}(h:n4 t u):fN I (N4 i j t) (G_ i j u):=by
 intro σ env Z H φ D E O q k
 refine h σ env Z H φ _ _ O q fun rs aK vs Z1 H1 bE G1 ⟨d1,d2,e,b1,b2,li,lj,q1⟩ O1 r1 ok=>?_
 subst e
 obtain⟨v,ws,G2,G3,rfl,h5,h6,_⟩:=ok
 obtain⟨v',Yy,G4,G5,rfl,h7,h8,_⟩:=h6
 cases (show Yy=[] from h8)
 have o1:Own Z1 H1 d1 v cx:=Own.bare d1 b1 h5
 have o2:Own Z1 H1 d2 v' cx:=Own.bare d2 b2 h7
 have ls:=O1.len
 have P1:=O1.put (i:=i) o1 (fun _ _ z=>z) (fun _ z=>z.elim) (fun _ z=>z.elim) li (by omega)
 have P2:=P1.put (i:=j) o2 (fun _ _ z=>z) (fun _ z=>z.elim) (fun _ z=>z.elim) (by simpa using lj) (by simp;omega)
 refine⟨v,v',rfl,k.nx _ _ Z1 H1 _ q1 P2 ?_ ((rL hi).trans (rL hj))⟩
 have r2:=r1.drop
 exact⟨r2.z,r2.zn,r2.k,fun a z=>r2.f a (xy a (xy a z)),fun _ z=>z.elim,fun _ _ z=>z,fun _ z=>z.elim,fun _ z=>z.elim⟩
section
variable {I:Nat->Bool}{X:Cx}{a b:Expr}{wa:UA}{x y:Str}{i j:Nat}{px py pt pos:Pos}{kt k2 En}
theorem Kb(Pn:I i=false)(T2:I j=false)(hc:X.calm=true)(hN:X.N.Nodup)(hi:X.N[i]? = some x)(hj:X.N[j]? = some y)(Pm:i≠j)
  (hx:X.env.scope.names.lookup x=some .local) (hy:X.env.scope.names.lookup y=some .local) (ha:VA X [a,b] wa)
  (hw:swappedStores [.Tuple [.Name x px,.Name y py] kt pt] (.Tuple [a,b] k2 En) X.env=pure (some [x,y]):=by rfl)
  (hs:swapsWithSole [.Tuple [.Name x px,.Name y py] kt pt] (.Tuple [a,b] k2 En) pos.line X.env=pure false:=by rfl) :
  ko I X (.Assign [.Tuple [.Name x px,.Name y py] kt pt] (.Tuple [a,b] k2 En) pos) (G_ i j wa):=let ⟨_,q,s⟩:=ha.ex;⟨_,K7 hc hN hi hj Pm hx hy q hw hs,Hq Pn T2 s⟩
end
end VS
end
section
namespace VS
open PySem L2
section
variable {env:ai}{Q:Ref->ai->Prop}{QI:List D->ai->Prop}{E:cY}{ua ub uk:UB}{wa:UA}{ul uh:UO}{i j:Nat}{ms:List Bool}{P:D->Prop}{d d1:D}{o b:Bool}{ks:List DK}{ds:List D}
end
end VS
end
section
namespace VS
open PySem L2
class Wk (P:Prop) (Q:outParam Prop):Prop where
 go:Q->P
instance R4 {env:ai}{Q:List Ref->ai->Prop}:Wk (ao  env Q) (Q [] env):=⟨id⟩
instance Q0 {u:UB}{w:UA}{env:ai}{Q:List Ref->ai->Prop}:Wk (ae u w env Q) (u env fun r e=>w e fun rs e2=>Q (r::rs) e2):=⟨id⟩
instance QY {i:Nat}{env:ai}{Q:Ref->ai->Prop}:Wk (a7 i env Q) (∃d,env[i]? = some (some d)/\bare d=true/\Q (.a8 d) env):=⟨id⟩
instance QJ {i:Nat}{env:ai}{Q:Ref->ai->Prop}:Wk (ff i env Q) (∃d,env[i]? = some (some d)/\Q (.a8 d) (env.set i none)):=⟨id⟩
instance Yz {d:D}{env:ai}{Q:Ref->ai->Prop}:Wk (uC d env Q) (Q (.a8 d) env):=⟨id⟩
instance M7 {i:Nat}{env:ai}{Q:Ref->ai->Prop}:Wk (aa i env Q) (∃d,env[i]? = some (some d)/\Q (.var i) env):=⟨id⟩
instance QL {ua ub uc:UB}{env:ai}{Q:Ref->ai->Prop}:Wk (xb ua ub uc env Q) (ua env fun r1 e1=>(∃o t ks ds,r1.at e1=some (.cB o t ks ds))/\ub e1 fun r2 e2=>uc e2 fun r3 e3=>∃d1 d2 d3,r1.at e3=some d1/\r2.at e3=some d2/\r3.at e3=some d3/\zU [d1,d2,d3] fun d=>Q (.a8 d) e3):=⟨id⟩
instance RT {ua:UA}{env:ai}{Q:Ref->ai->Prop}:Wk (gE ua env Q) (ua env fun rs e=>∃ds,vq rs=some ds/\ds.length<=1000000/\Q (.a8 (.tup ds)) e):=⟨id⟩
instance R6 {ua:UA}{env:ai}{Q:Ref->ai->Prop}:Wk (cZ ua env Q) (ua env fun rs e=>∃ds,vq rs=some ds/\ds.length<=1000000/\Q (.a8 (.lst true ds)) e):=⟨id⟩
instance Qw {ua:UB}{env:ai}{Q:Bool->ai->Prop}:Wk (aR ua env Q) (ua env fun r e=>∃b,r=.a8 (.bl b)/\Q b e):=⟨id⟩
instance R3 {t:UT}{env:ai}{Q:Bool->ai->Prop}:Wk (yO t env Q) (t env fun b e=>Q (!b) e):=⟨id⟩
instance Se {t u:UT}{env:ai}{Q:Bool->ai->Prop}:Wk (qG t u env Q) (t env fun b e=>if b=true then u e Q else Q false e):=⟨id⟩
instance VJ {t u:UT}{env:ai}{Q:Bool->ai->Prop}:Wk (YF t u env Q) (t env fun b e=>if b=true then Q true e else u e Q):=⟨id⟩
instance NM {ua:UB}{env:ai}{Q:Bool->ai->Prop}:Wk (l7 ua env Q) (ua env fun r e=>∃d b,r.at e=some d/\Sl d=some b/\Q b e):=⟨id⟩
instance Q3 {ua ub:UB}{env:ai}{Q:Ref->ai->Prop}:Wk (An ua ub env Q) (ua env fun r e=>∃c,r=.a8 (.bl c)/\if c=true then ub e Q else Q (.a8 (.bl false)) e):=⟨id⟩
instance R1 {ua ub:UB}{env:ai}{Q:Ref->ai->Prop}:Wk (Sg ua ub env Q) (ua env fun r e=>∃c,r=.a8 (.bl c)/\if c=true then Q (.a8 (.bl true)) e else ub e Q):=⟨id⟩
instance QF {ua:UB}{env:ai}{Q:Ref->ai->Prop}:Wk (NY ua env Q) (ua env fun r e=>∃c,r=.a8 (.bl c)/\Q (.a8 (.bl (!c))) e):=⟨id⟩
instance VM {t:UT}{ua ub:UB}{env:ai}{Q:Ref->ai->Prop}:Wk (Aj t ua ub env Q) (t env fun b e=>if b=true then ua e Q else ub e Q):=⟨id⟩
instance RX {a b:US}{D:cY}{env:ai}:Wk (aC a b D env) (a {D with nx:=b D} env):=⟨id⟩
instance QH {D:cY}{env:ai}:Wk (cm  D env) (D.nx env):=⟨id⟩
instance Sa {D:cY}{env:ai}:Wk (Sh  D env) (D.bk env):=⟨id⟩
instance QZ {D:cY}{env:ai}:Wk (Am  D env) (D.ct env):=⟨id⟩
instance RY {ua:UB}{D:cY}{env:ai}:Wk (bM ua D env) (ua env fun r e=>∃d,r=.a8 d/\D.rt d e):=⟨id⟩
instance QB {D:cY}{env:ai}:Wk (NX  D env) (D.rt .bH env):=⟨id⟩
instance QR {ua:UB}{D:cY}{env:ai}:Wk (Ak ua D env) (ua env fun _ e=>D.nx e):=⟨id⟩
instance R8 {t:UT}{a b:US}{D:cY}{env:ai}:Wk (dn t a b D env) (t env fun c e=>if c=true then a D e else b D e):=⟨id⟩
instance QN {ds:List D}{env:ai}{k:ai->Prop}:Wk (gc  ds env k) (ds=[]/\k env):=⟨id⟩
instance NN {g:UG}{gs:C1}{ds:List D}{env:ai}{k:ai->Prop}:Wk (bz g gs ds env k) (∃d r,ds=d::r/\g d env fun e=>gs r e k):=⟨id⟩
instance QM {n:Nat}{gs:C1}{d:D}{env:ai}{k:ai->Prop}:Wk (gb n gs d env k) (∃ds,d=.tup ds/\ds.length=n/\gs ds env k):=⟨id⟩
instance Sd {ua:UB}{g:UG}{E:cY}{env:ai}:Wk (aX ua g E env) (ua env fun r e=>∃d,r=.a8 d/\g d e E.nx):=⟨id⟩
instance Sb {i:Nat}{f:Int->Int->Int}{ua:UB}{E:cY}{env:ai}:Wk (Dm i f ua E env) (∃a,env[i]? = some (some (.int a))/\ua env fun r e=>∃b,r=.a8 (.int b)/\i<e.length/\E.nx (e.set i (some (.int (f a b))))):=⟨id⟩
instance NQ {p q:Int->Int->Bool}{ua ub uc:UB}{env:ai}{Q:Ref->ai->Prop}:Wk (oj p q ua ub uc env Q) (ua env fun r1 e1=>ub e1 fun r2 e2=>∃i j,r1=.a8 (.int i)/\r2=.a8 (.int j)/\if p i j=true then uc e2 fun r3 e3=>∃k,r3=.a8 (.int k)/\Q (.a8 (.bl (q j k))) e3 else Q (.a8 (.bl false)) e2):=⟨id⟩
instance R9 {ui:UI}{ug:UG}{ub:US}{E:cY}{env:ai}:Wk (eR ui ug ub E env) (ui env fun items e=>qg ug ub E items e):=⟨id⟩
instance Qz {ua:UA}{env:ai}{Q:List D->ai->Prop}:Wk (fH ua env Q) (ua env fun rs e=>∃n:Int,rs=[.a8 (.int n)]/\-(2 ^ 62)<=n/\n<2 ^ 62/\Q (fq 0 n.toNat) e):=⟨id⟩
instance M_ {i:Nat}{ua:UA}{E:cY}{env:ai}:Wk (cF i ua E env) ((∃ds,env[i]? = some (some (.lst true ds)))/\ua env fun rs e=>∃d ds,rs=[.a8 d]/\e[i]? = some (some (.lst true ds))/\ds.length<=1000000/\E.nx (e.set i (some (.lst true (ds++[d]))))):=⟨id⟩
instance Q2 {ms:List Bool}{m:fQ}{ua:UA}{env:ai}{Q:Ref->ai->Prop}:Wk (aA ms m ua env Q) (ua env fun rs e=>∃ds,pass ms e rs=some ds/\ja (cE ms rs)=true/\apart (cE ms rs) ms rs=true/\m ds fun d es=>eX d=true/\tQ es=true/\Q (.a8 d) (ft ms rs es e)):=⟨id⟩
instance RS {env:ai}{Q:Bool->ai->Prop}:Wk (l6  env Q) (Q true env):=⟨id⟩
instance QU {i:Nat}{uy uv:UB}{E:cY}{env:ai}:Wk (jh i uy uv E env) (uv env fun r1 e1=>(∃d0,e1[i]? = some (some d0))/\uy e1 fun r2 e2=>∃d kd t ks ds k,r1=.a8 d/\r2.at e2=some kd/\e2[i]? = some (some (.cB true t ks ds))/\keyOf t kd=some k/\ds.length<=1000000/\E.nx (e2.set i (some (.cB true t (dput ks ds k d).1 (dput ks ds k d).2)))):=⟨id⟩
instance Qx {i:Nat}{uk uv:UB}{E:cY}{env:ai}:Wk (t_ i uk uv E env) (uv env fun r1 e1=>(∃d0,e1[i]? = some (some d0))/\uk e1 fun r2 e2=>∃d k j ds,r1=.a8 d/\r2=.a8 (.int k)/\e2[i]? = some (some (.lst true ds))/\x6 ds.length k=some j/\E.nx (e2.set i (some (.lst true (ds.set j d))))):=⟨id⟩
instance RZ {i:Nat}{env:ai}{Q:Ref->ai->Prop}:Wk (Dl i env Q) (∃ds d,env[i]? = some (some (.lst true ds))/\ds[ds.length-1]? = some d/\bare d=true/\Q (.a8 d) (env.set i (some (.lst true ds.dropLast)))):=⟨id⟩
instance J' {i:Nat}{E:cY}{env:ai}:Wk (ky i E env) (∃ds,env[i]? = some (some (.lst true ds))/\E.nx (env.set i (some (.lst true ds.reverse)))):=⟨id⟩
instance M9 {i:Nat}{ua:UA}{E:cY}{env:ai}:Wk (iV i ua E env) ((∃ds,env[i]? = some (some (.lst true ds)))/\ua env fun rs e=>∃xs ds,rs=[.a8 (.lst true xs)]/\a9 xs=true/\e[i]? = some (some (.lst true ds))/\ds.length+xs.length<=1000000/\E.nx (e.set i (some (.lst true (ds++xs))))):=⟨id⟩
instance M8 {env:ai}{Q:Option Int->ai->Prop}:Wk (ip  env Q) (Q none env):=⟨id⟩
instance QD {u:UB}{env:ai}{Q:Option Int->ai->Prop}:Wk (mQ u env Q) (u env fun r e=>∃i,r=.a8 (.int i)/\Q (some i) e):=⟨id⟩
instance VH {ua:UB}{ul uh:UO}{env:ai}{Q:Ref->ai->Prop}:Wk (NV ua ul uh env Q) (ua env fun r e1=>ul e1 fun lo e2=>uh e2 fun hi e3=>∃o ds,r.at e3=some (.lst o ds)/\a9 ds=true/\Q (.a8 (.lst true (eQ ds lo hi))) e3):=⟨id⟩
instance QX {t:Bool}{env:ai}{Q:Ref->ai->Prop}:Wk (xc t env Q) (Q (.a8 (.cB true t [] [])) env):=⟨id⟩
instance NO {uk uv:UB}{env:ai}{Q:Ref->ai->Prop}:Wk (oh uk uv env Q) (uk env fun r1 e1=>uv e1 fun r2 e2=>∃kd k d,r1=.a8 kd/\D_ kd=some k/\r2=.a8 d/\Q (.a8 (.cB true false [.s k] [d])) e2):=⟨id⟩
instance VN {f:List D->(D->Prop)->Prop}{ua:UA}{env:ai}{Q:Ref->ai->Prop}:Wk (qk f ua env Q) (ua env fun rs e=>∃ds,sU e rs=some ds/\f ds fun d=>Q (.a8 d) e):=⟨id⟩
instance R' {f:D->(D->Prop)->Prop}{ua:UB}{env:ai}{Q:Ref->ai->Prop}:Wk (pX f ua env Q) (ua env fun r1 e1=>∃d1,r1.at e1=some d1/\f d1 fun d=>Q (.a8 d) e1):=⟨id⟩
instance R_ {f:D->D->(D->Prop)->Prop}{ua ub:UB}{env:ai}{Q:Ref->ai->Prop}:Wk (aj f ua ub env Q) (ua env fun r1 e1=>ub e1 fun r2 e2=>∃d1 d2,r1.at e2=some d1/\r2.at e2=some d2/\f d1 d2 fun d=>Q (.a8 d) e2):=⟨id⟩
instance RU {f:ai->Ref->Option (List D)}{ua:UB}{env:ai}{Q:List D->ai->Prop}:Wk (dQ f ua env Q) (ua env fun r e=>∃ds,f e r=some ds/\Q ds e):=⟨id⟩
instance QQ {f:ai->Ref->Option (List D)}{ua:UB}{env:ai}{Q:List D->ai->Prop}:Wk (pF f ua env Q) (ua env fun r e=>∃ds,f e r=some ds/\Q (cu 0 ds) e):=⟨id⟩
instance Q1 {n:Nat}{ui:UI}{ug:UG}{ut:UT}{ul:UL (List D)}{env:ai}{Q:Ref->ai->Prop}:Wk (gf n ui ug ut ul env Q) (ui env fun items e=>eD ug ut ul (fun acc e'=>Q (.a8 (.lst true acc)) (e'.drop n)) items [] (List.replicate n none++e)):=⟨id⟩
instance NP {t:Bool}{n:Nat}{ui:UI}{ug:UG}{ut:UT}{ul:UL (qi t)}{env:ai}{Q:Ref->ai->Prop}:Wk (oi t n ui ug ut ul env Q) (ui env fun items e=>eD ug ut ul (fun acc e'=>Q (.a8 (.cB true t acc.ks acc.ds)) (e'.drop n)) items ⟨[],[]⟩ (List.replicate n none++e)):=⟨id⟩
instance Qv {ue:UB}{acc:List D}{e:ai}{k:List D->ai->Prop}:Wk (fM ue acc e k) (ue e fun r e4=>∃d,r=.a8 d/\acc.length<=1000000/\k (acc++[d]) e4):=⟨id⟩
instance NL {t:Bool}{uk uv:UB}{acc:qi t}{e:ai}{k:qi t->ai->Prop}:Wk (kR uk uv acc e k) (uk e fun r1 e1=>uv e1 fun r2 e2=>∃kd kk d,r1=.a8 kd/\keyOf t kd=some kk/\r2=.a8 d/\acc.ds.length<=1000000/\k ⟨(dput acc.ks acc.ds kk d).1,(dput acc.ks acc.ds kk d).2⟩ e2):=⟨id⟩
instance NR {ms:List Bool}{m:fQ}{ua:UA}{env:ai}{Q:Ref->ai->Prop}:Wk (qE ms m ua env Q) (ua env fun rs e=>∃ds,m_ e rs=some ds/\ds.length=ms.length/\m ds fun d es=>Q (.a8 d) e):=⟨id⟩
instance RW {L:Addr->List Int->Prop}{ua:UB}{ul uh:UO}{env:ai}{Q:Ref->ai->Prop}:Wk (GZ L ua ul uh env Q) (ua env fun r e1=>ul e1 fun lo e2=>uh e2 fun hi e3=>(∃o ds,r.at e3=some (.lst o ds)/\a9 ds=true/\Q (.a8 (.lst true (eQ ds lo hi))) e3)\/∃a ns,r.at e3=some (.fn a)/\L a ns/\Q (.a8 (.lst true (eQ (ns.map .int) lo hi))) e3):=⟨id⟩
instance J_ {ua:UB}{env:ai}{Q:Ref->ai->Prop}:Wk (jg ua env Q) (ua env fun r e=>∃(o:Bool) (xs:List Str),r.at e=some (.lst o (xs.map D.str))/\xs.length<=4000/\(∀zs:List Str,zs.Nodup->(∀z∈zs,z∈xs)->zs.length<64)/\∀ys:List Str,ys.Pairwise slt->(∀x,x∈ys↔x∈xs)->Q (.a8 (.lst true (ys.map D.str))) e):=⟨id⟩
section
variable {o o' t:Bool}{ds xs ys:List D}{ks:List DK}{i j k:Int}{x y:Str}{b c:Bool}{P:D->Prop}{d d1 d2:D}{a:Addr}{g:Int->Int->D}{C:Int->Int->Prop}{h1:Int->D}
instance Qt :Wk (fI C g (.int i) (.int j) P) ((C i j/\P (g i j))):=⟨id⟩
instance NG :Wk (lN g (.int i) (.int j) P) (P (g i j)):=⟨id⟩
instance Qs :Wk (fU h1 (.int i) P) (P (h1 i)):=⟨id⟩
instance NH :Wk (kQ b d d1 P) ((∃k,tU d d1=some k/\P (.bl (if b then !k else k)))):=⟨id⟩
instance M4 :Wk (FF b d P) (P (.bl (if b then !x8 d else x8 d))):=⟨id⟩
instance NC :Wk (dB (.lst o ds) (.int k) P) ((∃d,il ds k=some d/\bare d=true/\P d)):=⟨id⟩
instance NA :Wk (bc (.tup ds) (.int k) P) ((∃d,il ds k=some d/\bare d=true/\P d)):=⟨id⟩
instance NB :Wk (zT (.str x) (.int k) P) ((x.length<=1000000/\∃c,il x.cps.toList k=some c/\P (.str ⟨#[c]⟩))):=⟨id⟩
instance M5 :Wk (pN (.cB o t ks ds) d P) ((∃k d',keyOf t d=some k/\bO ks ds k=some d'/\bare d'=true/\P d')):=⟨id⟩
instance NJ :Wk (jV b d (.cB o t ks ds) P) ((∃k,keyOf t d=some k/\P (.bl (if b then !(bO ks ds k).isSome else(bO ks ds k).isSome)))):=⟨id⟩
instance J8 :Wk (zU [.cB o t ks ds,d,d1] P) ((∃k,keyOf t d=some k/\bare ((bO ks ds k).getD d1)=true/\P ((bO ks ds k).getD d1))):=⟨id⟩
instance MZ :Wk (kj [.lst o ds] P) (P (.int ds.length)):=⟨id⟩
instance MY :Wk (kj [.tup ds] P) (P (.int ds.length)):=⟨id⟩
instance MX :Wk (PH [.str x] P) ((x.length<=1000000/\P (.int x.length))):=⟨id⟩
instance MW :Wk (FE (.str x) (.int k) P) ((0<=k/\k<=1000/\x.length<=1000/\P (.str (Txt.mul x k)))):=⟨id⟩
instance M6 :Wk (uU (.str x) (.str y) P) ((x.length+y.length<=1000000/\P (.str (x++y)))):=⟨id⟩
instance NK :Wk (CJ (.lst true xs) (.lst true ys) P) ((a9 xs=true/\a9 ys=true/\xs.length+ys.length<=1000000/\P (.lst true (xs++ys)))):=⟨id⟩
instance Nz :Wk (ly [.lst o ds] P) ((a9 ds=true/\P (.lst true ds))):=⟨id⟩
instance Ny :Wk (ly [.tup ds] P) ((a9 ds=true/\P (.lst true ds))):=⟨id⟩
instance NF :Wk (I_ b d (.lst o ds) P) ((flat d=true/\ds.all flat=true/\P (.bl (if b then !(ds.any fun x=>pf x d) else ds.any fun x=>pf x d)))):=⟨id⟩
instance ND :Wk (I_ b d (.tup ds) P) ((flat d=true/\ds.all flat=true/\P (.bl (if b then !(ds.any fun x=>pf x d) else ds.any fun x=>pf x d)))):=⟨id⟩
instance M3 :Wk (PJ [.int i] P) (P (.int i)):=⟨id⟩
instance M0 :Wk (PJ [.bl b] P) (P (.int (if b then 1 else 0))):=⟨id⟩
instance Qu :Wk (qv [.cB o false ks ds] P) ((a9 ds=true/\P (.cB true false ks ds))):=⟨id⟩
end
section
variable {env:ai}{Q:Ref->ai->Prop}{QI:List D->ai->Prop}{E:cY}{ua ub uk:UB}{wa:UA}{ul uh:UO}{i j:Nat}{ms:List Bool}{P:D->Prop}{d d1:D}{o b:Bool}{ks:List DK}{ds:List D}
instance R7 {t:Gd}:Wk (yP t ua env Q) (ua env fun r e=>∃d b,r.at e=some d/\LV t d=some b/\Q (.a8 (.bl b)) e):=⟨id⟩
instance RV :Wk (Bz ua ul uh env Q) (ua env fun r e1=>ul e1 fun lo e2=>uh e2 fun hi e3=>∃ds,r.at e3=some (.tup ds)/\a9 ds=true/\¬(HT.e8 ds.length 0 lo=0/\HT.e8 ds.length ds.length hi=ds.length)/\Q (.a8 (.tup (eQ ds lo hi))) e3):=⟨id⟩
instance Qy :Wk (NW wa env QI) (wa env fun rs e=>∃i j:Int,rs=[.a8 (.int i),.a8 (.int j)]/\-(2 ^ 62)<=i/\i<2 ^ 62/\-(2 ^ 62)<=j/\j<2 ^ 62/\QI (fq i (j-i).toNat) e):=⟨id⟩
instance R5 {neg:Bool}{ks:List Str}:Wk (w_ neg ks ua env Q) (ua env fun r e=>∃x,r.at e=some (.str x)/\Q (.a8 (.bl (if neg then !ks.contains x else ks.contains x))) e):=⟨id⟩
instance QK {A:List (Str×Addr)}:Wk (xa A ua env Q) (ua env fun r e=>∃x a,r.at e=some (.str x)/\A.lookup x=some a/\Q (.a8 (.fn a)) e):=⟨id⟩
instance NS {S:Addr->fQ->Prop}:Wk (qF i S ms wa env Q) (∃a m,env[i]? = some (some (.fn a))/\S a m/\aA ms m wa env Q):=⟨id⟩
instance QV :Wk (Al i uk env Q) ((∃o t ks ds,env[i]? = some (some (.cB o t ks ds)))/\uk env fun r e=>∃kd k ks ds d,r.at e=some kd/\D_ kd=some k/\e[i]? = some (some (.cB true false ks ds))/\bO ks ds (.s k)=some d/\bare d=true/\Q (.a8 d) (e.set i (some (.cB true false (fY ks ds (.s k)).1 (fY ks ds (.s k)).2)))):=⟨id⟩
instance R0 :Wk (G_ i j wa E env) (wa env fun rs e=>∃d1 d2,rs=[.a8 d1,.a8 d2]/\bare d1=true/\bare d2=true/\i<e.length/\j<e.length/\E.nx ((e.set i (some d1)).set j (some d2))):=⟨id⟩
instance NI :Wk (FG b d d1 P) (dF 60 d=true/\dF 60 d1=true/\P (.bl (if b then !eqT d d1 else eqT d d1))):=⟨id⟩
instance J9 :Wk (wu (.cB o false ks ds) P) (a9 ds=true/\P (.cB true false ks ds)):=⟨id⟩
end
end VS
end
section
namespace VS
open PySem L2
def D6:D->Bool
 | .bH | .bl _ | .int _ | .str _=>true
 |_=>false
def tT(env:ai):ai:=env.map fun o=>o.map aU
theorem Ok.all{Z:Set}{H:Hp}{env:ai}{σ:St}{φ:Nat->Set}(O:Ok Z H env σ φ):Ok (fun a=>Z a\/cT φ a) H (tT env) σ (fun _ _=>False):=by
 refine⟨fun i d e=>?_,fun _ _ _ z=>z.elim,fun _ _ z=>z.elim,fun _ _ z=>z.elim,fun a z=>z.elim (O.zh a) fun⟨i,z⟩=>(O.fm i a z).ne,by simp[tT,O.len]⟩
 simp only[tT,List.getElem?_map,Option.map_eq_some_iff] at e
 obtain⟨o,e1,o',rfl,rfl⟩:=e
 obtain⟨v,hv,ho⟩:=O.own i _ e1
 exact⟨v,hv,((Own.aU _ ho).iB fun a z=>z.imp id fun z=>⟨i,z⟩).mono fun _ z=>z.elim⟩
theorem Ec{Z Z':Set}{H H':Hp}{F' G:Set}(r:Res Z H (cT fun _ _=>False) Z' H' F' G):ck H H':=fun a o e=>r.k a o e fun⟨_,z⟩=>z
def VU(u:UB):UB:=fun env Q=>u (tT env) fun r _=>∃d,r=.a8 d/\D6 d=true/\Q (.a8 d) env
def vp(u:UT):UT:=fun env Q=>u (tT env) fun b _=>Q b env
theorem BQ{t:TT}{u:UT}(h:hU t u):hU t (vp u):=by
 intro σ env Z H φ Q R O q k
 refine h σ (tT env) _ H _ _ _ O.all q fun b aK Z1 H1 bE q1 O1 r1=>?_
 have s:=Ec r1
 exact k b env Z H1 φ q1 (O.grow s) (Res.same s)
section
variable {X:Cx}{e:Expr}{ue:UB}{ut:UT}
theorem GD(h:VT X e ut):VT X e (vp ut):=let ⟨_,q,s⟩:=h.ex;⟨_,q,BQ s⟩
end
theorem IP{u:UT}{env:ai}{Q:Bool->ai->Prop}(h:u (tT env) fun b _=>Q b env):vp u env Q:=h
theorem kP{d:D}{env:ai}:tT (some d::env)=some (aU d)::tT env:=rfl
end VS
end
section
namespace L2
open PySem PySem.Spec PyProof.Rows
def Jl(X:Cx)(t:TL):TL:=fun k τ H=>t (fun iS H'=>∃lE,Gw X H' lE/\k iS lE) τ H
theorem K_{X:Cx}{inner:Sem Unit}{t:TL}(h:PN X inner t):PN X inner (Jl X t):=by
 intro pins s τ H k I q
 refine cn (h pins s τ H _ I q) fun u s' hh=>?_
 obtain⟨iS,H',I',lE,th,q'⟩:=hh
 exact⟨iS,lE,I'.Ko th,q'⟩
end L2
namespace VS
open PySem L2
section
variable {Z Z1 Z2:Set}{H H1 H2:Hp}{F F1 F2 G G1 G2:Set}
theorem Res.into(r1:Res Z H F Z1 H1 F1 G1)(r2:Res Z1 H1 (fun a=>F1 a\/G1 a) Z2 H2 F2 G2):Res Z H F Z2 H2 F2 G2:=by
 have kn:∀{a},(F1 a\/G1 a)\/H1 a=none->F a\/H a=none:=fun{a} h=>by
  rcases h with(h|h)|h
  ·exact r1.f a h
  ·exact r1.g a h
  ·exact r1.kn (.inr h)
 refine⟨fun a z=>r2.z a (r1.z a z),fun a z=>?_,fun a o e n=>?_,fun a z=>kn (r2.f a z),fun a z=>kn (r2.g a z),r2.d,r2.gz,r2.gm⟩
 ·rcases r2.zn a z with z|z|z
  ·exact r1.zn a z
  ·exact .inr (kn (.inl z))
  ·exact .inr (kn (.inr z))
 ·have e1:=r1.k a o e n
  refine r2.k a o e1 fun z=>?_
  rcases kn (.inl z) with z|z
  ·exact n z
  ·rw[z] at e;cases e
end
theorem pD.sw{Z Z':Set}{H H2 H' lE:Hp}{a:Addr}{av:List (Key×V)}(s1:Sw Z H H2 a av)(k:pD Z H2 Z' H')(s2:Sw Z' H' lE a av)(ea:lE a=H a):pD Z H Z' lE:=by
 refine⟨k.z,fun b o e z=>?_,fun b vs e=>?_⟩
 ·by_cases q:b=a
  ·subst q;rw[ea];exact e
  ·rw[s2.k b q];exact k.k b o (by rw[s1.k b q];exact e) z
 ·by_cases q:b=a
  ·subst q;rw[ea];exact e
  ·rw[s2.k b q];exact k.t b vs (by rw[s1.k b q];exact e)
theorem xj{α:Type} [Acc α] {I:Nat->Bool}{X:Cx}{p:Addr}{t:TE}{u:UB}{g:TG}{ug:UG}{tt:TT}{ut:UT}{tl:TL}{ul:UL α} (h:aZ t u) (hg:j0 I g ug) (ht:hU tt ut) (hl:nZ I p tl ul):nZ I p (Jl X (ql (rS X t) g tt tl)) (iw (dQ dz u) ug ut ul):=by
 intro Z1 H1 F1 sQ acc e τ H Z φ A vs k K c q kk
 show ql (rS X t) g tt tl (fun iS H'=>∃lE,Gw X H' lE/\K iS lE) τ H
 refine ym h c.ok q fun items e1 Z' H' cN a ob av H2 q1 O1 r1 sw nf h2 cc w=>?_
 have c1:=c.next O1 r1 Kp.refl
 obtain⟨u0,hu0,ha0⟩:=c1.at_
 have TC:¬Z' p:=c1.res.gz p (.inr rfl)
 have Rv:p≠a:=fun z=>TC (by rw[z];exact sw.z)
 have nA:¬A a:=fun z=>c1.res.gz a (.inl z) sw.z
 have O2:=O1.sw sw
 have base:Res Z' H2 (fun b=>cT cN b\/(A b\/b=p)) Z' H2 (cT cN) (fun b=>A b\/b=p):=by
  refine⟨fun _ z=>z,fun _ z=>.inl z,fun _ _ e _=>e,fun _ z=>.inl (.inl z),fun _ z=>.inl (.inr z),c1.res.d,c1.res.gz,fun b z=>?_⟩
  have hba:b≠a:=fun y=>by
   rcases z with z|z
   ·exact nA (by rw[<-y];exact z)
   ·exact Rv (by rw[<-z,y])
  rw[sw.k b hba];exact c1.res.gm b z
 have c2:CS I Z' H2 (fun b=>cT cN b\/(A b\/b=p)) sQ p acc e1 τ H2 Z' cN A vs:=⟨O2,base,⟨u0,by rw[sw.k p Rv];exact hu0,ha0⟩,ar.sw sw _ nA c1.own,c1.np,c1.kp⟩
 refine oz hg ht hl c2 w q1 fun gC e' iS H3 Z3 yH A3 YD kq c3 ke=>?_
 have nF:¬(cT cN a\/(A a\/a=p)):=fun z=>by
  rcases z with z|z|z
  ·exact nf z
  ·exact nA z
  ·exact Rv z.symm
 obtain⟨H4,th,s2,ea⟩:=vw sw nF h2 cc c3.res
 refine⟨H4,th,kk gC e' iS H4 Z3 yH A3 YD kq ⟨c3.ok.sw s2,c1.res.into (c3.res.sw sw nF s2 ea),?_,?_,c3.np,c3.kp⟩ (((r1.CV c.ok).trans (pD.sw sw ke s2 ea)))⟩
 ·obtain⟨u3,To,ha3⟩:=c3.at_
  exact⟨u3,by rw[s2.k p Rv];exact To,ha3⟩
 ·exact ar.sw s2 _ (fun z=>c3.res.gz a (.inl z) s2.z) c3.own
end VS
end
section
namespace VS
open PySem L2
section
variable {α:Type} [Acc α] {I:Nat->Bool}{X:Cx}{e elt iter tg:Expr}{ifs:List Expr}{rest:List Comprehension}{d:Nat}{inner:Value->PySem.Env->Sem Unit}{ui:UI}{ue:UB}{ug vo:UG}{ut:UT}{ul:UL α}{sc:Scope}{pos jC py:Pos}{ks N2:List Str}{y:Str}
theorem Bu(hl:VL I X inner ul)(hi:VI X tg iter ui)(hg:VG I X tg ug)(ht:Bk X ifs ut)(hh:X.A.handled=none)(ce:pV e)(wk:(clausesOf e)[d]? = some ⟨tg,iter,ifs,0⟩:=by rfl)
  (gx:∀p it,compTurn e d (.ref it) (.ref p) X.env=gI ⟨tg,iter,ifs,0⟩ (inner (.ref p) X.env) e d (.ref it) (.ref p) X.env:=by intro _ _;rfl) (hc:X.calm=true:=by rfl) (L1:X.xe=fun _ _=>False:=by rfl) (hs:∀x,foldedSetIterable iter X.env x=pure x:=by intro _;rfl) :
  VL I X (fun acc env=>do
   let x <-eval iter env
   standAt iter.pos
   let x <-foldedSetIterable iter env x
   let _ <-runOwn (.compStart e d (<-holding [x] (pyIter x)) acc env) env) (iw ui ug ut ul):=⟨fun p=>
 let ⟨_,q1,s1⟩:=hi.ex;let ⟨_,q2,s2⟩:=hg.ex;let ⟨_,q3,s3⟩:=ht.ex;let ⟨_,q4,s4⟩:=hl.ex p;⟨_,uD ce wk (gx p) q1 q2 q3 q4 hc L1 hh hs,y9 s1 s2 s3 s4⟩⟩
theorem yK(hl:VL I X inner ul)(hi:VE X iter ue)(hg:VG I X tg ug)(ht:Bk X ifs ut)(hh:X.A.handled=none)(ce:pV e)(wk:(clausesOf e)[d]? = some ⟨tg,iter,ifs,0⟩:=by rfl)
  (gx:∀p it,compTurn e d (.ref it) (.ref p) X.env=gI ⟨tg,iter,ifs,0⟩ (inner (.ref p) X.env) e d (.ref it) (.ref p) X.env:=by intro _ _;rfl) (hc:X.calm=true:=by rfl) (L1:X.xe=fun _ _=>False:=by rfl) (hs:∀x,foldedSetIterable iter X.env x=pure x:=by intro _;rfl) :
  VL I X (fun acc env=>do
   let x <-eval iter env
   standAt iter.pos
   let x <-foldedSetIterable iter env x
   let _ <-runOwn (.compStart e d (<-holding [x] (pyIter x)) acc env) env) (iw (dQ dz ue) ug ut ul):=⟨fun p=>
 let ⟨_,q1,s1⟩:=hi.ex;let ⟨_,q2,s2⟩:=hg.ex;let ⟨_,q3,s3⟩:=ht.ex;let ⟨_,q4,s4⟩:=hl.ex p;⟨_,K_ (uD ce wk (gx p) (vR q1) q2 q3 q4 hc L1 hh hs),xj s1 s2 s3 s4⟩⟩
end
section
variable {I:Nat->Bool}{X:Cx}{e elt iter tg:Expr}{ifs:List Expr}{rest:List Comprehension}{inner:Value->PySem.Env->Sem Unit}{ui:UI}{ue:UB}{ug vo:UG}{ut:UT}{ul:UL (List D)}{sc:Scope}{pos jC py:Pos}{ks N2:List Str}{y:Str}
theorem pE(hI:VG I X (.Name y py) vo)(S:wM X sc ks N2)(hi:VI X tg iter ui)(hg:∀C s H fp pins,VG (outs ks.length) (dE X sc (ks++N2) C s H fp pins) tg ug)(ht:∀C s H fp pins,Bk (dE X sc (ks++N2) C s H fp pins) ifs ut)(hl:∀C s H fp pins,VL (outs ks.length) (dE X sc (ks++N2) C s H fp pins) inner ul)(hc:X.calm=true:=by rfl)
  (gx:∀D it env,compTurn (.ListComp elt (⟨tg,iter,ifs,0⟩::rest) sc pos) 0 (.ref it) (.ref D) env=gI ⟨tg,iter,ifs,0⟩ (inner (.ref D) env) (.ListComp elt (⟨tg,iter,ifs,0⟩::rest) sc pos) 0 (.ref it) (.ref D) env:=by intro _ _ _;rfl)
  (Cw:swapsWith (.ListComp elt (⟨tg,iter,ifs,0⟩::rest) sc pos) (some (.Name y py)) jC.line X.env=pure true:=by rfl) (hs:∀x,foldedSetIterable iter X.env x=pure x:=by intro _;rfl) :
  ko I X (.Assign [.Name y py] (.ListComp elt (⟨tg,iter,ifs,0⟩::rest) sc pos) jC) (aX (gf ks.length ui ug ut ul) vo):=let ⟨_,q,s⟩:=hi.ex;let ⟨_,q',s'⟩:=hI.ex;⟨_,rf (inner:=inner) S hc q gx q' Cw hs,mV (qP s (rY hg ht hl)) s'⟩
end
theorem yb{α:Type}{ui:UI}{ug:UG}{ut:UT}{inner:UL α}{acc:α}{e:ai}{k:α->ai->Prop}(h:ui e fun items e1=>eD ug ut inner k items acc e1):iw ui ug ut inner acc e k:=h
end VS
end
section
namespace L2
open PySem PySem.Spec PyProof.Rows
theorem Cr{P:Program}{w:World}{vs:List (Key×Value)}{xs:List Str}(h:vs.map (·.1)=xs.map Sum.inr){acc:Array Value}(lM:ItemsOf (fun i v=>∃k x,vs[i]? = some (k,x)/\(br P w).is k v=true) acc vs.length):StrsAre acc.toList xs:=by
 have hl:xs.length=vs.length:=by have:=congrArg List.length h;simpa using this.symm
 have:∀(xs:List Str) (l:List Value) (n:Nat),l.length=xs.length->(∀(j:Nat) (v:Value),l[j]? = some v->∃(x:Str) (t:Tok),xs[j]? = some x/\v=Value.str x t)->StrsAre l xs:=by
  intro xs
  induction xs with
  |nil=>intro l n e _;rw[List.eq_nil_of_length_eq_zero e];exact .nil
  |cons x xs ih=>
   intro l n e q
   cases l with
   |nil=>simp at e
   |cons v l=>
    obtain⟨x',t,e1,rfl⟩:=q 0 v rfl
    cases (show some x=some x' from e1)
    exact .cons x t (ih l n (by simpa using e) fun j v hv=>q (j+1) v hv)
 refine this xs acc.toList 0 (by rw[Array.length_toList,lM.1,hl]) fun j v hv=>?_
 rw[Array.getElem?_toList] at hv
 obtain⟨k,x,e1,e2⟩:=lM.2 j v hv
 have e3:(vs.map (·.1))[j]? = some k:=by rw[List.getElem?_map,e1];rfl
 rw[h,List.getElem?_map] at e3
 cases e4:xs[j]? with
 |none=>rw[e4] at e3;cases e3
 |some y=>
  rw[e4] at e3
  cases (show some (Sum.inr y)=some k from e3)
  rcases cK (show pI (Sum.inr y) v=true from e2) with⟨i,t,q,_⟩|⟨z,t,q,rfl⟩
  ·cases q
  ·cases q;exact⟨y,t,rfl,rfl⟩
section
variable {prog:Program}{w:World}{A:Around}{E:Value->Shared->Prop}{s:Shared}{a:Addr}
theorem wA{av:List (Key×Value)}{ep:Nat}{R:List Value->Shared->Prop}(hh:A.handled=none)(nu:(a==sysModules)=false)(x:s.heap.DictAt (br prog w) a av ep)(hb:av.length<=sizeLine)
  (h:∀(h':Heap) (tk:Nat) (acc:Array Value),(∀b o,s.heap.get? b=some o->h'.get? b=some o)->s.heap.objs.size<=h'.objs.size->ItemsOf (fun i v=>∃k x,av[i]? = some (k,x)/\(br prog w).is k v=true) acc av.length->R acc.toList {s with heap:=h',toks:=tk}) :
  wpAny (model prog w) A (collect (.ref a)) R E s:=by
 obtain⟨oa,es,mH,_⟩:=id x
 have iZ:a<s.heap.objs.size:=Heap.lt_size mH
 unfold collect
 refine wpAny_bind (wpAny_runValue (codeAny_builtin entry_proto_collect' ?_))
 rw[Around.under_plainId PySem.F.plain_proto_collect _]
 show wpAny _ A.in1 (newList [] >>= fun l=>again (.builtin "list.__iadd__" ⟨[l,.ref a],[]⟩)) _ _ s
 refine wpAny_bind (wpAny_newObj_type ?_)
 refine wpAny_pure ⟨plainId_quiet PySem.F.plain_list_iadd _,codeAny_builtin entry_list_iadd' ?_⟩
 rw[Around.under_plainId PySem.F.plain_list_iadd _]
 have rX:(s.heap.push {cls:=.type "list",data:=.seq ([]:List Value).toArray}).get? s.heap.objs.size=some {cls:=.type "list",data:=.seq #[]}:=Heap.get?_push_size _ rfl
 have x1:(s.heap.push {cls:=.type "list",data:=.seq ([]:List Value).toArray}).DictAt (br prog w) a av ep:=x.at' fun o e=>Heap.get?_push_of_some _ e
 show wpAny _ A.in1 (Builtin.List.listExtendWith (.ref s.heap.objs.size) (.ref a) (.ref s.heap.objs.size)) _ _ _
 unfold Builtin.List.listExtendWith
 refine wpAny_bind (wpAny_typeOf (T := "dict") x1.dictOf.typeIs ?_)
 have h1:Builtin.List.listSameRef (.ref s.heap.objs.size) (.ref a)=false:=by simp[Builtin.List.listSameRef,Nat.ne_of_gt iZ]
 have n1:(Value.type "dict" == Value.type "list")=false:=by decide
 have n2:(Value.type "dict" == Value.type "tuple")=false:=by decide
 simp only[h1,n1,n2,Bool.or_false,Bool.false_eq_true,if_false]
 refine wpAny_bind (wpAny_pyIter_dict (s:={s with heap:=s.heap.push {cls:=.type "list",data:=.seq ([]:List Value).toArray}}) nu x1 ?_)
 generalize Xg:(s.heap.push {cls:=.type "list",data:=.seq ([]:List Value).toArray}).objs.size=I
 have Tw:I=s.heap.objs.size+1:=by rw[<-Xg,Heap.size_push]
 have rW:=Heap.get?_push_of_some {cls:=.type "dict_keyiterator",data:=.fields #[.ref a,.int 0 0,.int av.length 0,.int ep 0]} rX
 have N':(((s.heap.push {cls:=.type "list",data:=.seq ([]:List Value).toArray}).push {cls:=.type "dict_keyiterator",data:=.fields #[.ref a,.int 0 0,.int av.length 0,.int ep 0]}).IsKeyIter I a 0 av.length ep/\((s.heap.push {cls:=.type "list",data:=.seq ([]:List Value).toArray}).push {cls:=.type "dict_keyiterator",data:=.fields #[.ref a,.int 0 0,.int av.length 0,.int ep 0]}).DictAt (br prog w) a av ep):=⟨⟨_,by rw[<-Xg];exact Heap.get?_push_size _ rfl,rfl,rfl⟩,x1.at' fun o e=>Heap.get?_push_of_some _ e⟩
 have haI:a≠I:=by rw[Tw];exact Nat.ne_of_lt (Nat.lt_succ_of_lt iZ)
 have Fw:s.heap.objs.size∉[I,a]:=fun z=>by
  rcases List.mem_cons.mp z with e|e
  ·rw[Tw] at e;exact Nat.ne_of_lt (Nat.lt_succ_self _) e
  ·exact Nat.ne_of_gt iZ (List.mem_singleton.mp e)
 refine wpAny_bind (wpAny_holding (PySem.W.kdl_hint_dict (N'.2.dictOf.typeIs (s:={s with heap:=(s.heap.push {cls:=.type "list",data:=.seq ([]:List Value).toArray}).push {cls:=.type "dict_keyiterator",data:=.fields #[.ref a,.int 0 0,.int av.length 0,.int ep 0]}})) ?_))
 have W:=Walks.dictKeys (prog:=prog) (w:=w) (knd:=br prog w) (A:=A.in1) hh I a haI av ep
 have fin:∀(h2:Heap) (c₁ tk:Nat),(h2.IsKeyIter I a 0 av.length ep/\h2.DictAt (br prog w) a av ep)->(∀b o,s.heap.get? b=some o->h2.get? b=some o)->h2.get? s.heap.objs.size=some {cls:=.type "list",data:=.seq #[] c₁} ->
   codeAny (model prog w) A (.builtin "list.extend.loop" ⟨[.ref s.heap.objs.size,.ref I,.ref s.heap.objs.size],[]⟩) (fun r s'=>match r with
    | .ok (.ret v)=>wpAny (model prog w) A (match v with
      | .ref a=>do match (<-load a).data with | .seq xs _=>pure xs.toList|_=>unsupported "internal:collect"
      |_=>unsupported "internal:collect") R E s'
    | .ok _=>False
    | .error e=>E e s') {s with heap:=h2,toks:=tk}:=by
  intro h2 c₁ tk zO hk rX
  refine codeAny_extend_loopS W.toS hb s.heap.objs.size Fw (.ref s.heap.objs.size) av.length 0 _ #[] c₁ rfl (Nat.zero_le _) zO rX (ItemsOf.nil _) fun s' gC c' hm CF lM=>?_
  rw[Moved.eq_with hm]
  show wpAny _ A (load s.heap.objs.size >>= _) _ _ _
  refine wpAny_bind (wpAny_load CF ?_)
  refine wpAny_pure (h s'.heap s'.toks gC (fun b o e=>hm.heap b o (fun lL=>?_) (hk b o e)) (Nat.le_of_lt (Heap.lt_size CF)) lM)
  rcases List.mem_cons.mp lL with e'|lL
  ·exact absurd (Heap.lt_size e) (by rw[e'];exact Nat.lt_irrefl _)
  ·have h3:=Heap.lt_size e
   rw[List.mem_singleton.mp lL,Tw] at h3
   exact Nat.lt_irrefl _ (Nat.lt_trans h3 (Nat.lt_succ_self _))
 have Ng:∀b o,s.heap.get? b=some o->((s.heap.push {cls:=.type "list",data:=.seq ([]:List Value).toArray}).push {cls:=.type "dict_keyiterator",data:=.fields #[.ref a,.int 0 0,.int av.length 0,.int ep 0]}).get? b=some o:=fun b o e=>Heap.get?_push_of_some _ (Heap.get?_push_of_some _ e)
 refine wpAny_ite_split (fun _=>?_) (fun _=>wpAny_pure ⟨plainId_quiet PySem.F.plain_extend_loop _,fin _ _ _ N' Ng rW⟩)
 refine wpAny_bind (wpAny_rule ?_)
 refine wpAny_bind ?_
 show wpAny _ _ (updateSeq s.heap.objs.size (·.push .none) >>= fun _=>updateSeq s.heap.objs.size (·.pop)) _ _ _
 refine wpAny_bind (wpAny_updateSeq rW rfl ?_)
 have yh:=Heap.get?_update_self (Obj.mapSeq (·.push Value.none)) rW rfl
 refine wpAny_updateSeq (hz:=by seq_fits) yh rfl ?_
 have A4:=Heap.get?_update_self (Obj.mapSeq (·.pop)) yh rfl
 generalize ((s.heap.push {cls:=.type "list",data:=.seq ([]:List Value).toArray}).push {cls:=.type "dict_keyiterator",data:=.fields #[.ref a,.int 0 0,.int av.length 0,.int ep 0]})=h' at N' Ng A4 ⊢
 have nb:∀b o,b≠s.heap.objs.size->h'.get? b=some o->((h'.update s.heap.objs.size (Obj.mapSeq (·.push Value.none))).update s.heap.objs.size (Obj.mapSeq (·.pop))).get? b=some o:=fun b o hb e=>(Heap.get?_update_other _ _ (Ne.symm hb)).trans ((Heap.get?_update_other _ _ (Ne.symm hb)).trans e)
 exact wpAny_pure ⟨plainId_quiet PySem.F.plain_extend_loop _,fin _ _ _ ⟨N'.1.at fun o e=>nb I o (fun z=>Fw (by rw[<-z];simp)) e,N'.2.at' fun o e=>nb a o (fun z=>Fw (by rw[<-z];simp)) e⟩ (fun b o e=>nb b o (Nat.ne_of_lt (Heap.lt_size e)) (Ng b o e)) A4⟩
end
section
variable {X:Cx}
theorem yr(hh:X.A.handled=none):hV X (.builtin "sorted") (fun vs H Q=>∃(a:Addr) (av:List (Key×V)) (xs:List Str),vs=[.ref a]/\Rd H a (.dK av)/\av.map (·.1)=xs.map Sum.inr/\xs.Nodup/\xs.length<64/\∀(p:Addr) (ys:List Str),H p=none->ys.Pairwise slt->(∀x,x∈ys↔x∈xs)->Q (.ref p) (upd H p (.lst (ys.map V.str)))):=by
 intro pins s σ H us ws Q I r ⟨a,av,xs,e,ha,hk,hn,Fx,q⟩
 subst e
 obtain⟨u,rfl,ru⟩:=vals1 r
 cases ru
 obtain⟨hz,nu,vs,rel,dd⟩:=l0 I.cg ha
 obtain⟨ob,es,ep,ho,hc,Pq,Tz⟩:=id dd
 have da:=lz ho Pq dd
 have hkk:vs.map (·.1)=xs.map Sum.inr:=by
  rw[<-hk]
  clear hk hz dd ho hc Pq da q Tz ha
  induction rel with
  |nil=>rfl
  |cons h _ ih=>rw[List.map_cons,List.map_cons,ih,h.1]
 refine Calls.call_function_entry kind_sorted plain_sorted entry_sorted (args_sorted1 _) ?_
 unfold Builtin.«sorted»
 refine wpAny_bind (m:=checkCount "sorted" 1 1 _) (wpAny_pure ?_)
 refine wpAny_bind (wA (by simpa using hh) nu da (by rw[<-rel.length];exact hz) fun h' tk acc kp L8 lM=>?_)
 have hS:=Cr hkk lM
 have hl:acc.toList.length=xs.length:=by have:=hS.length;omega
 refine uq (s:={s with heap:=h',toks:=tk}) hS (by omega) fun h2 out ys e p k2 hp Fo Fi Cy Ni=>?_
 have hs:=lV Ni (Cy.nodup_iff.mpr hn)
 have hyl:ys.length=xs.length:=Cy.length_eq
 have Ta:∀b o,s.heap.get? b=some o->h2.get? b=some o:=fun b o e=>k2 b o (kp b o e)
 have hsz:s.heap.objs.size<=p:=Nat.le_trans L8 hp
 refine⟨.ref p,_,I.laid (t':=tk) (o:=.lst (ys.map V.str)) Ta hsz ?_,rfl,q p ys (I.cg.fresh hsz) hs fun x=>Cy.mem_iff⟩
 have Ts:(64:Nat)<=sizeLine:=by rw[sizeLine_eq];omega
 exact⟨by rw[List.length_map];omega,out.toList,e,Ai Fi,by rw[Array.toArray_toList];exact Fo⟩
end
end L2
end
section
namespace L2
open PySem PySem.Spec PyProof.Rows
open AutoSeq1 (wpAny_loadPart')
open MeetsSeq MeetsSeq2 MeetsSeq3
section
variable {prog:Program}{w:World}{A:Around}{E:Value->Shared->Prop}{s:Shared}
def Ys(prog:Program)(w:World)(A:Around)(s:Shared)(y x:Value):Prop:=∀(E:Value->Shared->Prop) (Q:Bool->Shared->Prop),Q true s->wpAny (model prog w) A (eqBool y x) Q E s
theorem Ys.refs{l b:Addr}(h:∀(E:Value->Shared->Prop) (Q:Value->Shared->Prop),Q (.bool true) s->wpAny (model prog w) A (compareOp .Eq (.ref l) (.ref b)) Q E s):Ys prog w A s (.ref l) (.ref b):=fun E Q hq=>by
 by_cases nu:l=b
 ·subst nu;exact SeqAt.EqAt.same _ prog w E Q hq
 unfold eqBool
 refine wpAny_holding ?_
 refine wpAny_ite_split (fun Nr=>absurd (by have:=eq_of_beq Nr;injection this) nu) (fun _=>?_)
 exact wpAny_bind (h E _ (wpAny_truthy_bool hq))
end
def JI(ks:List Key)(ns:List Int):List (Key×V):=ks.zip (ns.map V.int)
def LD(H:Hp):List V->List (List Key×List Int)->Prop
 | [],[]=>True
 |v::vs,r::rs=>((∃a,v=.ref a/\Rd H a (.dK (JI r.1 r.2)))/\r.1.length=r.2.length/\r.1.Nodup)/\LD H vs rs
 |_,_=>False
theorem LD.get{H:Hp}:∀{vs:List V}{us:List Value}{rs:List (List Key×List Int)},LD H vs rs->Vals vs us->us.length=rs.length/\∀(j:Nat) (u:Value),us[j]? = some u->∃a r,u=.ref a/\rs[j]? = some r/\Rd H a (.dK (JI r.1 r.2))/\r.1.length=r.2.length/\r.1.Nodup
 | [],us,[],_,q=>by cases q;simp
 | [],_,_::_,h,_=>h.elim
 |_::_,_,[],h,_=>h.elim
 |v::vs,us,r::rs,h,q=>by
  cases q with
  |cons h1 h2=>
   obtain⟨⟨⟨a,rfl,hr⟩,e1,e2⟩,hl⟩:=h
   obtain⟨g1,g2⟩:=LD.get hl h2
   refine⟨by simp[g1],fun j u hu=>?_⟩
   cases j with
   |zero=>
    cases (show some _=some u from hu)
    exact⟨a,r,h1,rfl,hr,e1,e2⟩
   |succ j=>exact g2 j u hu
def Wg:R2:=fun x y H Q=>∃a b va vb rows,x=.ref a/\y=.ref b/\Rd H a (.lst va)/\Rd H b (.lst vb)/\LD H va rows/\LD H vb rows/\Q (.bl false) H
end L2
namespace VS
open PySem L2
def PR(r:List Key×List Int):D:=.cB false false (r.1.map .s) (r.2.map .int)
def Xj:D->D->(D->Prop)->Prop:=fun d1 d2 P=>∃(o1 o2:Bool) (rows:List (List Key×List Int)),d1=.lst o1 (rows.map PR)/\d2=.lst o2 (rows.map PR)/\P (.bl false)
theorem xX:∀{a b:List Key},a.map DK.s=b.map DK.s->a=b
 | [],[],_=>rfl
 | [],_::_,h=>by simp at h
 |_::_,[],h=>by simp at h
 |a::as,b::bs,h=>by
  simp only[List.map_cons,List.cons.injEq,DK.s.injEq] at h
  rw[h.1,xX h.2]
end VS
end
section
namespace L2
open PySem PySem.Spec PyProof.Rows
open AutoSeq1 (wpAny_loadPart')
open MeetsSeq MeetsSeq2 MeetsSeq3 SeqRoads2
section
variable {prog:Program}{w:World}{A:Around}{E:Value->Shared->Prop}{s:Shared}
theorem si(l:Addr)(items:Array Value)(n:Nat)(dd:Option Addr)(sl:Array (Option Value))(x:Value)(e:Nat->Bool)(k:Nat) :
  ∀i:Nat,items.size-i=k->Meets (Builtin.«list.__contains__.loop» ⟨[.ref l,x,rawInt i],[]⟩)
   (fun A R s=>s.heap.get? l=some {cls:=.type "list",dict:=dd,data:=.seq items n,slots:=sl}/\(∀j (h:j<items.size),SeqAt.EqAt A.in1 s items[j] x (e j))/\R (.ok (.ret (.bool (((List.range items.size).drop i).any e)))) s):=by
 induction k with
 |zero=>
  intro i hk prog w A R s h
  obtain⟨hp,g,d,tk,os⟩:=s;obtain⟨hl,he,h⟩:=h
  wp_walk using wpAny_loadPart' hl
  have hi:items[((i:Nat):Int).toNat]? = none:=by simp;omega
  have hd:(List.range items.size).drop i=[]:=by simp;omega
  rw[hd] at h
  rw[hi]
  wp_walk
  exact h
 |succ k ih=>
  intro i hk prog w A R s h
  obtain⟨hp,g,d,tk,os⟩:=s;obtain⟨hl,he,h⟩:=h
  wp_walk using wpAny_loadPart' hl
  have iZ:i<items.size:=by omega
  have hi:items[((i:Nat):Int).toNat]? = some items[i]:=by simp[iZ]
  have hd:(List.range items.size).drop i=i::(List.range items.size).drop (i+1):=by simp[List.drop_eq_getElem_cons,iZ]
  rw[hd,List.any_cons] at h
  rw[hi]
  refine wpAny_bind (he i iZ prog w _ _ ?_)
  cases hb:e i with
  |true=>
   rw[hb] at h
   wp_walk
   exact h
  |false=>
   rw[hb] at h
   have hc:((i:Int)+1)=((i+1:Nat):Int):=by push_cast;rfl
   wp_walk
   rw[hc]
   exact⟨plainId_quiet plain_contains_loop _,codeAny_builtin entry_contains_loop (by
    rw[Around.under_plainId plain_contains_loop _]
    exact ih (i+1) (by omega) prog w A R _ ⟨hl,he,by simpa using h⟩)⟩
theorem rJ(l:Addr)(items:Array Value)(n:Nat)(dd:Option Addr)(sl:Array (Option Value))(x:Value)(e:Nat->Bool) :
  Meets (Builtin.«list.__contains__» ⟨[.ref l,x],[]⟩)
   (fun A R s=>s.heap.get? l=some {cls:=.type "list",dict:=dd,data:=.seq items n,slots:=sl}/\(∀j (h:j<items.size),SeqAt.EqAt A.in1 s items[j] x (e j))/\R (.ok (.ret (.bool ((List.range items.size).any e)))) s):=by
 intro prog w A R s h
 obtain⟨hp,g,d,tk,os⟩:=s;obtain⟨hl,he,h⟩:=h
 wp_walk using wpAny_loadPart' hl
 exact⟨plainId_quiet plain_contains_loop _,codeAny_builtin entry_contains_loop (by
  rw[Around.under_plainId plain_contains_loop _]
  exact si l items n dd sl x e _ 0 rfl prog w A R _ ⟨hl,he,by simpa using h⟩)⟩
theorem E7{l:Addr}{items:Array Value}{x:Value}{Q:Value->Shared->Prop}(e:Nat->Bool)(hl:s.heap.IsList l items)(he:∀j (h:j<items.size),SeqAt.EqAt A.in1 s items[j] x (e j))
  (h:Q (.bool ((List.range items.size).any e)) s):wpAny (model prog w) A (compareOp .In x (.ref l)) Q E s:=by
 obtain⟨⟨cls,dd,data,sl⟩,ho,hc,n,hd⟩:=id hl
 simp only at hc hd
 subst hc hd
 exact in_meets ⟨_,ho,rfl⟩ F.slot_list_contains F.entry_list_contains (F.args_list_contains_2 _ _) (rJ l items n dd sl x e) ⟨ho,he,_,rfl,h⟩
end
section
variable {X:Cx}
def Og(K:PySem.W.Frag):R2:=fun x y H Q=>∃dx p xs ds,y=.ref p/\Rd H p (.lst xs)/\DA K H dx x/\sP K H ds xs/\(PyData.canLay0 dx=true/\PyData.depth dx<=60)/\(∀d∈ds,PyData.canLay0 d=true)/\Q (.bl (ds.any fun d=>PyData.eqv d dx)) H
theorem sP.at{K:PySem.W.Frag}{H:Hp}:∀{ds:List PyData}{xs:List V}{us:List Value},sP K H ds xs->Vals xs us->us.length=ds.length/\∀(j:Nat) (u:Value),us[j]? = some u->∃d x,ds[j]? = some d/\DA K H d x/\RelV x u
 | [],xs,us,h,r=>by
  have h:xs=[]:=by simpa only [sP] using h
  subst h;cases r;simp
 |d::ds,xs,us,h,r=>by
  have h:∃x r,xs=x::r/\DA K H d x/\sP K H ds r:=by simpa only [sP] using h
  obtain⟨x,ys,rfl,h1,h2⟩:=h
  cases r with
  |cons rx ry=>
   obtain⟨g1,g2⟩:=sP.at h2 ry
   refine⟨by simp[g1],fun j u hu=>?_⟩
   cases j with
   |zero=>cases (show some _=some u from hu);exact⟨d,x,rfl,h1,rx⟩
   |succ j=>exact g2 j u hu
theorem any_range{α:Type}(f:α->Bool):∀(l:List α),((List.range l.length).any fun j=>(l[j]?.map f).getD false)=l.any f:=by
 intro l
 rw[Bool.eq_iff_iff]
 simp only[List.any_eq_true,List.mem_range]
 constructor
 ·rintro⟨j,hj,h⟩
  rw[List.getElem?_eq_getElem hj] at h
  exact⟨_,List.getElem_mem hj,h⟩
 ·rintro⟨a,ha,h⟩
  obtain⟨j,hj,e⟩:=List.getElem_of_mem ha
  exact⟨j,hj,by rw[List.getElem?_eq_getElem hj,e];exact h⟩
theorem Lq(hu:X.A.units+64<cLine):jv X (compareOp .In) (Og X.K):=by
 intro pins s σ H x y v u Q I rx ry ⟨dx,p,xs,ds,e,hp,hx,Nm,sx,sd,q⟩
 subst e
 cases ry
 obtain⟨_,its,n,r,g⟩:=(show ez X.prog X.w H s.heap p (.lst xs) from Ee I.cg hp)
 obtain⟨as,ra⟩:=DA.reads I dx hx rx
 obtain⟨hl,mI⟩:=Nm.at r
 refine E7 (items:=its.toArray) (fun j=>(ds[j]?.map fun d=>PyData.eqv d dx).getD false) ⟨_,g,rfl,_,rfl⟩ (fun j hj=>?_) ⟨.bl _,H,I,rfl,?_⟩
 ·obtain⟨d,z,e1,hd,rz⟩:=mI j _ (List.getElem?_eq_getElem (by simpa using hj))
  obtain⟨bs,rb⟩:=DA.reads I d hd rz
  have hs:=sd d (List.mem_of_getElem? e1)
  simp only[List.getElem_toArray,e1,Option.map_some,Option.getD_some]
  exact SeqAt.eqAt_reads d dx X.A.in1 s _ _ bs as rb ra hs sx.1 (by have:=sx.2;simp only[Around.in1_units];omega)
 ·rw[show its.toArray.size=ds.length by simp[hl],any_range];exact q
end
end L2
namespace VS
open PySem L2
def Mz:D->D->(D->Prop)->Prop
 |d,.lst _ ds,P=>dF 60 d=true/\eK 60 ds=true/\P (.bl (ds.any fun x=>eqT x d))
 |_,_,_=>False
theorem oo:∀ds:List D,fJ ds=ds.map toPy
 | []=>by simp[fJ]
 |d::ds=>by simp[fJ,oo ds]
theorem Mw{K:PySem.W.Frag}:iU (Og K) Mz:=fun Z H d1 d2 v1 v2 F1 F2 P R h1 h2 hf k=>by
 cases d2 with
 |lst o ds=>
  obtain⟨o1,o2,p⟩:=hf
  obtain⟨a,vs,rfl,hr,hl⟩:=fO h2
  refine⟨toPy d1,a,vs,fJ ds,rfl,hr,dF.da 60 d1 o1 h1,eK.da 60 ds o2 hl,dF.shape 60 d1 o1,fun d hd=>?_,?_⟩
  ·rw[oo] at hd
   obtain⟨z,hz,rfl⟩:=List.mem_map.mp hd
   exact(dF.shape 60 z (kI.mp o2 z hz)).1
  ·rw[oo,List.any_map]
   exact k _ _ _ _ p (jb.refl (dh.mpr rfl))
 |_=>exact hf.elim
def mO(ua:UB):UB:=fun env Q=>ua env fun r e=>∃(o:Bool) (xs:List Str) (ds:List D),r.at e=some (.cB o false (xs.map fun x=>.s (.inr x)) ds)/\xs.length<64/\∀ys:List Str,ys.Pairwise slt->(∀x,x∈ys↔x∈xs)->Q (.a8 (.lst true (ys.map D.str))) e
abbrev HG:List V->Hp->VK->Prop:=fun vs H Q=>∃(a:Addr) (av:List (Key×V)) (xs:List Str),vs=[.ref a]/\Rd H a (.dK av)/\av.map (·.1)=xs.map Sum.inr/\xs.Nodup/\xs.length<64/\∀(p:Addr) (ys:List Str),H p=none->ys.Pairwise slt->(∀x,x∈ys↔x∈xs)->Q (.ref p) (upd H p (.lst (ys.map V.str)))
theorem y3{t:TE}{u:UB}(h:aZ t u):aZ (Hd HG (lT t xf)) (mO u):=by
 intro σ env Z H φ Q R O q k
 refine h σ env Z H φ _ _ O q fun r aK v Z1 H1 bE G1 ⟨o,xs,ds,e,Fx,q1⟩ O1 r1 jc=>?_
 obtain⟨F,ho⟩:=dW O1 jc e
 obtain⟨a,vs,w,rfl,hr,⟨kl,ek,pK,yc,rfl⟩,hl⟩:=gi ho
 have ek:kl=xs.map Sum.inr:=xX (by rw[<-ek,List.map_map];rfl)
 refine⟨a,_,xs,rfl,hr,by rw[List.map_fst_zip (by omega),ek],?_,Fx,fun p ys hp hs hm=>?_⟩
 ·rw[ek] at yc
  exact(List.pairwise_map.mp yc).imp fun h e=>h (by rw[e])
 have s1:=ck.upd (H:=H1) (o:=.lst (ys.map V.str)) hp
 have n:=jb.lst (Z:=Z1) hp s1 aB (ox (Z:=Z1) (H:=H1) (xs:=ys))
 exact k (.a8 _) aK _ Z1 _ bE _ (q1 ys hs hm) (O1.grow s1) (n.res O1 r1.drop) n.own
section
variable {X:Cx}{e:Expr}{ua:UB}{p pos:Pos}{k:Nat}
theorem Bv(hh:X.A.handled=none)(hg:Gl X "sorted")(hm:X.mg "sorted" = none)(h:VE X e ua)(h1:aH e=true:=by rfl) :
  VE X (.Call (.Name "sorted" p) [e] [] pos) (mO ua):=
 let ⟨_,q,s⟩:=h.ex;⟨_,wG (yr hh) hg hm PyProof.Rows.boot_sorted (JD q mn h1) (by decide) (by decide) h1 rfl,y3 s⟩
end
end VS
end
section
namespace VS
open PySem L2
abbrev Lk(s:Stmt)(x:Str):Prop:=(ay s).names.lookup x=some .local\/(ay s).names.lookup x=some .cell
abbrev Ln(s:Stmt)(x:Str):Prop:=(ay s).names.lookup x=some .local
abbrev Gk(s:Stmt)(x:Str):Prop:=(ay s).names.lookup x=some .globalImplicit
abbrev XX(q:List Str)(n:Str)(st:Stmt)(P:Program)(w:World)(K:PySem.W.Frag)(mg:Str->Option Value)(base:Heap)(f:Addr)(eE:Value)(A:Around)(outer:List PySem.Env)(s:Shared)(H:Hp)(E:XK):Cx:=(zZ iy P w K mg base q n (ay st) f eE A outer s H E).yE
section
variable {P:Program}{w:World}{K:PySem.W.Frag}{mg:Str->Option Value}{base:Heap}{f:Addr}{fd:FuncData}{eE:Value}{A:Around}{outer:List PySem.Env}{s:Shared}{H:Hp}{E:XK}{q:List Str}{n x:Str}{st:Stmt}
theorem wb(h:Lk st x):Loc (XX q n st P w K mg base f eE A outer s H E).env.scope x:=h
theorem wV(h:Gk st x):Gl (XX q n st P w K mg base f eE A outer s H E) x:=h
theorem Ws(h:Ln st x):(XX q n st P w K mg base f eE A outer s H E).env.scope.names.lookup x=some .local:=h
theorem pq{sc:Scope}{ks N2:List Str}(h:MG sc (ay st) ks N2 q=true):wM (XX q n st P w K mg base f eE A outer s H E) sc ks N2:=MF rfl rfl h
theorem Nb(h:oR q=true):(XX q n st P w K mg base f eE A outer s H E).N.Nodup:=ll h
theorem Nc{X:Cx}{sc:Scope}{N:List Str}{C:Addr}{fp:List Addr}{pins:List (Addr×Obj)}(h:oR N=true):(dE X sc N C s H fp pins).N.Nodup:=ll h
end
section
variable {I:Nat->Bool}{X:Cx}{a b c e o v:Expr}{es:List Expr}{ua ub uc ue uk uv:UB}{wa:UA}{x y name:Str}{p pos pos' apos bD px py pt p2 K9:Pos}{i j n k:Nat}
theorem pP(hN:X.N[i]? = some x:=by rfl)(hv:km X.env.scope x:=by walk_at "a")(hd:(x==("__debug__":Str))=false:=by decide)(fu:(x==("__classdict__":Str))=false:=by decide):VE X (.Name x pos) (aa i):=C' hN hv hd fu
theorem pC(hN:X.N[i]? = some x:=by rfl)(hv:km X.env.scope x:=by walk_at "a")(hd:(x==("__debug__":Str))=false:=by decide)(fu:(x==("__classdict__":Str))=false:=by decide):VE X (.Name x pos) (a7 i):=GU hN hv hd fu
theorem pM(hN:X.N[i]? = some x:=by rfl)(hv:km X.env.scope x:=by walk_at "a")(hd:(x==("__debug__":Str))=false:=by decide)(fu:(x==("__classdict__":Str))=false:=by decide):VE X (.Name x pos) (ff i):=GN hN hv hd fu
theorem Qr(hN:X.N[i]? = some x:=by rfl)(hv:km X.env.scope x:=by walk_at "a")(hd:(x==("__debug__":Str))=false:=by decide)(fu:(x==("__classdict__":Str))=false:=by decide):VX X (.Name x pos) (mK i):=GC hN hv hd fu
theorem pG{j:Int}(hm:∃t,X.mg x=some (.int j t))(hg:Gl X x:=by walk_at "b")(hd:(x==("__debug__":Str))=false:=by decide):VE X (.Name x p) (uC (.int j)):=let ⟨_,h⟩:=hm;GP h hg hd
theorem gN(hI:I i=false:=by rfl)(hN:X.N.Nodup:=by walk_at "c")(hi:X.N[i]? = some x:=by rfl)(hx:Loc X.env.scope x:=by walk_at "d")(hf:X.fn x=true\/X.env.scope.names.lookup x=some .local:=by first|exact .inl rfl|exact .inr (jZ (by decide +kernel))):VG I X (.Name x pos) (au i):=GL hI hN hi hx hf
theorem gF(hI:I i=false:=by rfl)(hN:X.N.Nodup:=by walk_at "c")(hi:X.N[i]? = some x:=by rfl)(hx:Loc X.env.scope x:=by walk_at "d")(hf:X.fn x=true\/X.env.scope.names.lookup x=some .local:=by first|exact .inl rfl|exact .inr (jZ (by decide +kernel))):VG I X (.Name x pos) (bx i):=C_ hI hN hi hx hf
theorem sO(he:VE X e ue)(hI:I i=false:=by rfl)(hN:X.N.Nodup:=by walk_at "c")(hi:X.N[i]? = some x:=by rfl)(hx:Loc X.env.scope x:=by walk_at "d")(hf:X.fn x=true\/X.env.scope.names.lookup x=some .local:=by first|exact .inl rfl|exact .inr (jZ (by decide +kernel)))(hs:swapsWith e (some (.Name x pos')) pos.line X.env=pure false:=by rfl):ko I X (.Assign [.Name x pos'] e pos) (aX ue (au i)):=Ka hI hN hi hx he hf hs
theorem sF(he:VE X e ue)(hI:I i=false:=by rfl)(hN:X.N.Nodup:=by walk_at "c")(hi:X.N[i]? = some x:=by rfl)(hx:Loc X.env.scope x:=by walk_at "d")(hf:X.fn x=true\/X.env.scope.names.lookup x=some .local:=by first|exact .inl rfl|exact .inr (jZ (by decide +kernel)))(hs:swapsWith e (some (.Name x pos')) pos.line X.env=pure false:=by rfl):ko I X (.Assign [.Name x pos'] e pos) (aX ue (bx i)):=GG hI hN hi hx he hf hs
theorem uA(he:VE X e ue)(hI:I i=false:=by rfl)(hN:X.N.Nodup:=by walk_at "c")(hi:X.N[i]? = some x:=by rfl)(hx:Loc X.env.scope x:=by walk_at "d")(hf:X.fn x=true\/X.env.scope.names.lookup x=some .local:=by first|exact .inl rfl|exact .inr (jZ (by decide +kernel))):ko I X (.AugAssign (.Name x pos') .Add e pos) (Dm i (fun i j=>i+j) ue):=Kc hI hN hi hx he LW hf
theorem mA(ha:VA X (e::es) wa)(hN:X.N[i]? = some x:=by rfl)(hv:km X.env.scope x:=by walk_at "a")(hd:(x==("__debug__":Str))=false:=by decide)(fu:(x==("__classdict__":Str))=false:=by decide)(eh:attributeBase (.Name x p) "append" X.env (eval (.Name x p) X.env)=eval (.Name x p) X.env:=by rfl)(hlen:(e::es).length<30:=by simp)(ef:(apos.endLine==bD.line)=true:=by rfl)(h1:aH e=true:=by rfl)(h2:es.all aH=true:=by rfl)(hs:swapsWith (.Call (.Attribute (.Name x p) "append" apos) (e::es) [] bD) none pos.line X.env=pure false:=by rfl):ko I X (.Expr (.Call (.Attribute (.Name x p) "append" apos) (e::es) [] bD) pos) (cF i wa):=Bt hN hv ha hd fu eh hlen ef h1 h2 hs
theorem mE(ha:VA X (e::es) wa)(hN:X.N[i]? = some x:=by rfl)(hv:km X.env.scope x:=by walk_at "a")(hd:(x==("__debug__":Str))=false:=by decide)(fu:(x==("__classdict__":Str))=false:=by decide)(eh:attributeBase (.Name x p) "extend" X.env (eval (.Name x p) X.env)=eval (.Name x p) X.env:=by rfl)(hlen:(e::es).length<30:=by simp)(ef:(apos.endLine==bD.line)=true:=by rfl)(h1:aH e=true:=by rfl)(h2:es.all aH=true:=by rfl)(hs:swapsWith (.Call (.Attribute (.Name x p) "extend" apos) (e::es) [] bD) none pos.line X.env=pure false:=by rfl):ko I X (.Expr (.Call (.Attribute (.Name x p) "extend" apos) (e::es) [] bD) pos) (iV i wa):=Bq hN hv ha hd fu eh hlen ef h1 h2 hs
theorem mR(hN:X.N[i]? = some x:=by rfl)(hv:km X.env.scope x:=by walk_at "a")(hd:(x==("__debug__":Str))=false:=by decide)(fu:(x==("__classdict__":Str))=false:=by decide)(eh:attributeBase (.Name x p) "reverse" X.env (eval (.Name x p) X.env)=eval (.Name x p) X.env:=by rfl)(ef:(apos.endLine==bD.line)=true:=by rfl)(hs:swapsWith (.Call (.Attribute (.Name x p) "reverse" apos) [] [] bD) none pos.line X.env=pure false:=by rfl):ko I X (.Expr (.Call (.Attribute (.Name x p) "reverse" apos) [] [] bD) pos) (ky i):=yJ hN hv hd fu eh ef hs
theorem mP(hN:X.N[i]? = some x:=by rfl)(hv:km X.env.scope x:=by walk_at "a")(hd:(x==("__debug__":Str))=false:=by decide)(fu:(x==("__classdict__":Str))=false:=by decide)(eh:attributeBase (.Name x p) "pop" X.env (eval (.Name x p) X.env)=eval (.Name x p) X.env:=by rfl)(ef:(apos.endLine==bD.line)=true:=by rfl):VE X (.Call (.Attribute (.Name x p) "pop" apos) [] [] bD) (Dl i):=Ke hN hv hd fu eh ef
theorem mD(h:VE X e uk)(hN:X.N[i]? = some x:=by rfl)(hv:km X.env.scope x:=by walk_at "a")(m:M1 X (.Name x p) "pop" apos e bD:=by exact⟨rfl,rfl,rfl,rfl⟩)(hd:(x==("__debug__":Str))=false:=by decide)(fu:(x==("__classdict__":Str))=false:=by decide):VE X (.Call (.Attribute (.Name x p) "pop" apos) [e] [] bD) (Al i uk):=GR hN hv h m hd fu
theorem dP(hk:VE X b uk)(zN:VE X v uv)(hu:X.A.units+1<cLine:=by assumption)(hN:X.N[i]? = some x:=by rfl)(hv:km X.env.scope x:=by walk_at "a")(hd:(x==("__debug__":Str))=false:=by decide)(fu:(x==("__classdict__":Str))=false:=by decide)(hs:swapsWith v (some (.Subscript (.Name x p) b pos')) pos.line X.env=pure false:=by rfl):ko I X (.Assign [.Subscript (.Name x p) b pos'] v pos) (jh i uk uv):=GI hu hN hv hk zN hd fu hs
theorem lP(hk:VE X b uk)(zN:VE X v uv)(hN:X.N[i]? = some x:=by rfl)(hv:km X.env.scope x:=by walk_at "a")(hd:(x==("__debug__":Str))=false:=by decide)(fu:(x==("__classdict__":Str))=false:=by decide)(ha:∀v,assign (.Subscript (.Name x p) b pos') X.env v=(do let ov <-holding [v] (eval (.Name x p) X.env);let iv <-holding [v,ov] (eval b X.env);standAt pos';holding [v,ov,iv] (setItem ov iv v);release [v,ov,iv] []):=by intro _;rfl)(hs:swapsWithSole [.Subscript (.Name x p) b pos'] v pos.line X.env=pure false:=by rfl)(hw:swappedStores [.Subscript (.Name x p) b pos'] v X.env=pure none:=by rfl)(h1:(assignEach [.Subscript (.Name x p) b pos'] X.env).map (·.2)=[assign (.Subscript (.Name x p) b pos') X.env]:=by rfl):ko I X (.Assign [.Subscript (.Name x p) b pos'] v pos) (t_ i uk uv):=GF hN hv hk zN hd fu ha hs hw h1
theorem tD{uk:UX}(hk:VX X b uk)(hu:X.A.units+1<cLine:=by assumption)(hN:X.N[i]? = some x:=by rfl)(hv:km X.env.scope x:=by walk_at "a")(hs:wL b:=by exact fun _ _=>rfl)(hd:(x==("__debug__":Str))=false:=by decide)(fu:(x==("__classdict__":Str))=false:=by decide):MK X .cB i (.Subscript (.Name x p) b pos) uk:=GX hu hN hv hk hs hd fu
theorem tL{uk:UX}(hk:VX X b uk)(hN:X.N[i]? = some x:=by rfl)(hv:km X.env.scope x:=by walk_at "a")(hs:j3 b:=by exact fun _ _=>rfl)(hd:(x==("__debug__":Str))=false:=by decide)(fu:(x==("__classdict__":Str))=false:=by decide):MK X .lst i (.Subscript (.Name x p) b pos) uk:=GW hN hv hk hs hd fu
theorem aP{sl:Sel}{uj uk uv:UX}(hc:MK X sl i o uj)(hk:VX X b uk)(hv:VX X v uv)(hu:X.A.units+1<cLine:=by assumption)(hs:swapsWith v (some (.Subscript o b pos')) pos.line X.env=pure false:=by rfl):ko I X (.Assign [.Subscript o b pos'] v pos) (mS sl i uj uk uv):=Br hu hc hk hv hs
theorem eG(ha:VE X a ua)(hb:VE X b ub)(hu:X.A.units+1<cLine:=by assumption)(hs:wL b:=by exact fun _ _=>rfl):VE X (.Subscript a b pos) (aj pN ua ub):=GS hu ha hb hs
theorem eL(ha:VE X a ua)(hb:VE X b ub)(hs:j3 b:=by exact fun _ _=>rfl):VE X (.Subscript a b pos) (aj dB ua ub):=Dd AW Mv ha hb hs
theorem eT(ha:VE X a ua)(hb:VE X b ub)(hs:j3 b:=by exact fun _ _=>rfl):VE X (.Subscript a b pos) (aj bc ua ub):=Dd LP Mt ha hb hs
theorem eS(ha:VE X a ua)(hb:VE X b ub)(hs:j3 b:=by exact fun _ _=>rfl):VE X (.Subscript a b pos) (aj zT ua ub):=Dd LQ Mu ha hb hs
theorem g2(ho:VE X o ua)(ha:VE X a ub)(hb:VE X b uc)(hu:X.A.units+1<cLine:=by assumption)(m:M2 X o "get" apos a b bD:=by exact⟨rfl,rfl,rfl,rfl⟩):VE X (.Call (.Attribute o "get" apos) [a,b] [] bD) (xb ua ub uc):=GQ hu ho ha hb m
theorem cI(ha:VE X a ua)(hb:VE X b ub)(hu:X.A.units+1<cLine:=by assumption):VC X .In a b (aj (jV false) ua ub):=Kj hu ha hb
theorem cO(ha:VE X a ua)(hb:VE X b ub)(hu:X.A.units+1<cLine:=by assumption):VC X .NotIn a b (aj (jV true) ua ub):=By hu ha hb
theorem cl{ms:List Bool}{m:fQ}(O:L2.Own X.prog X.w X.K X.mg X.base x k (fZ ms m))(ha:VA X (e::es) wa)(hr:dS k X.A:=by walk_at "e")(hg:Gl X x:=by walk_at "b")(jo:(x==("__debug__":Str))=false:=by decide)(h1:aH e=true:=by rfl)(h2:es.all aH=true:=by rfl):VE X (.Call (.Name x p) (e::es) [] pos) (aA ms m wa):=GV O hr ha hg jo h1 h2
theorem cz{ms:List Bool}{m:fQ}(O:L2.Own X.prog X.w X.K X.mg X.base x k (fZ ms m))(ha:VA X (e::es) wa)(RC:∀i:Nat,ms[i]? = some true->False:=by exact S3 rfl)(hr:dS k X.A:=by walk_at "e")(hg:Gl X x:=by walk_at "b")(jo:(x==("__debug__":Str))=false:=by decide)(h1:aH e=true:=by rfl)(h2:es.all aH=true:=by rfl):VE X (.Call (.Name x p) (e::es) [] pos) (qE ms m wa):=Dh RC O hr ha hg jo h1 h2
theorem cL{ms:List Bool}{S:Addr->fQ->Prop}(hS:∀a m,S a m->sM X.prog X.w X.K X.mg X.base a k (fZ ms m))(ha:VA X (e::es) wa)(hr:dS k X.A:=by walk_at "e")(hN:X.N[i]? = some x:=by rfl)(hv:km X.env.scope x:=by walk_at "a")(jo:(x==("__debug__":Str))=false:=by decide)(fu:(x==("__classdict__":Str))=false:=by decide)(h1:aH e=true:=by rfl)(h2:es.all aH=true:=by rfl):VE X (.Call (.Name x p) (e::es) [] pos) (qF i S ms wa):=Di hS hr hN hv ha jo fu h1 h2
theorem nL(hm:X.mg "len" = none)(ha:VA X (e::es) wa)(hg:Gl X "len":=by walk_at "b")(h1:aH e=true:=by rfl)(h2:es.all aH=true:=by rfl):VE X (.Call (.Name "len" p) (e::es) [] pos) (qk kj wa):=Dj wD Ms hg hm PySem.boot_len ha (by decide) (by decide) h1 h2
theorem nD(hm:X.mg "dict" = none)(ha:VA X (e::es) wa)(hg:Gl X "dict":=by walk_at "b")(h1:aH e=true:=by rfl)(h2:es.all aH=true:=by rfl):VE X (.Call (.Name "dict" p) (e::es) [] pos) (qk qv wa):=t8 wF CI hg hm PyProof.Rows.boot_dict ha (by decide) (by decide) h1 h2
theorem nT(hm:X.mg "list" = none)(ha:VA X (e::es) wa)(hg:Gl X "list":=by walk_at "b")(h1:aH e=true:=by rfl)(h2:es.all aH=true:=by rfl):VE X (.Call (.Name "list" p) (e::es) [] pos) (qk ly wa):=t8 wC CH hg hm PyProof.Rows.boot_list ha (by decide) (by decide) h1 h2
theorem iR{tg:Expr}(hm:X.mg "range" = none)(h:VA X [a] wa)(hg:Gl X "range":=by walk_at "b")(hp:aH a=true:=by rfl):VI X tg (.Call (.Name "range" p) [a] [] pos) (fH wa):=GJ hg hm h hp
theorem iE{elts:List Expr}{kk:Nat}{yS:Pos}(hm:X.mg "enumerate" = none)(h:VE X a ue)(hg:Gl X "enumerate":=by walk_at "b")(hp:aH a=true:=by rfl):VI X (.Tuple elts kk yS) (.Call (.Name "enumerate" p) [a] [] pos) (pF bt ue):=GK hg hm h hp
theorem wc(hm:X.mg "isinstance" = none)(Pr:X.mg "str" = none)(h:VE X e ua)(hg:Gl X "isinstance":=by walk_at "b")(hc:Gl X "str":=by walk_at "b")(h1:aH e=true:=by rfl):VE X (.Call (.Name "isinstance" p) [e,.Name "str" p2] [] pos) (yP .str ua):=De (t:=.str) hg hm hc Pr (by decide +kernel) h (by decide) (by decide) h1
theorem is_tup(hm:X.mg "isinstance" = none)(Pr:X.mg "tuple" = none)(h:VE X e ua)(hg:Gl X "isinstance":=by walk_at "b")(hc:Gl X "tuple":=by walk_at "b")(h1:aH e=true:=by rfl):VE X (.Call (.Name "isinstance" p) [e,.Name "tuple" p2] [] pos) (yP .tup ua):=De (t:=.tup) hg hm hc Pr (by decide +kernel) h (by decide) (by decide) h1
theorem Wb(hm:X.mg "sorted" = none)(CY:X.mg "set" = none)(h:VE X e ua)(hr:dS k X.A:=by walk_at "e")(hg:Gl X "sorted":=by walk_at "b")(T6:Gl X "set":=by walk_at "b")(h1:aH e=true:=by rfl):VE X (.Call (.Name "sorted" p) [.Call (.Name "set" p2) [e] [] K9] [] pos) (jg ua):=yL hr.hd hg hm T6 CY h h1
theorem pr{kt k2 En}(ha:VA X [a,b] wa)(Pn:I i=false:=by rfl)(T2:I j=false:=by rfl)(hc:X.calm=true:=by rfl)(hN:X.N.Nodup:=by walk_at "c")(hi:X.N[i]? = some x:=by rfl)(hj:X.N[j]? = some y:=by rfl)(Pm:i≠j:=by decide)(hx:X.env.scope.names.lookup x=some .local:=by exact Ws (by decide +kernel))(hy:X.env.scope.names.lookup y=some .local:=by exact Ws (by decide +kernel))(hw:swappedStores [.Tuple [.Name x px,.Name y py] kt pt] (.Tuple [a,b] k2 En) X.env=pure (some [x,y]):=by rfl)(hs:swapsWithSole [.Tuple [.Name x px,.Name y py] kt pt] (.Tuple [a,b] k2 En) pos.line X.env=pure false:=by rfl):ko I X (.Assign [.Tuple [.Name x px,.Name y py] kt pt] (.Tuple [a,b] k2 En) pos) (G_ i j wa):=Kb Pn T2 hc hN hi hj Pm hx hy ha hw hs
theorem oI{aO:Addr}{A:List (Str×Addr)}{ks:List Str}(hm:X.mg x=some (.ref aO))(hD:n6 X.prog X.w X.base aO (ni A))(h:VE X a ua)(hk:A.map (·.1)=ks:=by rfl)(hg:Gl X x:=by walk_at "b")(hd:(x==("__debug__":Str))=false:=by decide):VC X .In a (.Name x p) (w_ false ks ua):=by subst hk;exact Ki hm hg hD h hd
theorem oO{aO:Addr}{A:List (Str×Addr)}{ks:List Str}(hm:X.mg x=some (.ref aO))(hD:n6 X.prog X.w X.base aO (ni A))(h:VE X a ua)(hk:A.map (·.1)=ks:=by rfl)(hg:Gl X x:=by walk_at "b")(hd:(x==("__debug__":Str))=false:=by decide):VC X .NotIn a (.Name x p) (w_ true ks ua):=by subst hk;exact Bx hm hg hD h hd
theorem oG{aO:Addr}{A:List (Str×Addr)}(hm:X.mg x=some (.ref aO))(hD:n6 X.prog X.w X.base aO (ni A))(h:VE X b ub)(hg:Gl X x:=by walk_at "b")(hs:wL b:=by exact fun _ _=>rfl)(hd:(x==("__debug__":Str))=false:=by decide):VE X (.Subscript (.Name x p) b pos) (xa A ub):=GO hm hg hD h hs hd
end
structure Ent where
 nm:Str
 lv:Nat
 ms:List Bool
 m:fQ
def Gs(P:Program)(w:World)(K:PySem.W.Frag)(mg:Str->Option Value)(base:Heap)(sig:List Ent)(n:Nat):Prop:=∀j e,j<n->sig[j]? = some e->L2.Own P w K mg base e.nm e.lv (fZ e.ms e.m)
def Vy(ms:List Bool)(i:Nat):Bool:=(ms[i]?).getD false
theorem MO{ms:List Bool}(i:Nat)(h:ms[i]? = some true):Vy ms i=true:=by rw[Vy,h];rfl
section
variable {P:Program}{w:World}{K:PySem.W.Frag}{mg:Str->Option Value}{base:Heap}{sig:List Ent}{n:Nat}
theorem Gs.at(G:Gs P w K mg base sig n)(j:Nat){x:Str}{k:Nat}{ms:List Bool}{m:fQ}(e:sig[j]? = some ⟨x,k,ms,m⟩:=by rfl)(h:j<n:=by decide):L2.Own P w K mg base x k (fZ ms m):=G j _ h e
theorem Gs.zero:Gs P w K mg base sig 0:=fun _ _ h=>absurd h (Nat.not_lt_zero _)
theorem Gs.snoc(G:Gs P w K mg base sig n){x:Str}{k:Nat}{ms:List Bool}{m:fQ}(e:sig[n]? = some ⟨x,k,ms,m⟩)(O:L2.Own P w K mg base x k (fZ ms m)):Gs P w K mg base sig (n+1):=fun j e' hj q=>by
 rcases Nat.lt_or_ge j n with z|z
 ·exact G j e' z q
 ·have:j=n:=by omega
  subst this
  rw[e] at q
  cases q
  exact O
theorem jQ{x qual:Str}{st:Stmt}{f:Addr}{fd:FuncData}{N ps:List Str}{k:Nat}{ms:List Bool}{m:fQ}{u:US}(F:iQ K x qual st f fd)(S:aL N ps (ay st))(hl:ms.length=ps.length)(hN:ms.length<=N.length)(pu:∀ds P,ds.length=ms.length->m ds P->u (bC ms P) (az (N.length-ms.length) ds))
  (d:∀(eE:Value) (A:Around) (outer:List PySem.Env) (s:Shared) (H:Hp) (E:XK),dS k (XX N qual st P w K mg base f eE A outer s H E).A->(XX N qual st P w K mg base f eE A outer s H E).A.units+1<cLine->(XX N qual st P w K mg base f eE A outer s H E).A.units+64<cLine->Gv (Vy ms) (XX N qual st P w K mg base f eE A outer s H E) (g6 st) u):cA P w K mg base iy (k+1) f fd ps (fZ ms m):=by
 refine F.ok S (fun vs H Q E h=>h.1.trans hl) (fun eE A outer s H vs Q E hr h=>?_)
 obtain⟨tt,q,sn⟩:=(d eE A outer s H E hr (OT hr) hr.units).ex
 exact⟨tt,q,Jd (N:=N) sn MO hN pu h⟩
structure FD(K:PySem.W.Frag)(x:Str)(st:Stmt)(f:Addr):Prop where
 ex:∃(oc:Value) (od an:Option Addr) (sl:Array (Option Value)) (kV dc pm cd ct:Value),PySem.W.nsIn K mainGlobals x=some (some (.ref f))/\K.lookup f=some ⟨oc,od,.func (PySem.W.fnOf x x (i4 st) (g6 st) (ay st) .none kV dc pm an cd ct),sl⟩/\PySem.W.codeIn K cd x=true/\PySem.W.keepIn K (.ref f)=true
theorem PF{x:Str}{st:Stmt}{f:Addr}{oc:Value}{od an:Option Addr}{sl:Array (Option Value)}{kV dc pm cd ct:Value}(a:PySem.W.nsIn K mainGlobals x=some (some (.ref f)))(l:K.lookup f=some ⟨oc,od,.func (PySem.W.fnOf x x (i4 st) (g6 st) (ay st) .none kV dc pm an cd ct),sl⟩)(c:PySem.W.codeIn K cd x=true)(k:PySem.W.keepIn K (.ref f)=true):FD K x st f:=⟨⟨oc,od,an,sl,kV,dc,pm,cd,ct,a,l,c,k⟩⟩
theorem FD.fun{x:Str}{st:Stmt}{f:Addr}{h:Heap}(D:FD K x st f)(X:K.In h)(G:h.Ns mainGlobals mg):∃fd,(∃(kV dc pm:Value) (an:Option Addr) (cd ct:Value),fd=PySem.W.fnOf x x (i4 st) (g6 st) (ay st) .none kV dc pm an cd ct)/\iQ K x x st f fd/\mg x=some (.ref f)/\PySem.W.keepIn K (.ref f)=true:=by
 obtain⟨oc,od,an,sl,kV,dc,pm,cd,ct,a,l,c,k⟩:=D.ex
 exact⟨_,⟨kV,dc,pm,an,cd,ct,rfl⟩,Mn l c k,PySem.W.mg_of X G a,k⟩
theorem bf{x:Str}{f:Addr}{fd:FuncData}{k:Nat}{ps:List Str}{sp:Sp}(hm:mg x=some (.ref f))(F:cA P w K mg base iy k f fd ps sp)(kp:PySem.W.keepIn K (.ref f)=true)(b:Binds K fd ps []):L2.Own P w K mg base x k sp:=⟨f,hm,⟨fd,ps,F,kp,b⟩⟩
theorem Iw{a:Addr}(rows:List (Str×Tok×Addr)){n:Nat}(hg:base.get? a=some {cls:=.type "dict",data:=.dict (rows.map fun r=>({hash:=PyData.keyHash w.params r.1,key:=.str r.1 r.2.1,val:=.ref r.2.2}:DictEntry)).toArray n})
  (nd:((rows.map fun r=>((Sum.inr r.1:Key),V.ref r.2.2)).map (·.1)).Nodup) (ne:(a==sysModules)=false):n6 P w base a (rows.map fun r=>((Sum.inr r.1:Key),V.ref r.2.2)):=by
 refine⟨ne,rows.map fun r=>((Sum.inr r.1:Key),Value.ref r.2.2),?_,_,_,_,hg,⟨rfl,rfl,rfl⟩,rfl,?_,?_,?_⟩
 ·clear hg nd
  induction rows with
  |nil=>exact .nil
  |cons r rows ih=>exact .cons ⟨rfl,rfl⟩ ih
 ·intro e he
  obtain⟨x,t,b,_,rfl⟩:∃x t b,(x,t,b)∈rows/\({hash:=PyData.keyHash w.params x,key:=.str x t,val:=.ref b}:DictEntry)=e:=by simpa using he
  exact⟨Sum.inr x,oW x t,rfl⟩
 ·clear hg nd
  show PySem.Pairs _ (rows.map _) _
  induction rows with
  |nil=>exact .nil
  |cons r rows ih=>exact .cons (oW r.1 r.2.1) rfl ih
 ·have e:((rows.map fun r=>((Sum.inr r.1:Key),Value.ref r.2.2)).map (·.1))=((rows.map fun r=>((Sum.inr r.1:Key),V.ref r.2.2)).map (·.1)):=by rw[List.map_map,List.map_map];rfl
  rw[e]
  exact nd
end
end VS
end
section
namespace VS
open PySem L2
theorem Jj{elt iter tg hE BE:Expr}{ifs qe:List Expr}{sc:Scope}{pos:Pos}{it acc:Value}{env:PySem.Env}:compTurn (.ListComp elt [⟨tg,iter,ifs,0⟩,⟨BE,hE,qe,0⟩] sc pos) 0 it acc env=gI ⟨tg,iter,ifs,0⟩ (do
   let x <-eval hE env
   standAt hE.pos
   let x <-foldedSetIterable hE env x
   let _ <-runOwn (.compStart (.ListComp elt [⟨tg,iter,ifs,0⟩,⟨BE,hE,qe,0⟩] sc pos) 1 (<-holding [x] (pyIter x)) acc env) env) (.ListComp elt [⟨tg,iter,ifs,0⟩,⟨BE,hE,qe,0⟩] sc pos) 0 it acc env:=by
 simp only[compTurn,gI,bind_assoc,List.getElem?_cons_zero]
 rfl
section
variable {I:Nat->Bool}{X:Cx}{elt iter tg hE BE e:Expr}{ifs qe:List Expr}{ui VR:UI}{ue u1 ua:UB}{ug Q5 vo:UG}{ut Q4:UT}{sc:Scope}{pos jC py p:Pos}{ks N2:List Str}{y:Str}{k:Nat}
theorem wY(hI:VG I X (.Name y py) vo)(S:wM X sc ks N2)(hc:X.calm=true)(hi:VI X tg iter ui)(hg:∀C s H fp pins,VG (outs ks.length) (dE X sc (ks++N2) C s H fp pins) tg ug)(ht:∀C s H fp pins,Bk (dE X sc (ks++N2) C s H fp pins) ifs ut)(T4:∀C s H fp pins,VI (dE X sc (ks++N2) C s H fp pins) BE hE VR)(T7:∀C s H fp pins,VG (outs ks.length) (dE X sc (ks++N2) C s H fp pins) BE Q5)(Tq:∀C s H fp pins,Bk (dE X sc (ks++N2) C s H fp pins) qe Q4)(he:∀C s H fp pins,VE (dE X sc (ks++N2) C s H fp pins) elt ue)(hh:X.A.handled=none)(Cw:swapsWith (.ListComp elt [⟨tg,iter,ifs,0⟩,⟨BE,hE,qe,0⟩] sc pos) (some (.Name y py)) jC.line X.env=pure true)(Nn:∀C s H fp pins,(dE X sc (ks++N2) C s H fp pins).calm=true:=by intros;rfl)(Tj:∀C s H fp pins,(dE X sc (ks++N2) C s H fp pins).xe=(fun _ _=>False):=by intros;rfl)(hs:∀x,foldedSetIterable iter X.env x=pure x:=by intro _;rfl)(Tx:∀C s H fp pins x,foldedSetIterable hE (dE X sc (ks++N2) C s H fp pins).env x=pure x:=by intros;rfl):ko I X (.Assign [.Name y py] (.ListComp elt [⟨tg,iter,ifs,0⟩,⟨BE,hE,qe,0⟩] sc pos) jC) (aX (gf ks.length ui ug ut (iw VR Q5 Q4 (fM ue))) vo):=pE hI S hi hg ht (fun C s H fp pins=>Bu (e:=(.ListComp elt [⟨tg,iter,ifs,0⟩,⟨BE,hE,qe,0⟩] sc pos)) (d:=1) (qj (he C s H fp pins)) (T4 C s H fp pins) (T7 C s H fp pins) (Tq C s H fp pins) hh jY rfl (fun _ _=>rfl) (Nn C s H fp pins) (Tj C s H fp pins) (Tx C s H fp pins)) hc (fun _ _ _=>Jj) Cw hs
theorem vk(hI:VG I X (.Name y py) vo)(S:wM X sc ks N2)(hc:X.calm=true)(hi:VI X tg iter ui)(hg:∀C s H fp pins,VG (outs ks.length) (dE X sc (ks++N2) C s H fp pins) tg ug)(ht:∀C s H fp pins,Bk (dE X sc (ks++N2) C s H fp pins) ifs ut)(T4:∀C s H fp pins,VE (dE X sc (ks++N2) C s H fp pins) hE u1)(T7:∀C s H fp pins,VG (outs ks.length) (dE X sc (ks++N2) C s H fp pins) BE Q5)(Tq:∀C s H fp pins,Bk (dE X sc (ks++N2) C s H fp pins) qe Q4)(he:∀C s H fp pins,VE (dE X sc (ks++N2) C s H fp pins) elt ue)(hh:X.A.handled=none)(Cw:swapsWith (.ListComp elt [⟨tg,iter,ifs,0⟩,⟨BE,hE,qe,0⟩] sc pos) (some (.Name y py)) jC.line X.env=pure true)(Nn:∀C s H fp pins,(dE X sc (ks++N2) C s H fp pins).calm=true:=by intros;rfl)(Tj:∀C s H fp pins,(dE X sc (ks++N2) C s H fp pins).xe=(fun _ _=>False):=by intros;rfl)(hs:∀x,foldedSetIterable iter X.env x=pure x:=by intro _;rfl)(Tx:∀C s H fp pins x,foldedSetIterable hE (dE X sc (ks++N2) C s H fp pins).env x=pure x:=by intros;rfl):ko I X (.Assign [.Name y py] (.ListComp elt [⟨tg,iter,ifs,0⟩,⟨BE,hE,qe,0⟩] sc pos) jC) (aX (gf ks.length ui ug ut (iw (dQ dz u1) Q5 Q4 (fM ue))) vo):=pE hI S hi hg ht (fun C s H fp pins=>yK (e:=(.ListComp elt [⟨tg,iter,ifs,0⟩,⟨BE,hE,qe,0⟩] sc pos)) (d:=1) (qj (he C s H fp pins)) (T4 C s H fp pins) (T7 C s H fp pins) (Tq C s H fp pins) hh jY rfl (fun _ _=>rfl) (Nn C s H fp pins) (Tj C s H fp pins) (Tx C s H fp pins)) hc (fun _ _ _=>Jj) Cw hs
theorem YW(hm:X.mg "sorted" = none)(h:VE X e ua)(hr:dS k X.A:=by walk_at "e")(hg:Gl X "sorted":=by walk_at "b")(h1:aH e=true:=by rfl):VE X (.Call (.Name "sorted" p) [e] [] pos) (mO ua):=Bv hr.hd hg hm h h1
end
end VS
end
section
namespace VS
open PySem L2
section
variable {X:Cx}{iter tg kx vx:Expr}{ifs:List Expr}{ui:UI}{uk uv:UB}{ug:UG}{ut:UT}{sc:Scope}{pos:Pos}{ks N2:List Str}
theorem Dg(t:Bool)(hu:X.A.units+1<cLine)(S:wM X sc ks N2)(hc:X.calm=true)(hi:VI X tg iter ui)(hg:∀C s H fp pins,VG (outs ks.length) (dE X sc (ks++N2) C s H fp pins) tg ug)(ht:∀C s H fp pins,Bk (dE X sc (ks++N2) C s H fp pins) ifs ut)(hk:∀C s H fp pins,VE (dE X sc (ks++N2) C s H fp pins) kx uk)(hv:∀C s H fp pins,VE (dE X sc (ks++N2) C s H fp pins) vx uv)(hs:∀x,foldedSetIterable iter X.env x=pure x:=by intro _;rfl) :
  VE X (.DictComp kx vx [⟨tg,iter,ifs,0⟩] sc pos) (oi t ks.length ui ug ut (kR uk uv)):=by
 obtain⟨_,q,s⟩:=hi.ex
 exact⟨_,EH t (inner:=fun acc env=>do
    let kv <-eval kx env
    let vv <-holding [kv] (eval vx env)
    match acc with
    | .ref d=>do
     standAt {kx.pos with endLine:=vx.pos.endLine,endCol:=vx.pos.endCol}
     holding [kv,vv] (dictSet d kv vv)
    |_=>unsupported "internal:dictcomp") S hc q (fun _ _ _=>rfl) hs,B0 s (rY hg ht fun C s H fp pins=>w6 hu (hk C s H fp pins) (hv C s H fp pins))⟩
end
end VS
end
section
set_option maxHeartbeats 4000000
namespace ON
open PySem L2 VS
theorem MS{i j:Int}(h:-(2 ^ 64)<i)(h2:i<2 ^ 64):kr i j:=.inl ⟨h,h2⟩
theorem MR{i j:Int}(h:-(2 ^ 64)<j)(h2:j<2 ^ 64):kr i j:=.inr ⟨h,h2⟩
abbrev purse(x y:Int):D:=.lst true [.int x,.int y]
local macro_rules | `(tactic| walk_at "side") => `(tactic| first | ((with_reducible refine Eq.trans ?_ rfl); exact rfl) | (with_reducible exact trivial) | ((with_reducible apply Exists.intro); exact rfl) | (exact ⟨_, _, _, _, rfl⟩) | (with_reducible assumption) | omega | (simp only [bK, eu, e9, g9, jO, zk, Oh, K1, Ej, SR, SQ, p1, xx, HL, HK, HJ, SO, SN, tQ, Bool.and_self, Bool.not_false, Bool.and_true, Bool.true_and]; done) | (simp only [List.length_cons, List.length_nil]; omega) | (refine MS ?_ ?_ <;> omega) | (refine MR ?_ ?_ <;> omega) | (refine UK ?_ ?_ <;> omega))
local macro_rules | `(tactic| walk_at "u") => `(tactic| first
 |(simp only[ft,List.set_cons_zero,List.set_cons_succ,Int.reduceToNat,if_true,if_false,List.replicate,List.cons_append,List.nil_append,List.drop_succ_cons,List.drop_zero])
 |with_reducible refine VS.Wk.go ?_
 |((with_reducible apply And.intro);(walk_at "side"))
 |with_reducible apply Exists.intro
 |((with_reducible refine LZ ?_);refine And.intro (by simp only[List.length_cons,List.length_nil];omega) ?_;skip)
 |((with_reducible refine IQ ?_);refine And.intro (by simp only[List.length_cons,List.length_nil];omega) ?_;skip)
 |((with_reducible refine OO ?_);skip)
 |((with_reducible refine OM ?_);skip)
 |((with_reducible refine OP ?_ ?_);exact rfl)
 |((with_reducible refine OQ ?_ ?_);exact rfl)
 )
abbrev cH:List Bool:=[false,false]
def eO:fQ:=fun ds P=>∃c k,ds=[.int c,.int k]/\-(2 ^ 60)<k/\k<2 ^ 60/\∀r,0<=r->r<2147483563->P (.int r) [none,none]
def nW:US:=
 (aC (aX (aj (fI (fun _ j=>0<j) fun i j=>.int (i % j)) (aa 0) (uC (.int 2147483629))) (au 0))
 (aC (aX (aj (fI (fun _ j=>0<j) fun i j=>.int (i % j)) (aj (fI kr fun i j=>.int (i * j)) (aj (lN fun i j=>.int (i+j)) (aj (lN fun i j=>.int (i+j)) (aj (lN fun i j=>.int (i+j)) (aj (fI kr fun i j=>.int (i * j)) (aa 0) (aa 0)) (aj (fI kr fun i j=>.int (i * j)) (uC (.int 3)) (aa 0))) (aj (fI kr fun i j=>.int (i * j)) (uC (.int 7919)) (aa 1))) (uC (.int 1))) (uC (.int 48271))) (uC (.int 2147483629))) (au 2))
 (aC (aX (aj (fI (fun _ j=>0<j) fun i j=>.int (i % j)) (aj (lN fun i j=>.int (i+j)) (aj (fI kr fun i j=>.int (i * j)) (aa 2) (aa 2)) (uC (.int 7))) (uC (.int 2147483587))) (au 2))
 (bM (aj (fI (fun _ j=>0<j) fun i j=>.int (i % j)) (aj (fI kr fun i j=>.int (i * j)) (aa 2) (aj (lN fun i j=>.int (i+j)) (aa 2) (uC (.int 69621)))) (uC (.int 2147483563)))))))
theorem p8:∀ds P,ds.length=cH.length->eO ds P->nW (bC cH P) (az (3-cH.length) ds):=by
 rintro ds P - ⟨c,k,rfl,h1,h2,k⟩
 simp only[az,cH,List.map_cons,List.map_nil,List.length_cons,List.length_nil,Nat.reduceAdd,Nat.reduceSub,List.replicate,List.cons_append,List.nil_append]
 unfold nW
 repeat walk_at "u"
 exact k _ (by omega) (by omega)
abbrev aq:List Bool:=[true,false]
def aw:fQ:=fun ds P=>∃x y n,ds=[purse x y,.int n]/\0<n/\n<=2 ^ 62/\∀r z,0<=r->r<n->P (.int r) [some (purse z y),none]
def pU:US:=
 (aC (dn (aR (aj (kQ false) (aj dB (aa 0) (uC (.int 0))) (uC (.int 0))))
 (t_ 0 (uC (.int 0)) (aj dB (aa 0) (uC (.int 1))))
 cm)
 (aC (aX (aj (fI (fun _ j=>0<j) fun i j=>.int (i % j)) (aj dB (aa 0) (uC (.int 0))) (aa 1)) (au 2))
 (aC (t_ 0 (uC (.int 0)) (aj (fI vg fun i j=>.int (i / j)) (aj dB (aa 0) (uC (.int 0))) (aa 1)))
 (bM (a7 2)))))
theorem q_:∀ds P,ds.length=aq.length->aw ds P->pU (bC aq P) (az (3-aq.length) ds):=by
 rintro ds P - ⟨x,y,n,rfl,hn,RA,k⟩
 simp only[az,aq,List.map_cons,List.map_nil,List.length_cons,List.length_nil,Nat.reduceAdd,Nat.reduceSub,List.replicate,List.cons_append,List.nil_append]
 unfold pU
 repeat walk_at "u"
 with_reducible refine fD ?_ ?_
 ·intro h
  repeat walk_at "u"
  exact k _ _ (Int.emod_nonneg _ (by omega)) (Int.emod_lt_of_pos _ hn)
 ·intro h
  repeat walk_at "u"
  exact k _ _ (Int.emod_nonneg _ (by omega)) (Int.emod_lt_of_pos _ hn)
theorem kW{α β:Type}{f:α->β}{xs:List α}{a b:Option Int}:eQ (xs.map f) a b=(eQ xs a b).map f:=by simp[eQ,List.map_take,List.map_drop]
theorem sf{α:Type}{xs:List α}{a b:Option Int}:(eQ xs a b).length<=xs.length:=by simp[eQ];omega
theorem yp{α:Type}{xs:List α}{a b:Option Int}{x:α}(h:x∈eQ xs a b):x∈xs:=List.mem_of_mem_drop (List.mem_of_mem_take h)
theorem pw{xs:List Int}:a9 (xs.map .int)=true:=lB.mpr fun d h=>by obtain⟨i,_,rfl⟩:=List.mem_map.mp h;rfl
theorem fL{xs:List Int}:eA (xs.map .int)=xs.map .int:=by rw[nB,List.map_map];exact List.map_congr_left fun i _=>ie
theorem c7{xs:List Str}:a9 (xs.map .str)=true:=lB.mpr fun d h=>by obtain⟨i,_,rfl⟩:=List.mem_map.mp h;rfl
theorem xT{xs:List Str}:jR (xs.map .str)=true:=rD.mpr fun d h=>by obtain⟨i,_,rfl⟩:=List.mem_map.mp h;rfl
theorem el{xs:List Str}:eA (xs.map .str)=xs.map .str:=by rw[nB,List.map_map];exact List.map_congr_left fun i _=>i9
theorem oZ{n:Nat}{d:D}(h:d∈fq 0 n):∃i:Int,d=.int i/\0<=i/\i<n:=by
 simp only[fq,List.mem_map,List.mem_range] at h
 obtain⟨i,h,rfl⟩:=h
 exact⟨_,rfl,by omega,by omega⟩
theorem cv{x y n:Int}{P:D->ai->Prop}(h1:0<n)(h2:n<=2 ^ 62)(k:∀r z,0<=r->r<n->P (.int r) [some (purse z y),none]):aw [purse x y,.int n] P:=⟨x,y,n,rfl,h1,h2,k⟩
theorem IJ{c k:Int}{P:D->ai->Prop}(h1:-(2 ^ 60)<k)(h2:k<2 ^ 60)(q:∀r,0<=r->r<2147483563->P (.int r) [none,none]):eO [.int c,.int k] P:=⟨c,k,rfl,h1,h2,q⟩
abbrev dH:List Bool:=[false]
def gq(L:Addr->List Int->Prop):fQ:=fun ds P=>∃(ns:List Int) (d:D),ds=[d]/\(d=.lst false (ns.map .int)\/∃a,d=.fn a/\L a ns)/\ns.length<=100000/\∀x y,P (purse x y) [none]
def nS(L:Addr->List Int->Prop):US:=
 (aC (aX (aj CJ (GZ L (aa 0) ip (mQ (uC (.int 63)))) (cZ (ae (uC (.int 0)) ao))) (bx 1))
 (aC (aX (uC (.int 1)) (au 2))
 (aC (eR (fH (ae (uC (.int 150)) ao)) (au 3)
 (aX (aj (lN fun i j=>.int (i+j)) (aj (fI kr fun i j=>.int (i * j)) (aa 2) (uC (.int 2147483587))) (aA cH eO (ae (aj dB (aa 1) (aj (fI (fun _ j=>0<j) fun i j=>.int (i % j)) (aa 3) (qk kj (ae (aa 1) ao)))) (ae (aa 3) ao)))) (au 2)))
 (aC (dn (aR (aj (lN fun i j=>.bl (decide (j<=i))) (aj dB (aa 1) (uC (.int 0))) (aj (fI yB fun i j=>.int (i ^ j.toNat)) (uC (.int 10)) (uC (.int 18)))))
 (bM (cZ (ae (aj (fI vg fun i j=>.int (i / j)) (aj dB (aa 1) (uC (.int 0))) (aj (fI yB fun i j=>.int (i ^ j.toNat)) (uC (.int 10)) (uC (.int 18)))) (ae (a7 2) ao))))
 cm)
 (bM (cZ (ae (a7 2) (ae (a7 2) ao))))))))
theorem p6{L:Addr->List Int->Prop}:∀ds P,ds.length=dH.length->gq L ds P->nS L (bC dH P) (az (4-dH.length) ds):=by
 rintro ds P - ⟨ns,d,rfl,hd,hl,k⟩
 simp only[az,dH,List.map_cons,List.map_nil,List.length_cons,List.length_nil,Nat.reduceAdd,Nat.reduceSub,List.replicate,List.cons_append,List.nil_append]
 unfold nS
 have e0:eQ (ns.map D.int) none (some 63)++[.int 0]=(eQ ns none (some 63)++[0]).map D.int:=by rw[kW];simp
 have hc:(eQ ns none (some 63)).length<=ns.length:=sf
 have rest:∀d:D,(aC (aX (uC (.int 1)) (au 2))
 (aC (eR (fH (ae (uC (.int 150)) ao)) (au 3)
 (aX (aj (lN fun i j=>.int (i+j)) (aj (fI kr fun i j=>.int (i * j)) (aa 2) (uC (.int 2147483587))) (aA cH eO (ae (aj dB (aa 1) (aj (fI (fun _ j=>0<j) fun i j=>.int (i % j)) (aa 3) (qk kj (ae (aa 1) ao)))) (ae (aa 3) ao)))) (au 2)))
 (aC (dn (aR (aj (lN fun i j=>.bl (decide (j<=i))) (aj dB (aa 1) (uC (.int 0))) (aj (fI yB fun i j=>.int (i ^ j.toNat)) (uC (.int 10)) (uC (.int 18)))))
 (bM (cZ (ae (aj (fI vg fun i j=>.int (i / j)) (aj dB (aa 1) (uC (.int 0))) (aj (fI yB fun i j=>.int (i ^ j.toNat)) (uC (.int 10)) (uC (.int 18)))) (ae (a7 2) ao))))
 cm)
 (bM (cZ (ae (a7 2) (ae (a7 2) ao))))))) (bC [false] P) [some d,some (.lst false ((eQ ns none (some 63)++[0]).map .int)),none,none]:=by
  intro d
  generalize hC:eQ ns none (some 63)++[0]=C
  have hC1:0<C.length:=by rw[<-hC];simp
  have hC2:C.length<=200000:=by rw[<-hC];simp;omega
  repeat walk_at "u"
  refine bL (fun xs e=>(∀x∈xs,∃i:Int,x=.int i/\0<=i/\i<150)/\∃n o3,e=[some d,some (.lst false (C.map .int)),some (.int n),o3]) ?_ ?_ _ _ ⟨fun x h=>?_,_,_,rfl⟩
  ·rintro e ⟨-,n,o3,rfl⟩
   obtain⟨c0,_,hc0⟩:=nM (f:=D.int) (xs:=C) (k:=0) (by omega) (by omega)
   repeat walk_at "u"
   refine⟨⟨by decide,by decide,by decide⟩,?_⟩
   repeat walk_at "u"
   with_reducible refine fD ?_ ?_
   ·intro h
    repeat walk_at "u"
    refine⟨⟨by decide,by decide,by decide⟩,?_⟩
    repeat walk_at "u"
    exact k _ _
   ·intro h
    repeat walk_at "u"
    exact k _ _
  ·rintro x xs e ih ⟨hx,n,o3,rfl⟩
   obtain⟨i,rfl,i0,i1⟩:=hx x (.head _)
   have hl:(0:Int)<((C.map D.int).length:Int):=by rw[List.length_map];omega
   have hm:=Int.emod_nonneg i (b:=((C.map D.int).length:Int)) (by omega)
   have CY:=Int.emod_lt_of_pos i (b:=((C.map D.int).length:Int)) hl
   obtain⟨c,_,hc⟩:=nM (f:=D.int) (xs:=C) (k:=i % ((C.map D.int).length:Int)) hm (by rw[List.length_map] at CY ⊢;exact CY)
   repeat walk_at "u"
   refine IJ (by omega) (by omega) fun r r0 r1=>?_
   repeat walk_at "u"
   exact ih _ ⟨fun x h=>hx x (.tail _ h),_,_,rfl⟩
  ·obtain⟨i,rfl,a,b⟩:=oZ h
   exact⟨i,rfl,a,by simpa using b⟩
 generalize (aC (aX (uC (.int 1)) (au 2))
 (aC (eR (fH (ae (uC (.int 150)) ao)) (au 3)
 (aX (aj (lN fun i j=>.int (i+j)) (aj (fI kr fun i j=>.int (i * j)) (aa 2) (uC (.int 2147483587))) (aA cH eO (ae (aj dB (aa 1) (aj (fI (fun _ j=>0<j) fun i j=>.int (i % j)) (aa 3) (qk kj (ae (aa 1) ao)))) (ae (aa 3) ao)))) (au 2)))
 (aC (dn (aR (aj (lN fun i j=>.bl (decide (j<=i))) (aj dB (aa 1) (uC (.int 0))) (aj (fI yB fun i j=>.int (i ^ j.toNat)) (uC (.int 10)) (uC (.int 18)))))
 (bM (cZ (ae (aj (fI vg fun i j=>.int (i / j)) (aj dB (aa 1) (uC (.int 0))) (aj (fI yB fun i j=>.int (i ^ j.toNat)) (uC (.int 10)) (uC (.int 18)))) (ae (a7 2) ao))))
 cm)
 (bM (cZ (ae (a7 2) (ae (a7 2) ao)))))))=T at rest ⊢
 have Fu:=pw (xs:=ns)
 have wU:a9 (eQ (ns.map D.int) none (some 63))=true:=by rw[kW];exact pw
 have hb3:(eQ (ns.map D.int) none (some 63)).length + [D.int 0].length<=1000000:=by simp[kW];omega
 rcases hd with rfl|⟨a,rfl,hL⟩
 ·repeat walk_at "u"
  left
  repeat walk_at "u"
  rw[e0,bY,fL]
  exact rest _
 ·repeat walk_at "u"
  right
  refine⟨a,ns,rfl,hL,?_⟩
  repeat walk_at "u"
  rw[e0,bY,fL]
  exact rest _
inductive Part where|num (n:Int)|name (x:Str)
inductive aM where|one (p:Part)|two (o:Str) (p q:Part)
inductive ax where|put (x:Str) (w:aM)|tell (p:Part)
inductive End where|stop|go (a:Int)|choose (p:Part) (a b:Int)
abbrev cj:=List ax×End
def Part.d:Part->D | .num n=>.tup [.str "number",.int n] | .name x=>.tup [.str "name",.str x]
def aM.d:aM->D | .one p=>p.d | .two o p q=>.tup [.str o,p.d,q.d]
def ax.d:ax->D | .put x w=>.tup [.str "put",.str x,w.d] | .tell p=>.tup [.str "tell",p.d]
def End.d:End->D | .stop=>.tup [.str "stop"] | .go a=>.tup [.str "go",.int a] | .choose p a b=>.tup [.str "choose",p.d,.int a,.int b]
def aN(o:Bool)(b:cj):D:=.tup [.lst o (b.1.map ax.d),b.2.d]
def aY(o:Bool)(m:Int)(bs:List cj):D:=.tup [.int m,.lst o (bs.map (aN o))]
def Part.ok(xs:List Str)(m:Int):Part->Prop | .num n=>0<=n/\n<m | .name x=>x∈xs
def dY:List Str:=["plus", "less", "times", "below", "same"]
def aM.ok(xs:List Str)(m:Int):aM->Prop | .one p=>p.ok xs m | .two o p q=>o∈dY/\p.ok xs m/\q.ok xs m
def ax.ok(xs:List Str)(m:Int):ax->Prop | .put x w=>x∈xs/\w.ok xs m | .tell p=>p.ok xs m
def End.ok(xs:List Str)(m many:Int):End->Prop | .stop=>True | .go a=>0<=a/\a<many | .choose p a b=>p.ok xs m/\0<=a/\a<many/\0<=b/\b<many
def cj.ok(xs:List Str)(m many:Int)(b:cj):Prop:=b.1.length<=8/\(∀d∈b.1,d.ok xs m)/\b.2.ok xs m many
def ig(xs:List Str)(m:Int)(bs:List cj):Prop:=∀b∈bs,cj.ok xs m bs.length b
theorem Part.bare(p:Part):VS.bare p.d=true:=by cases p<;>rfl
theorem Part.eX(p:Part):VS.eX p.d=true:=by cases p<;>rfl
theorem Part.aU(p:Part):VS.aU p.d=p.d:=by cases p<;>simp only[Part.d,jN,e_,fK,ie,i9]
theorem aM.bare(w:aM):VS.bare w.d=true:=by cases w<;>simp only[aM.d,Part.bare,zk,bK,eu,Ej,Bool.and_self]
theorem aM.eX(w:aM):VS.eX w.d=true:=by cases w<;>simp only[aM.d,Part.eX,xx,e9,g9,HJ,Bool.and_self]
theorem aM.aU(w:aM):VS.aU w.d=w.d:=by cases w<;>simp only[aM.d,Part.aU,jN,e_,fK,ie,i9]
theorem ax.bare(w:ax):VS.bare w.d=true:=by cases w<;>simp only[ax.d,Part.bare,aM.bare,zk,bK,eu,Ej,Bool.and_self]
theorem ax.eX(w:ax):VS.eX w.d=true:=by cases w<;>simp only[ax.d,Part.eX,aM.eX,xx,e9,g9,HJ,Bool.and_self]
theorem ax.aU(w:ax):VS.aU w.d=w.d:=by cases w<;>simp only[ax.d,Part.aU,aM.aU,jN,e_,fK,ie,i9]
theorem End.bare(w:End):VS.bare w.d=true:=by cases w<;>simp only[End.d,Part.bare,zk,bK,eu,K1,Ej,Bool.and_self]
theorem End.eX(w:End):VS.eX w.d=true:=by cases w<;>simp only[End.d,Part.eX,xx,e9,g9,HK,HJ,Bool.and_self]
theorem End.aU(w:End):VS.aU w.d=w.d:=by cases w<;>simp only[End.d,Part.aU,jN,e_,fK,ie,i9]
theorem bG{α:Type}{f:α->D}(h:∀a,VS.bare (f a)=true){xs:List α}:a9 (xs.map f)=true:=lB.mpr fun d hd=>by obtain⟨i,_,rfl⟩:=List.mem_map.mp hd;exact h i
theorem eW{α:Type}{f:α->D}(h:∀a,VS.eX (f a)=true){xs:List α}:jR (xs.map f)=true:=rD.mpr fun d hd=>by obtain⟨i,_,rfl⟩:=List.mem_map.mp hd;exact h i
theorem aV{α:Type}{f g:α->D}(h:∀a,VS.aU (f a)=g a){xs:List α}:eA (xs.map f)=xs.map g:=by rw[nB,List.map_map];exact List.map_congr_left fun i _=>h i
theorem cy(b:cj):VS.bare (aN false b)=true:=by simp only[aN,jO,zk,bK,eu,bG ax.bare,End.bare,Bool.not_false,Bool.and_self]
theorem Je(b:cj):VS.eX (aN true b)=true:=by simp only[aN,p1,xx,e9,g9,eW ax.eX,End.eX,Bool.and_self]
theorem fw(o:Bool)(b:cj):VS.aU (aN o b)=aN false b:=by simp only[aN,bY,jN,e_,fK,aV ax.aU,End.aU]
theorem uB(m:Int)(bs:List cj):VS.bare (aY false m bs)=true:=by simp only[aY,jO,zk,K1,bK,eu,bG cy,Bool.not_false,Bool.and_self]
theorem Ex(m:Int)(bs:List cj):VS.eX (aY true m bs)=true:=by simp only[aY,p1,xx,HK,e9,g9,eW Je,Bool.and_self]
theorem dZ(o:Bool)(m:Int)(bs:List cj):VS.aU (aY o m bs)=aY false m bs:=by simp only[aY,bY,jN,ie,e_,fK,aV (fw o)]
def lets(x:Str):Prop:=∀c∈x.cps.toList,97<=c/\c<=122
def lK(x:Str):Prop:=1<=x.length/\x.length<=6/\lets x
def S5(x:Str):Prop:=1<=x.length/\x.length<=5/\lets x
theorem xZ{x y:Str}(h:lets x)(h':lets y):lets (x++y):=fun c hc=>by
 have:c∈(x.cps++y.cps).toList:=hc
 rw[Array.toList_append,List.mem_append] at this
 exact this.elim (h c) (h' c)
theorem E3{c:Nat}(h:97<=c/\c<=122):lets ⟨#[c]⟩:=fun d hd=>by
 have:d=c:=by simpa using hd
 rw[this];exact h
theorem LA{x:Str}{c:Nat}(h:x.length<=4)(h1:lets x)(h2:97<=c/\c<=122):S5 (x++⟨#[c]⟩):=by
 refine⟨?_,?_,xZ h1 (E3 h2)⟩<;>rw[strLen_append]<;>have:Str.length ⟨#[c]⟩=1:=rfl<;>omega
theorem lK.str{x:Str}(h:lK x):PyData.strOk x=true:=by
 unfold PyData.strOk
 rw[<-Array.all_toList,List.all_eq_true]
 intro c hc
 have:=(h.2.2 c hc).2
 simp only[decide_eq_true_eq];omega
theorem uL{r:Int}(h:0<=r)(h2:r<26):∃c,il (("abcdefghijklmnopqrstuvwxyz":Str).cps.toList) r=some c/\(97<=c/\c<=122):=by
 have Fv:∀c∈("abcdefghijklmnopqrstuvwxyz":Str).cps.toList,97<=c/\c<=122:=by decide +kernel
 have hl:(("abcdefghijklmnopqrstuvwxyz":Str).cps.toList).length=26:=by decide +kernel
 obtain⟨x,hx,e⟩:=MJ (xs:=(("abcdefghijklmnopqrstuvwxyz":Str).cps.toList)) h (by rw[hl];exact h2)
 exact⟨x,e,Fv x hx⟩
theorem Iv{c:Nat}{n:Int}(h:0<=n)(h2:n<5):(Txt.mul ⟨#[c]⟩ n).length<=4:=by
 have:n=0\/n=1\/n=2\/n=3\/n=4:=by omega
 rcases this with rfl|rfl|rfl|rfl|rfl
 ·exact(by decide:(0:Nat)<=4)
 ·exact(by decide:(1:Nat)<=4)
 ·exact(by decide:(2:Nat)<=4)
 ·exact(by decide:(3:Nat)<=4)
 ·exact(by decide:(4:Nat)<=4)
theorem EX{c:Nat}{n:Int}(h:0<=n)(h2:n<5)(hc:97<=c/\c<=122):lets (Txt.mul ⟨#[c]⟩ n):=by
 have:n=0\/n=1\/n=2\/n=3\/n=4:=by omega
 intro d hd
 rcases this with rfl|rfl|rfl|rfl|rfl
 ·have:d∈([]:List Nat):=hd
  cases this
 ·have:d∈[c]:=hd
  simp at this;omega
 ·have:d∈[c,c]:=hd
  simp at this;omega
 ·have:d∈[c,c,c]:=hd
  simp at this;omega
 ·have:d∈[c,c,c,c]:=hd
  simp at this;omega
abbrev dI:List Bool:=[true]
def gr:fQ:=fun ds P=>∃x y,ds=[purse x y]/\∀(xs:List Str) z,0<xs.length->xs.length<=20->(∀x∈xs,lK x)->P (.lst true (xs.map .str)) [some (purse z y)]
def nV:US:=
 (aC (aX (uC (.str "abcdefghijklmnopqrstuvwxyz")) (au 1))
 (aC (aX (aj FE (aj zT (aa 1) (aA aq aw (ae (aa 0) (ae (uC (.int 26)) ao)))) (aA aq aw (ae (aa 0) (ae (uC (.int 5)) ao)))) (au 2))
 (aC (aX (aA aq aw (ae (aa 0) (ae (uC (.int 26)) ao))) (au 3))
 (aC (aX (aj CJ (gf 1 (fH (ae (uC (.int 3)) ao)) (au 0) l6 (fM (aj uU (aa 3) (aj zT (aa 2) (aj (fI (fun _ j=>0<j) fun i j=>.int (i % j)) (aj (lN fun i j=>.int (i+j)) (aa 4) (aj (fI kr fun i j=>.int (i * j)) (uC (.int 5)) (aa 0))) (uC (.int 26))))))) (cZ (ae (aj uU (aa 2) (uC (.str "ab"))) ao))) (au 4))
 (aC (dn (aR (aj (kQ false) (aA aq aw (ae (aa 0) (ae (uC (.int 16)) ao))) (uC (.int 0))))
 (bM (gf 1 (fH (ae (uC (.int 20)) ao)) (au 0) l6 (fM (aj uU (aa 3) (aj zT (aa 2) (aj (fI (fun _ j=>0<j) fun i j=>.int (i % j)) (aj (lN fun i j=>.int (i+j)) (aa 4) (aj (fI kr fun i j=>.int (i * j)) (uC (.int 5)) (aa 0))) (uC (.int 26))))))))
 cm)
 (bM (NV (aa 4) ip (mQ (aj (lN fun i j=>.int (i+j)) (uC (.int 1)) (aA aq aw (ae (aa 0) (ae (uC (.int 4)) ao))))))))))))
theorem p7:∀ds P,ds.length=dI.length->gr ds P->nV (bC dI P) (az (5-dI.length) ds):=by
 rintro ds P - ⟨x,y,rfl,k⟩
 simp only[az,dI,List.map_cons,List.map_nil,List.length_cons,List.length_nil,Nat.reduceAdd,Nat.reduceSub,List.replicate,List.cons_append,List.nil_append]
 unfold nV
 repeat walk_at "u"
 refine cv (by omega) (by omega) fun r z r0 r1=>?_
 obtain⟨c,hc,wk⟩:=uL r0 r1
 have aaW:Str.length "abcdefghijklmnopqrstuvwxyz" <= 1000000:=by decide +kernel
 repeat walk_at "u"
 refine cv (by omega) (by omega) fun r z r0 r1=>?_
 have hs:=Iv (c:=c) r0 r1
 have zO:=EX r0 r1 wk
 have h1:Str.length ⟨#[c]⟩<=1000:=(by decide:(1:Nat)<=1000)
 repeat walk_at "u"
 generalize Txt.mul ⟨#[c]⟩ r=qK at hs zO ⊢
 refine cv (by omega) (by omega) fun base z b0 b1=>?_
 have comp:∀(K:List D->ai->Prop) (N:Nat) (z:Int) (o4:Option D),N<=20->(∀ys:List Str,ys.length=N->(∀y∈ys,S5 y)->∀o,K (ys.map .str) [o,some (purse z y),some (.str "abcdefghijklmnopqrstuvwxyz"),some (.str qK),some (.int base),o4]) ->
   ∀(xs:List D) (acc:List D) (e:ai),((∀x∈xs,∃i:Int,x=.int i/\0<=i/\i<20)/\∃ys:List Str,acc=ys.map .str/\ys.length+xs.length=N/\(∀y∈ys,S5 y)/\∃o,e=[o,some (purse z y),some (.str "abcdefghijklmnopqrstuvwxyz"),some (.str qK),some (.int base),o4]) ->
   eD (au 0) l6 (fM (aj uU (aa 3) (aj zT (aa 2) (aj (fI (fun _ j=>0<j) fun i j=>.int (i % j)) (aj (lN fun i j=>.int (i+j)) (aa 4) (aj (fI kr fun i j=>.int (i * j)) (uC (.int 5)) (aa 0))) (uC (.int 26)))))) K xs acc e:=by
  intro K N z o4 hN hK
  refine eZ _ ?_ ?_
  ·rintro acc e ⟨_,ys,rfl,h1,h2,o,rfl⟩
   exact hK ys (by simpa using h1) h2 o
  ·rintro x xs acc e ih ⟨hx,ys,rfl,h1,h2,o,rfl⟩
   obtain⟨i,rfl,i0,i1⟩:=hx x (.head _)
   obtain⟨c,hc,wk⟩:=uL (r:=(base+5 * i) % 26) (by omega) (by omega)
   have hc1:Str.length ⟨#[c]⟩=1:=rfl
   have ha:qK.length+Str.length ⟨#[c]⟩<=1000000:=by omega
   have hy:(ys.map D.str).length<=1000000:=by rw[List.length_map];simp at h1;omega
   repeat walk_at "u"
   refine ih _ _ ⟨fun x h=>hx x (.tail _ h),ys++[qK++⟨#[c]⟩],by simp,by simp at h1 ⊢;omega,fun y h=>?_,_,rfl⟩
   rcases List.mem_append.mp h with h|h
   ·exact h2 y h
   ·rw[List.mem_singleton.mp h]
    exact LA hs zO wk
 have Na:∀N:Nat,N<=20->∀x∈fq 0 N,∃i:Int,x=.int i/\0<=i/\i<20:=fun N hN x h=>by obtain⟨i,e,a,b⟩:=oZ h;exact⟨i,e,a,by omega⟩
 repeat walk_at "u"
 refine comp _ 3 z none (by decide) (fun ys l1 l2 o=>?_) _ _ _ ⟨Na 3 (by decide),[],rfl,rfl,fun y h=>by simp at h,_,rfl⟩
 have Nr:Str.length "ab" = 2:=by decide +kernel
 have ha:qK.length+Str.length "ab" <= 1000000:=by omega
 have hb:=c7 (xs:=ys)
 have wU:(ys.map D.str).length + [D.str (qK ++ "ab")].length<=1000000:=by simp;omega
 have e0:ys.map D.str++[.str (qK ++ "ab")]=(ys++[qK ++ "ab"]).map D.str:=by simp
 simp only[List.drop_succ_cons,List.drop_zero]
 repeat walk_at "u"
 rw[e0]
 have hY:∀y∈ys++[qK ++ "ab"],lK y:=fun y h=>by
  rcases List.mem_append.mp h with h|h
  ·have:=l2 y h;exact⟨this.1,Nat.le_succ_of_le this.2.1,this.2.2⟩
  ·rw[List.mem_singleton.mp h]
   refine⟨by rw[strLen_append];omega,by rw[strLen_append];omega,xZ zO (by decide +kernel:∀c∈("ab":Str).cps.toList,97<=c/\c<=122)⟩
 have Xb:(ys++[qK ++ "ab"]).length=4:=by simp[l1]
 generalize ys++[qK ++ "ab"]=Y at hY Xb ⊢
 have hbY:=c7 (xs:=Y)
 refine cv (by omega) (by omega) fun r z r0 r1=>?_
 repeat walk_at "u"
 with_reducible refine fD ?_ ?_
 ·intro h
  repeat walk_at "u"
  refine comp _ 20 z _ (by decide) (fun ys l1 l2 o=>?_) _ _ _ ⟨Na 20 (by decide),[],rfl,rfl,fun y h=>by simp at h,_,rfl⟩
  repeat walk_at "u"
  exact k ys z (by omega) (by omega) fun y h=>by have:=l2 y h;exact⟨this.1,Nat.le_succ_of_le this.2.1,this.2.2⟩
 ·intro h
  repeat walk_at "u"
  refine cv (by omega) (by omega) fun r z r0 r1=>?_
  repeat walk_at "u"
  rw[kW]
  have hlen:0<(eQ Y none (some (1+r))).length:=by
   have:r=0\/r=1\/r=2\/r=3:=by omega
   match Y,Xb with
   | [a,b,c,d],_=>rcases this with rfl|rfl|rfl|rfl<;>exact Nat.zero_lt_succ _
  exact k _ z hlen (by have:=sf (xs:=Y) (a:=none) (b:=some (1+r));omega) fun y h=>hY y (yp h)
abbrev bP:List Bool:=[true,false,false]
def cW:fQ:=fun ds P=>∃x y xs m,ds=[purse x y,.lst false (List.map .str xs),.int m]/\0<xs.length/\xs.length<=1000/\2<=m/\m<=2 ^ 62/\∀(p:Part) z,p.ok xs m->P p.d [some (purse z y),none,none]
def pT:US:=
 (aC (dn (aR (aj (kQ false) (aA aq aw (ae (aa 0) (ae (uC (.int 3)) ao))) (uC (.int 0))))
 (bM (gE (ae (uC (.str "number")) (ae (aj dB (cZ (ae (uC (.int 0)) (ae (uC (.int 1)) (ae (aj (lN fun i j=>.int (i-j)) (aa 2) (uC (.int 1))) (ae (aA aq aw (ae (aa 0) (ae (aa 2) ao))) ao))))) (aA aq aw (ae (aa 0) (ae (uC (.int 4)) ao)))) ao))))
 cm)
 (bM (gE (ae (uC (.str "name")) (ae (aj dB (aa 1) (aA aq aw (ae (aa 0) (ae (qk kj (ae (aa 1) ao)) ao)))) ao)))))
theorem q9:∀ds P,ds.length=bP.length->cW ds P->pT (bC bP P) (az (3-bP.length) ds):=by
 rintro ds P - ⟨x,y,xs,m,rfl,h1,h2,h3,h4,k⟩
 simp only[az,bP,List.map_cons,List.map_nil,List.length_cons,List.length_nil,Nat.reduceAdd,Nat.reduceSub,List.replicate,List.cons_append,List.nil_append]
 unfold pT
 repeat walk_at "u"
 refine cv (by omega) (by omega) fun r z r0 r1=>?_
 repeat walk_at "u"
 with_reducible refine fD ?_ ?_
 ·intro h
  repeat walk_at "u"
  refine cv (by omega) (by omega) fun a z a0 a1=>?_
  repeat walk_at "u"
  refine cv (by omega) (by omega) fun b z b0 b1=>?_
  have hx:∃n:Int,il [D.int 0,D.int 1,D.int (m-1),D.int a] b=some (.int n)/\0<=n/\n<m:=by
   have:b=0\/b=1\/b=2\/b=3:=by omega
   rcases this with rfl|rfl|rfl|rfl
   ·exact⟨0,rfl,by omega,by omega⟩
   ·exact⟨1,rfl,by omega,by omega⟩
   ·exact⟨m-1,rfl,by omega,by omega⟩
   ·exact⟨a,rfl,by omega,by omega⟩
  obtain⟨n,hn,n0,n1⟩:=hx
  repeat walk_at "u"
  exact k (.num n) z ⟨n0,n1⟩
 ·intro h
  have hl:(0:Int)<((xs.map D.str).length:Int):=by rw[List.length_map];omega
  have rV:((xs.map D.str).length:Int)<=2 ^ 62:=by rw[List.length_map];omega
  repeat walk_at "u"
  refine cv hl rV fun a z a0 a1=>?_
  obtain⟨s,hs,e⟩:=nM (f:=D.str) (xs:=xs) a0 (by simpa using a1)
  repeat walk_at "u"
  exact k (.name s) z hs
theorem we{x y m:Int}{xs:List Str}{P:D->ai->Prop}(h1:0<xs.length)(h2:xs.length<=1000)(h3:2<=m)(h4:m<=2 ^ 62)(k:∀(p:Part) z,p.ok xs m->P p.d [some (purse z y),none,none]):cW [purse x y,.lst false (xs.map .str),.int m] P:=⟨x,y,xs,m,rfl,h1,h2,h3,h4,k⟩
abbrev cG:List Bool:=[true,false,false]
def eM:fQ:=fun ds P=>∃x y xs m,ds=[purse x y,.lst false (List.map .str xs),.int m]/\0<xs.length/\xs.length<=1000/\2<=m/\m<=2 ^ 62/\∀(w:aM) z,w.ok xs m->P w.d [some (purse z y),none,none]
def nR:US:=
 (aC (aX (aA aq aw (ae (aa 0) (ae (uC (.int 8)) ao))) (au 3))
 (aC (aX (aA bP cW (ae (aa 0) (ae (aa 1) (ae (aa 2) ao)))) (bx 4))
 (aC (dn (aR (aj (lN fun i j=>.bl (decide (i<j))) (aa 3) (uC (.int 2))))
 (bM (a7 4))
 cm)
 (bM (gE (ae (aj dB (cZ (ae (uC (.str "plus")) (ae (uC (.str "less")) (ae (uC (.str "times")) (ae (uC (.str "below")) (ae (uC (.str "same")) (ae (uC (.str "plus")) ao))))))) (aj (lN fun i j=>.int (i-j)) (aa 3) (uC (.int 2)))) (ae (a7 4) (ae (aA bP cW (ae (aa 0) (ae (aa 1) (ae (aa 2) ao)))) ao))))))))
theorem p5:∀ds P,ds.length=cG.length->eM ds P->nR (bC cG P) (az (5-cG.length) ds):=by
 rintro ds P - ⟨x,y,xs,m,rfl,h1,h2,h3,h4,k⟩
 simp only[az,cG,List.map_cons,List.map_nil,List.length_cons,List.length_nil,Nat.reduceAdd,Nat.reduceSub,List.replicate,List.cons_append,List.nil_append]
 unfold nR
 repeat walk_at "u"
 refine cv (by omega) (by omega) fun w z w0 w1=>?_
 have eN:aU (.lst false (xs.map D.str))=.lst false (xs.map D.str):=by rw[bY,el]
 repeat walk_at "u"
 rw[eN]
 repeat walk_at "u"
 refine we h1 h2 h3 h4 fun p z hp=>?_
 have JO:=p.eX
 have IV:=p.bare
 repeat walk_at "u"
 rw[p.aU]
 repeat walk_at "u"
 with_reducible refine fD ?_ ?_
 ·intro h
  repeat walk_at "u"
  exact k (.one p) z hp
 ·intro h
  have hw:∃o:Str,il [D.str "plus",D.str "less",D.str "times",D.str "below",D.str "same",D.str "plus"] (w-2)=some (.str o)/\o∈dY:=by
   have h:=of_decide_eq_false h
   have:w=2\/w=3\/w=4\/w=5\/w=6\/w=7:=by omega
   rcases this with rfl|rfl|rfl|rfl|rfl|rfl
   ·exact⟨_,rfl,by simp[dY]⟩
   ·exact⟨_,rfl,by simp[dY]⟩
   ·exact⟨_,rfl,by simp[dY]⟩
   ·exact⟨_,rfl,by simp[dY]⟩
   ·exact⟨_,rfl,by simp[dY]⟩
   ·exact⟨_,rfl,by simp[dY]⟩
  obtain⟨o,ho,hm⟩:=hw
  repeat walk_at "u"
  rw[eN]
  refine we h1 h2 h3 h4 fun q z hq=>?_
  have hqn:=q.eX
  repeat walk_at "u"
  exact k (.two o p q) z ⟨hm,hp,hq⟩
abbrev cf:List Bool:=[true,false,false,false,false]
def dO:fQ:=fun ds P=>∃x y xs m b many,ds=[purse x y,.lst false (List.map .str xs),.int m,.int b,.int many]/\0<xs.length/\xs.length<=1000/\2<=m/\m<=2 ^ 62/\0<=b/\0<many/\many<=2 ^ 62/\∀(w:End) z,w.ok xs m many->P w.d [some (purse z y),none,none,none,none]
def l3:US:=
 (aC (aX (aA aq aw (ae (aa 0) (ae (uC (.int 7)) ao))) (au 5))
 (aC (aX (aj dB (cZ (ae (aj (fI (fun _ j=>0<j) fun i j=>.int (i % j)) (aj (lN fun i j=>.int (i+j)) (aa 3) (uC (.int 1))) (aa 4)) (ae (aA aq aw (ae (aa 0) (ae (aa 4) ao))) ao))) (aA aq aw (ae (aa 0) (ae (uC (.int 2)) ao)))) (au 6))
 (aC (aX (aj dB (cZ (ae (aj (fI (fun _ j=>0<j) fun i j=>.int (i % j)) (aj (lN fun i j=>.int (i+j)) (aa 3) (uC (.int 1))) (aa 4)) (ae (aA aq aw (ae (aa 0) (ae (aa 4) ao))) ao))) (aA aq aw (ae (aa 0) (ae (uC (.int 2)) ao)))) (au 7))
 (aC (dn (aR (aj (kQ false) (aa 5) (uC (.int 0))))
 (bM (gE (ae (uC (.str "stop")) ao)))
 cm)
 (aC (dn (aR (aj (lN fun i j=>.bl (decide (i<j))) (aa 5) (uC (.int 3))))
 (bM (gE (ae (uC (.str "go")) (ae (a7 6) ao))))
 cm)
 (bM (gE (ae (uC (.str "choose")) (ae (aA bP cW (ae (aa 0) (ae (aa 1) (ae (aa 2) ao)))) (ae (a7 6) (ae (a7 7) ao)))))))))))
theorem oE:∀ds P,ds.length=cf.length->dO ds P->l3 (bC cf P) (az (8-cf.length) ds):=by
 rintro ds P - ⟨x,y,xs,m,b,many,rfl,h1,h2,h3,h4,b0,WR,hm1,k⟩
 simp only[az,cf,List.map_cons,List.map_nil,List.length_cons,List.length_nil,Nat.reduceAdd,Nat.reduceSub,List.replicate,List.cons_append,List.nil_append]
 unfold l3
 have eN:aU (.lst false (xs.map D.str))=.lst false (xs.map D.str):=by rw[bY,el]
 have JR:=Int.emod_nonneg (b+1) (b:=many) (by omega)
 have Fu:=Int.emod_lt_of_pos (b+1) (b:=many) WR
 have pick:∀a c:Int,0<=a->a<many->0<=c->c<2->∃n:Int,il [D.int ((b+1) % many),D.int a] c=some (.int n)/\0<=n/\n<many:=fun a c a0 a1 c0 c1=>by
  have:c=0\/c=1:=by omega
  rcases this with rfl|rfl
  ·exact⟨_,rfl,JR,Fu⟩
  ·exact⟨_,rfl,a0,a1⟩
 repeat walk_at "u"
 refine cv (by omega) (by omega) fun w z w0 w1=>?_
 repeat walk_at "u"
 refine cv (by omega) (by omega) fun a z a0 a1=>?_
 repeat walk_at "u"
 refine cv (by omega) (by omega) fun c z c0 c1=>?_
 obtain⟨one,e1,o0,o1⟩:=pick a c a0 a1 c0 c1
 repeat walk_at "u"
 refine cv (by omega) (by omega) fun a z a0 a1=>?_
 repeat walk_at "u"
 refine cv (by omega) (by omega) fun c z c0 c1=>?_
 obtain⟨two,e2,t0,t1⟩:=pick a c a0 a1 c0 c1
 repeat walk_at "u"
 with_reducible refine fD ?_ ?_
 ·intro h
  repeat walk_at "u"
  exact k .stop z trivial
 ·intro h
  repeat walk_at "u"
  with_reducible refine fD ?_ ?_
  ·intro h
   repeat walk_at "u"
   exact k (.go one) z ⟨o0,o1⟩
  ·intro h
   repeat walk_at "u"
   rw[eN]
   refine we h1 h2 h3 h4 fun q z hq=>?_
   have hqn:=q.eX
   repeat walk_at "u"
   exact k (.choose q one two) z ⟨hq,o0,o1,t0,t1⟩
def sD{α:Type}(f:α->D)(o:Bool)(l:List (Str×α)):D:=.cB o false (l.map fun p=>.s (.inr p.1)) (l.map fun p=>f p.2)
def dg{α:Type}:List (Str×α)->Str->α->List (Str×α)
 | [],x,v=>[(x,v)]
 |(y,u)::l,x,v=>if y=x then(y,v)::l else(y,u)::dg l x v
theorem wB{α:Type}{f:α->D}(x:Str):∀l:List (Str×α),bO (l.map fun p=>DK.s (.inr p.1)) (l.map fun p=>f p.2) (.s (.inr x))=(l.lookup x).map f
 | []=>rfl
 |(y,u)::l=>by
  simp only[List.map_cons,bO,List.lookup_cons]
  by_cases e:y=x
  ·subst e;simp
  ·have:(x==y)=false:=by simpa using Ne.symm e
   rw[if_neg (by simpa using e),this,wB x l]
theorem kS{α:Type}{f:α->D}(x:Str)(v:α):∀l:List (Str×α),dput (l.map fun p=>DK.s (.inr p.1)) (l.map fun p=>f p.2) (.s (.inr x)) (f v)=((dg l x v).map (fun p=>DK.s (.inr p.1)),(dg l x v).map fun p=>f p.2)
 | []=>rfl
 |(y,u)::l=>by
  simp only[List.map_cons,dput,dg]
  by_cases e:y=x
  ·subst e;simp
  ·rw[if_neg (by simpa using e),if_neg e,kS x v l];rfl
theorem iC{α:Type}(x:Str)(v:α):∀l:List (Str×α),(dg l x v).length<=l.length+1
 | []=>by simp[dg]
 |(y,u)::l=>by
  simp only[dg]
  split
  ·simp
  ·simp;exact iC x v l
theorem qL{α:Type}{x:Str}{v:α}{q:Str×α}:∀{l:List (Str×α)},q∈dg l x v->q∈l\/q.2=v
 | [],h=>by simp[dg] at h;exact .inr (by rw[h])
 |(y,u)::l,h=>by
  simp only[dg] at h
  split at h
  ·rcases List.mem_cons.mp h with h|h
   ·exact .inr (by rw[h])
   ·exact .inl (.tail _ h)
  ·rcases List.mem_cons.mp h with h|h
   ·exact .inl (by rw[h];exact .head _)
   ·exact(qL h).imp (.tail _) id
theorem uo{α:Type}(x z:Str)(v:α):∀l:List (Str×α),(dg l x v).lookup z=if z=x then some v else l.lookup z
 | []=>by
  simp only[dg,List.lookup_cons,List.lookup_nil]
  by_cases e:z=x
  ·simp[e]
  ·have:(z==x)=false:=by simpa using e
   simp[this,e]
 |(y,u)::l=>by
  simp only[dg]
  by_cases e:y=x
  ·subst e
   rw[if_pos rfl]
   simp only[List.lookup_cons]
   by_cases q:z=y
   ·simp[q]
   ·have:(z==y)=false:=by simpa using q
    simp[this,q]
  ·rw[if_neg e]
   simp only[List.lookup_cons]
   by_cases q:z=y
   ·subst q;simp[e]
   ·have:(z==y)=false:=by simpa using q
    rw[this,uo x z v l]
abbrev dR:=sD D.int
abbrev cS:=List (Str×Int)
theorem gA(o:Bool)(W:cS):VS.aU (dR o W)=dR false W:=by
 simp only[dR,sD,zj]
 rw[aV (f:=fun p:Str×Int=>D.int p.2) (g:=fun p=>D.int p.2) fun _=>ie]
theorem uV(W:cS):a9 (W.map fun p=>D.int p.2)=true:=bG fun _=>rfl
theorem Ba(W:cS):VS.eX (dR true W)=true:=by simp only[dR,sD,HL,eW (f:=fun p:Str×Int=>D.int p.2) (fun _=>rfl)];rfl
theorem x9(T:List Int):VS.eX (.lst true (T.map .int))=true:=by simp only[p1,eW (f:=D.int) (fun _=>rfl)];rfl
def look(W:cS)(x:Str):Int:=(W.lookup x).getD 0
def Part.val(W:cS):Part->Int | .num n=>n | .name x=>look W x
def j5(o:Str)(a b m:Int):Int:=if o = "plus" then(a+b) % m else if o = "less" then(a-b) % m else if o = "times" then a * b % m else if o = "below" then(if a<b then 1 else 0) else(if a=b then 1 else 0)
def aM.val(m:Int)(W:cS):aM->Int | .one p=>p.val W | .two o p q=>j5 o (p.val W) (q.val W) m
def i5(m:Int)(s:cS×List Int):ax->cS×List Int | .put x w=>(dg s.1 x (w.val m s.1),s.2) | .tell p=>(s.1,s.2++[p.val s.1])
def bu(m:Int)(dl:List ax)(s:cS×List Int):cS×List Int:=dl.foldl (i5 m) s
def End.next(W:cS):End->Int | .stop=>-1 | .go a=>a | .choose p a b=>if p.val W=0 then b else a
def Part.nb(m:Int):Part->Prop | .num n=>0<=n/\n<m | .name _=>True
def aM.nb(m:Int):aM->Prop | .one p=>p.nb m | .two o p q=>o∈dY/\p.nb m/\q.nb m
def ax.nb(m:Int):ax->Prop | .put _ w=>w.nb m | .tell p=>p.nb m
def End.nb(m many:Int):End->Prop | .stop=>True | .go a=>0<=a/\a<many | .choose p a b=>p.nb m/\0<=a/\a<many/\0<=b/\b<many
def zo(m:Int)(bs:List cj):Prop:=∀b∈bs,(∀d∈b.1,d.nb m)/\b.2.nb m bs.length
def hJ(m:Int)(W:cS):Prop:=∀p∈W,0<=p.2/\p.2<m
theorem lookup_mem{α:Type}{x:Str}{v:α}:∀{l:List (Str×α)},l.lookup x=some v->(x,v)∈l
 | [],h=>by simp at h
 |(y,u)::l,h=>by
  rw[List.lookup_cons] at h
  by_cases e:x=y
  ·subst e;simp at h;rw[h];exact .head _
  ·have:(x==y)=false:=by simpa using e
   rw[this] at h;exact .tail _ (lookup_mem h)
theorem Iz{m:Int}{W:cS}(hm:2<=m)(h:hJ m W)(x:Str):0<=look W x/\look W x<m:=by
 unfold look
 cases e:W.lookup x with
 |none=>exact⟨Int.le_refl _,by simp;omega⟩
 |some v=>exact h _ (lookup_mem e)
theorem Part.vn{m:Int}{W:cS}(hm:2<=m)(h:hJ m W):∀{p:Part},p.nb m->0<=p.val W/\p.val W<m
 | .num n,q=>q
 | .name x,_=>Iz hm h x
theorem EM{m a b:Int}{o:Str}(hm:2<=m):0<=j5 o a b m/\j5 o a b m<m:=by
 unfold j5
 have h1:=fun z:Int=>Int.emod_nonneg z (b:=m) (by omega)
 have h2:=fun z:Int=>Int.emod_lt_of_pos z (b:=m) (by omega)
 (repeat' split)<;>first|exact⟨h1 _,h2 _⟩|omega
theorem aM.vn{m:Int}{W:cS}(hm:2<=m)(h:hJ m W):∀{w:aM},w.nb m->0<=w.val m W/\w.val m W<m
 | .one p,q=>Part.vn hm h (p:=p) q
 | .two o p q,_=>EM hm
theorem yo{m:Int}{W:cS}{T:List Int}{d:ax}(hm:2<=m)(h:hJ m W)(hd:d.nb m):hJ m (i5 m (W,T) d).1:=by
 cases d with
 |tell p=>exact h
 |put x w=>
  intro q hq
  rcases qL hq with z|z
  ·exact h q z
  ·rw[z];exact aM.vn hm h hd
theorem uX{m:Int}(hm:2<=m):∀{dl:List ax}{W:cS}{T:List Int},hJ m W->(∀d∈dl,d.nb m)->hJ m (bu m dl (W,T)).1
 | [],W,T,h,_=>h
 |d::dl,W,T,h,hd=>uX (T:=(i5 m (W,T) d).2) hm (yo hm h (hd d (.head _))) fun x hx=>hd x (.tail _ hx)
theorem uY{m:Int}{W:cS}{T:List Int}{d:ax}:(i5 m (W,T) d).1.length<=W.length+1/\(i5 m (W,T) d).2.length<=T.length+1:=by
 cases d with
 |tell p=>exact⟨by simp[i5],by simp[i5]⟩
 |put x w=>exact⟨iC _ _ _,by simp[i5]⟩
theorem se{m:Int}:∀{dl:List ax}{W:cS}{T:List Int},(bu m dl (W,T)).1.length<=W.length+dl.length/\(bu m dl (W,T)).2.length<=T.length+dl.length
 | [],W,T=>by simp[bu]
 |d::dl,W,T=>by
  have h1:=uY (m:=m) (W:=W) (T:=T) (d:=d)
  have h2:=se (m:=m) (dl:=dl) (W:=(i5 m (W,T) d).1) (T:=(i5 m (W,T) d).2)
  simp only[List.length_cons]
  exact⟨Nat.le_trans h2.1 (by omega),Nat.le_trans h2.2 (by omega)⟩
abbrev iq:List Bool:=[false,false,false]
def v8:fQ:=fun ds P=>∃a b m,ds=[.int a,.int b,.int m]/\2<=m/\-(2 ^ 62)<a/\a<2 ^ 62/\P (.int (j5 "plus" a b m)) [none,none,none]
def FY:US:=
 (bM (aj (fI (fun _ j=>0<j) fun i j=>.int (i % j)) (aj (lN fun i j=>.int (i+j)) (aa 0) (aa 1)) (aa 2)))
theorem B':∀ds P,ds.length=iq.length->v8 ds P->FY (bC iq P) (az (3-iq.length) ds):=by
 rintro ds P - ⟨a,b,m,rfl,hm,h1,h2,k⟩
 simp only[az,iq,List.map_cons,List.map_nil,List.length_cons,List.length_nil,Nat.reduceAdd,Nat.reduceSub,List.replicate,List.cons_append,List.nil_append]
 unfold FY
 repeat walk_at "u"
 exact k
abbrev lr:List Bool:=[false,false,false]
def v9:fQ:=fun ds P=>∃a b m,ds=[.int a,.int b,.int m]/\2<=m/\-(2 ^ 62)<a/\a<2 ^ 62/\P (.int (j5 "less" a b m)) [none,none,none]
def FZ:US:=
 (bM (aj (fI (fun _ j=>0<j) fun i j=>.int (i % j)) (aj (lN fun i j=>.int (i-j)) (aa 0) (aa 1)) (aa 2)))
theorem Ca:∀ds P,ds.length=lr.length->v9 ds P->FZ (bC lr P) (az (3-lr.length) ds):=by
 rintro ds P - ⟨a,b,m,rfl,hm,h1,h2,k⟩
 simp only[az,lr,List.map_cons,List.map_nil,List.length_cons,List.length_nil,Nat.reduceAdd,Nat.reduceSub,List.replicate,List.cons_append,List.nil_append]
 unfold FZ
 repeat walk_at "u"
 exact k
abbrev jm:List Bool:=[false,false,false]
def qp:fQ:=fun ds P=>∃a b m,ds=[.int a,.int b,.int m]/\2<=m/\-(2 ^ 62)<a/\a<2 ^ 62/\P (.int (j5 "times" a b m)) [none,none,none]
def Bm:US:=
 (bM (aj (fI (fun _ j=>0<j) fun i j=>.int (i % j)) (aj (fI kr fun i j=>.int (i * j)) (aa 0) (aa 1)) (aa 2)))
theorem zl:∀ds P,ds.length=jm.length->qp ds P->Bm (bC jm P) (az (3-jm.length) ds):=by
 rintro ds P - ⟨a,b,m,rfl,hm,h1,h2,k⟩
 simp only[az,jm,List.map_cons,List.map_nil,List.length_cons,List.length_nil,Nat.reduceAdd,Nat.reduceSub,List.replicate,List.cons_append,List.nil_append]
 unfold Bm
 repeat walk_at "u"
 exact k
abbrev jn:List Bool:=[false,false,false]
def qr:fQ:=fun ds P=>∃a b m,ds=[.int a,.int b,.int m]/\2<=m/\-(2 ^ 62)<a/\a<2 ^ 62/\P (.int (j5 "below" a b m)) [none,none,none]
def Bn:US:=
 (bM (Aj (aR (aj (lN fun i j=>.bl (decide (i<j))) (aa 0) (aa 1))) (uC (.int 1)) (uC (.int 0))))
theorem zm:∀ds P,ds.length=jn.length->qr ds P->Bn (bC jn P) (az (3-jn.length) ds):=by
 rintro ds P - ⟨a,b,m,rfl,hm,h1,h2,k⟩
 simp only[az,jn,List.map_cons,List.map_nil,List.length_cons,List.length_nil,Nat.reduceAdd,Nat.reduceSub,List.replicate,List.cons_append,List.nil_append]
 unfold Bn
 unfold j5 at k
 rw[if_neg (by decide +kernel),if_neg (by decide +kernel),if_neg (by decide +kernel),if_pos rfl] at k
 repeat walk_at "u"
 with_reducible refine fD ?_ ?_
 ·intro h
  rw[if_pos (of_decide_eq_true h)] at k
  repeat walk_at "u"
  exact k
 ·intro h
  rw[if_neg (of_decide_eq_false h)] at k
  repeat walk_at "u"
  exact k
abbrev lq:List Bool:=[false,false,false]
def v7:fQ:=fun ds P=>∃a b m,ds=[.int a,.int b,.int m]/\2<=m/\-(2 ^ 62)<a/\a<2 ^ 62/\P (.int (j5 "same" a b m)) [none,none,none]
def FX:US:=
 (bM (Aj (aR (aj (kQ false) (aa 0) (aa 1))) (uC (.int 1)) (uC (.int 0))))
theorem B_:∀ds P,ds.length=lq.length->v7 ds P->FX (bC lq P) (az (3-lq.length) ds):=by
 rintro ds P - ⟨a,b,m,rfl,hm,h1,h2,k⟩
 simp only[az,lq,List.map_cons,List.map_nil,List.length_cons,List.length_nil,Nat.reduceAdd,Nat.reduceSub,List.replicate,List.cons_append,List.nil_append]
 unfold FX
 unfold j5 at k
 rw[if_neg (by decide +kernel),if_neg (by decide +kernel),if_neg (by decide +kernel),if_neg (by decide +kernel)] at k
 repeat walk_at "u"
 with_reducible refine fD ?_ ?_
 ·intro h
  rw[if_pos (of_decide_eq_true h)] at k
  repeat walk_at "u"
  exact k
 ·intro h
  rw[if_neg (of_decide_eq_false h)] at k
  repeat walk_at "u"
  exact k
def Rg(gW gX fB fC gU:Addr):Addr->fQ->Prop:=fun a m=>(a=gW/\m=v8)\/(a=gX/\m=v9)\/(a=fB/\m=qp)\/(a=fC/\m=qr)\/(a=gU/\m=v7)
theorem Lu{a1 a2 a3 a4 a5:Addr}{o:Str}(h:o∈dY):∃a mm,([("plus",a1),("less",a2),("times",a3),("below",a4),("same",a5)]:List (Str×Addr)).lookup o=some a/\Rg a1 a2 a3 a4 a5 a mm/\∀(x y m:Int) (P:D->ai->Prop),2<=m->-(2 ^ 62)<x->x<2 ^ 62->P (.int (j5 o x y m)) [none,none,none]->mm [.int x,.int y,.int m] P:=by
 simp only[dY,List.mem_cons,List.not_mem_nil,or_false] at h
 rcases h with rfl|rfl|rfl|rfl|rfl
 ·exact⟨a1,_,by with_unfolding_all rfl,.inl ⟨rfl,rfl⟩,fun x y m P h1 h2 h3 k=>⟨x,y,m,rfl,h1,h2,h3,k⟩⟩
 ·exact⟨a2,_,by with_unfolding_all rfl,.inr (.inl ⟨rfl,rfl⟩),fun x y m P h1 h2 h3 k=>⟨x,y,m,rfl,h1,h2,h3,k⟩⟩
 ·exact⟨a3,_,by with_unfolding_all rfl,.inr (.inr (.inl ⟨rfl,rfl⟩)),fun x y m P h1 h2 h3 k=>⟨x,y,m,rfl,h1,h2,h3,k⟩⟩
 ·exact⟨a4,_,by with_unfolding_all rfl,.inr (.inr (.inr (.inl ⟨rfl,rfl⟩))),fun x y m P h1 h2 h3 k=>⟨x,y,m,rfl,h1,h2,h3,k⟩⟩
 ·exact⟨a5,_,by with_unfolding_all rfl,.inr (.inr (.inr (.inr ⟨rfl,rfl⟩))),fun x y m P h1 h2 h3 k=>⟨x,y,m,rfl,h1,h2,h3,k⟩⟩
theorem EL{o:Str}(h:o∈dY):(["plus", "less", "times", "below", "same"]:List Str).contains o=true:=by
 simpa[dY] using h
theorem vU{o:Str}(h:o = "number"\/o = "name"):(["plus", "less", "times", "below", "same"]:List Str).contains o=false:=by
 rcases h with rfl|rfl<;>decide +kernel
theorem Fy{o:Option Int}:(o.map D.int).getD (.int 0)=.int (o.getD 0):=by cases o<;>rfl
abbrev cq:List Bool:=[false,false]
def dN:fQ:=fun ds P=>∃(p:Part) (W:cS),ds=[p.d,dR false W]/\P (.int (p.val W)) [none,none]
def sE:US:=
 (bM (Aj (aR (aj (kQ false) (aj bc (aa 0) (uC (.int 0))) (uC (.str "number")))) (aj bc (aa 0) (uC (.int 1))) (xb (aa 1) (aj bc (aa 0) (uC (.int 1))) (uC (.int 0)))))
theorem tw:∀ds P,ds.length=cq.length->dN ds P->sE (bC cq P) (az (2-cq.length) ds):=by
 rintro ds P - ⟨p,W,rfl,k⟩
 simp only[az,cq,List.map_cons,List.map_nil,List.length_cons,List.length_nil,Nat.reduceAdd,Nat.reduceSub,List.replicate,List.cons_append,List.nil_append]
 unfold sE
 cases p with
 |num n=>
  simp only[Part.d] at k ⊢
  have hb:VS.bare (.str "number")=true:=rfl
  repeat walk_at "u"
  exact k
 |name x=>
  simp only[Part.d,dR,sD] at k ⊢
  have e:tU (.str "name") (.str "number")=some false:=by decide +kernel
  have hg:((bO (W.map fun p=>DK.s (.inr p.1)) (W.map fun p=>D.int p.2) (.s (.inr x))).getD (.int 0))=.int (look W x):=by rw[wB (f:=D.int),Fy];rfl
  repeat walk_at "u"
  rw[hg]
  repeat walk_at "u"
  exact k
theorem iM{p:Part}{W:cS}{P:D->ai->Prop}(k:P (.int (p.val W)) [none,none]):dN [p.d,dR false W] P:=⟨p,W,rfl,k⟩
abbrev dr:List Bool:=[false,false,false]
def fW:fQ:=fun ds P=>∃(w:aM) (W:cS) (m:Int),ds=[w.d,dR false W,.int m]/\2<=m/\m<=2 ^ 61/\w.nb m/\hJ m W/\P (.int (w.val m W)) [none,none,none]
def pQ(gW gX fB fC gU:Addr):US:=
 (aC (dn (aR (w_ true ["plus", "less", "times", "below", "same"] (aj bc (aa 0) (uC (.int 0)))))
 (bM (aA cq dN (ae (aa 0) (ae (aa 1) ao))))
 cm)
 (aC (aX (xa [("plus",gW),("less",gX),("times",fB),("below",fC),("same",gU)] (aj bc (aa 0) (uC (.int 0)))) (au 3))
 (bM (qF 3 (Rg gW gX fB fC gU) iq (ae (aA cq dN (ae (aj bc (aa 0) (uC (.int 1))) (ae (aa 1) ao))) (ae (aA cq dN (ae (aj bc (aa 0) (uC (.int 2))) (ae (aa 1) ao))) (ae (aa 2) ao)))))))
theorem qX(gW gX fB fC gU:Addr):∀ds P,ds.length=dr.length->fW ds P->pQ gW gX fB fC gU (bC dr P) (az (4-dr.length) ds):=by
 rintro ds P - ⟨w,W,m,rfl,hm,CY,hw,hW,k⟩
 simp only[az,dr,List.map_cons,List.map_nil,List.length_cons,List.length_nil,Nat.reduceAdd,Nat.reduceSub,List.replicate,List.cons_append,List.nil_append]
 unfold pQ
 cases w with
 |one p=>
  obtain⟨x,y,hx,e⟩:∃(x:Str) (y:D),(x = "number"\/x = "name")/\(aM.one p).d=.tup [.str x,y]:=by
   cases p with
   |num n=>exact⟨_,_,.inl rfl,rfl⟩
   |name n=>exact⟨_,_,.inr rfl,rfl⟩
  have ep:p.d=.tup [.str x,y]:=e
  rw[e]
  have hc:=vU hx
  repeat walk_at "u"
  rw[hc]
  repeat walk_at "u"
  rw[<-ep,Part.aU,gA]
  refine iM ?_
  repeat walk_at "u"
  exact k
 |two o p q=>
  have hc:=EL hw.1
  obtain⟨a,mm,h1,h2,h3⟩:=Lu (a1:=gW) (a2:=gX) (a3:=fB) (a4:=fC) (a5:=gU) hw.1
  simp only[aM.d] at k ⊢
  have Fu:=p.bare
  have wU:=q.bare
  have hv:=Part.vn hm hW hw.2.1
  repeat walk_at "u"
  rw[hc]
  repeat walk_at "u"
  rw[Part.aU,gA]
  refine iM ?_
  repeat walk_at "u"
  rw[Part.aU,gA]
  refine iM ?_
  repeat walk_at "u"
  refine h3 _ _ _ _ hm (by omega) (by omega) ?_
  repeat walk_at "u"
  exact k
abbrev gO:List Bool:=[false,false]
def kN:fQ:=fun ds P=>∃(e:End) (W:cS),ds=[e.d,dR false W]/\e≠.stop/\P (.int (e.next W)) [none,none]
def yy:US:=
 (aC (dn (aR (aj (kQ false) (aj bc (aa 0) (uC (.int 0))) (uC (.str "go"))))
 (bM (aj bc (aa 0) (uC (.int 1))))
 cm)
 (bM (Aj (aR (aj (kQ true) (aA cq dN (ae (aj bc (aa 0) (uC (.int 1))) (ae (aa 1) ao))) (uC (.int 0)))) (aj bc (aa 0) (uC (.int 2))) (aj bc (aa 0) (uC (.int 3))))))
theorem xB:∀ds P,ds.length=gO.length->kN ds P->yy (bC gO P) (az (2-gO.length) ds):=by
 rintro ds P - ⟨e,W,rfl,he,k⟩
 simp only[az,gO,List.map_cons,List.map_nil,List.length_cons,List.length_nil,Nat.reduceAdd,Nat.reduceSub,List.replicate,List.cons_append,List.nil_append]
 unfold yy
 cases e with
 |stop=>exact absurd rfl he
 |go a=>
  simp only[End.d,End.next] at k ⊢
  repeat walk_at "u"
  exact k
 |choose p a b=>
  simp only[End.d,End.next] at k ⊢
  have e:tU (.str "choose") (.str "go")=some false:=by decide +kernel
  have hb:=p.bare
  repeat walk_at "u"
  rw[Part.aU,gA]
  refine iM ?_
  repeat walk_at "u"
  with_reducible refine fD ?_ ?_
  ·intro h
   rw[if_neg (by simpa using h)] at k
   repeat walk_at "u"
   exact k
  ·intro h
   rw[if_pos (by simpa using h)] at k
   repeat walk_at "u"
   exact k
theorem x_{w:aM}{W:cS}{m:Int}{P:D->ai->Prop}(h1:2<=m)(h2:m<=2 ^ 61)(h3:w.nb m)(h4:hJ m W)(k:P (.int (w.val m W)) [none,none,none]):fW [w.d,dR false W,.int m] P:=⟨w,W,m,rfl,h1,h2,h3,h4,k⟩
theorem ya{e:End}{W:cS}{P:D->ai->Prop}(h:e≠.stop)(k:P (.int (e.next W)) [none,none]):kN [e.d,dR false W] P:=⟨e,W,rfl,h,k⟩
theorem zX{W:cS}:dR true W=.cB true false (W.map fun p=>DK.s (.inr p.1)) (W.map fun p=>D.int p.2):=rfl
def gK(m:Int)(bs:List cj):Nat->Int->cS->List Int->List Int×Bool
 |0,_,_,T=>(T,false)
 |n+1,b,W,T=>match bs[b.toNat]? with
  |none=>(T,false)
  |some dE=>match dE.2 with
   | .stop=>((bu m dE.1 (W,T)).2,true)
   |e=>gK m bs n (e.next (bu m dE.1 (W,T)).1) (bu m dE.1 (W,T)).1 (bu m dE.1 (W,T)).2
theorem End.AU{m many:Int}{W:cS}:∀{e:End},e.nb m many->e≠.stop->0<=e.next W/\e.next W<many
 | .stop,_,h=>absurd rfl h
 | .go a,h,_=>h
 | .choose p a b,h,_=>by obtain⟨_,h1,h2,h3,h4⟩:=h;simp only[End.next];split<;>exact⟨by assumption,by assumption⟩
abbrev fh:List Bool:=[false,true,true,false]
def iJ:fQ:=fun ds P=>∃(dl:List ax) (W:cS) (T:List Int) (m:Int),ds=[.lst false (dl.map ax.d),dR true W,.lst true (T.map .int),.int m]/\2<=m/\m<=2 ^ 61/\(∀d∈dl,d.nb m)/\hJ m W/\W.length+dl.length<=900000/\T.length+dl.length<=900000/\P .bH [none,some (dR true (bu m dl (W,T)).1),some (.lst true ((bu m dl (W,T)).2.map .int)),none]
def sI:US:=
 (eR (dQ bt (aa 0)) (au 4)
 (dn (aR (aj (kQ false) (aj bc (aa 4) (uC (.int 0))) (uC (.str "put"))))
 (jh 1 (aj bc (aa 4) (uC (.int 1))) (aA dr fW (ae (aj bc (aa 4) (uC (.int 2))) (ae (aa 1) (ae (aa 3) ao)))))
 (cF 2 (ae (aA cq dN (ae (aj bc (aa 4) (uC (.int 1))) (ae (aa 1) ao))) ao))))
theorem tG:∀ds P,ds.length=fh.length->iJ ds P->sI (bC fh P) (az (5-fh.length) ds):=by
 rintro ds P - ⟨dl,W,T,m,rfl,hm,CY,hd,hW,pK,rV,k⟩
 simp only[az,fh,List.map_cons,List.map_nil,List.length_cons,List.length_nil,Nat.reduceAdd,Nat.reduceSub,List.replicate,List.cons_append,List.nil_append]
 unfold sI
 repeat walk_at "u"
 refine bL (fun xs e=>∃(C0:List ax) (W':cS) (T':List Int) (o4:Option D),xs=C0.map ax.d/\(∀d∈C0,d.nb m)/\hJ m W'/\W'.length+C0.length<=900000/\T'.length+C0.length<=900000/\bu m C0 (W',T')=bu m dl (W,T)/\e=[some (.lst false (dl.map ax.d)),some (dR true W'),some (.lst true (T'.map .int)),some (.int m),o4]) ?_ ?_ _ _ ⟨dl,W,T,_,rfl,hd,hW,pK,rV,rfl,rfl⟩
 ·rintro e ⟨C0,W',T',o4,hx,-,-,-,-,he,rfl⟩
  have:C0=[]:=by simpa using hx.symm
  subst this
  rw[<-he] at k
  repeat walk_at "u"
  exact k
 ·rintro x xs e ih ⟨C0,W',T',o4,hx,hd,hW,pK,rV,he,rfl⟩
  cases C0 with
  |nil=>simp at hx
  |cons d C0=>
   simp only[List.map_cons,List.cons.injEq] at hx
   obtain⟨rfl,rfl⟩:=hx
   simp only[List.length_cons] at pK rV
   have W4:=hd d (.head _)
   have hl:=uY (m:=m) (W:=W') (T:=T') (d:=d)
   have cg:=yo (T:=T') hm hW W4
   have oQ:∀o4,qg (au 4) (dn (aR (aj (kQ false) (aj bc (aa 4) (uC (.int 0))) (uC (.str "put")))) (jh 1 (aj bc (aa 4) (uC (.int 1))) (aA dr fW (ae (aj bc (aa 4) (uC (.int 2))) (ae (aa 1) (ae (aa 3) ao))))) (cF 2 (ae (aA cq dN (ae (aj bc (aa 4) (uC (.int 1))) (ae (aa 1) ao))) ao))) (bC [false,true,true,false] P) (C0.map ax.d) [some (.lst false (dl.map ax.d)),some (dR true (i5 m (W',T') d).1),some (.lst true ((i5 m (W',T') d).2.map .int)),some (.int m),o4]:=fun o4=>ih _ ⟨C0,(i5 m (W',T') d).1,(i5 m (W',T') d).2,o4,rfl,fun x hx=>hd x (.tail _ hx),cg,by omega,by omega,he,rfl⟩
   cases d with
   |put x w=>
    simp only[ax.d] at oQ ⊢
    have hb:=w.bare
    have hz:(W'.map fun p=>D.int p.2).length<=1000000:=by rw[List.length_map];omega
    rw[zX]
    repeat walk_at "u"
    rw[aM.aU,<-zX,gA]
    refine x_ hm CY W4 hW ?_
    rw[zX]
    repeat walk_at "u"
    rw[kS (f:=D.int)]
    exact oQ _
   |tell p=>
    simp only[ax.d] at oQ ⊢
    have e1:tU (.str "tell") (.str "put")=some false:=by decide +kernel
    have hb:=p.bare
    have hz:(T'.map D.int).length<=1000000:=by rw[List.length_map];omega
    repeat walk_at "u"
    rw[Part.aU,gA]
    refine iM ?_
    repeat walk_at "u"
    rw[show T'.map D.int++[D.int (p.val W')]=(T'++[p.val W']).map D.int by simp]
    exact oQ _
theorem zL{dl:List ax}{W:cS}{T:List Int}{m:Int}{P:D->ai->Prop}(h1:2<=m)(h2:m<=2 ^ 61)(h3:∀d∈dl,d.nb m)(h4:hJ m W)(h5:W.length+dl.length<=900000)(h6:T.length+dl.length<=900000)(k:P .bH [none,some (dR true (bu m dl (W,T)).1),some (.lst true ((bu m dl (W,T)).2.map .int)),none]):iJ [.lst false (dl.map ax.d),dR true W,.lst true (T.map .int),.int m] P:=⟨dl,W,T,m,rfl,h1,h2,h3,h4,h5,h6,k⟩
theorem jq(dl:List ax):VS.aU (.lst false (dl.map ax.d))=.lst false (dl.map ax.d):=by rw[bY,aV ax.aU]
abbrev kK:List Bool:=[false,false,false]
def rF:fQ:=fun ds P=>∃(m:Int) (bs:List cj) (W:cS) (n K:Nat),ds=[aY false m bs,dR false W,.int n]/\2<=m/\m<=2 ^ 61/\0<bs.length/\zo m bs/\hJ m W/\(∀b∈bs,b.1.length<=K)/\W.length+n * K<=900000/\n<=100000/\P (.tup [.lst true ((gK m bs n 0 W []).1.map .int),.bl (gK m bs n 0 W []).2]) [none,none,none]
def JY:US:=
 (aC (aX (a7 0) (gb 2 (bz (au 3) (bz (bx 4) gc))))
 (aC (aX (qk qv (ae (aa 1) ao)) (au 5))
 (aC (aX (cZ ao) (au 6))
 (aC (aX (uC (.int 0)) (au 7))
 (aC (eR (fH (ae (a7 2) ao)) (au 8)
 (aC (aX (aj dB (aa 4) (aa 7)) (gb 2 (bz (bx 9) (bz (bx 10) gc))))
 (aC (Ak (aA fh iJ (ae (aa 9) (ae (aa 5) (ae (aa 6) (ae (aa 3) ao))))))
 (aC (dn (aR (aj (kQ false) (aj bc (aa 10) (uC (.int 0))) (uC (.str "stop"))))
 (bM (gE (ae (ff 6) (ae (uC (.bl true)) ao))))
 cm)
 (aX (aA gO kN (ae (aa 10) (ae (aa 5) ao))) (au 7))))))
 (bM (gE (ae (ff 6) (ae (uC (.bl false)) ao)))))))))
theorem pure_run:∀ds P,ds.length=kK.length->rF ds P->JY (bC kK P) (az (11-kK.length) ds):=by
 rintro ds P - ⟨m,bs,W,n,K,rfl,hm,CY,JR,Np,hW,hK,hl,hn,k⟩
 simp only[az,kK,List.map_cons,List.map_nil,List.length_cons,List.length_nil,Nat.reduceAdd,Nat.reduceSub,List.replicate,List.cons_append,List.nil_append]
 unfold JY
 have uS:=bG (xs:=bs) cy
 have zR:VS.bare (.lst false (bs.map (aN false)))=true:=by rw[jO,uS];rfl
 have hWb:=uV W
 have CD:VS.aU (.lst false (bs.map (aN false)))=.lst false (bs.map (aN false)):=by rw[bY,aV (fw false)]
 have IV:=uB m bs
 simp only[aY] at IV ⊢
 rw[show dR false W=.cB false false (W.map fun p=>DK.s (.inr p.1)) (W.map fun p=>D.int p.2) from rfl]
 repeat walk_at "u"
 rw[CD]
 repeat walk_at "u"
 rw[<-zX]
 refine bL (fun xs e=>∃(b:Int) (W':cS) (T':List Int) (o8 o9 SY:Option D),0<=b/\b<bs.length/\hJ m W'/\W'.length+xs.length * K<=900000/\T'.length+xs.length * K<=900000/\gK m bs xs.length b W' T'=gK m bs n 0 W []/\e=[some (aY false m bs),some (dR false W),some (.int n),some (.int m),some (.lst false (bs.map (aN false))),some (dR true W'),some (.lst true (T'.map .int)),some (.int b),o8,o9,SY]) ?_ ?_ _ _ ⟨0,W,[],_,_,_,by omega,by omega,hW,?_,?_,?_,rfl⟩
 ·rintro e ⟨b,W',T',o8,o9,SY,hb,wU,Pu,pK,rV,hr,rfl⟩
  rw[<-hr] at k
  repeat walk_at "u"
  exact k
 ·rintro x xs e ih ⟨b,W',T',o8,o9,SY,hb,wU,Pu,pK,rV,hr,rfl⟩
  have mI:il (bs.map (aN false)) b=some (aN false bs[b.toNat]):=qw hb wU
  have WZ:bs[b.toNat]? = some bs[b.toNat]:=List.getElem?_eq_getElem (by omega)
  have lL:bs[b.toNat]∈bs:=List.getElem_mem _
  generalize bs[b.toNat]=dE at mI WZ lL
  obtain⟨dl,e⟩:=dE
  have RH:=Np _ lL
  have hKl:dl.length<=K:=hK _ lL
  simp only[List.length_cons,Nat.add_mul,Nat.one_mul] at pK rV hr
  simp only[gK,WZ] at hr
  have zQ:=cy (dl,e)
  have jo:=bG (xs:=dl) ax.bare
  have Ud:=e.bare
  have tS:=jq dl
  have Gj:=e.aU
  simp only[aN] at mI zQ
  repeat walk_at "u"
  rw[tS,Gj]
  repeat walk_at "u"
  rw[tS]
  refine zL hm CY RH.1 Pu (by omega) (by omega) ?_
  have hn1:=Ba (bu m dl (W',T')).1
  have RA:=x9 (bu m dl (W',T')).2
  repeat walk_at "u"
  refine⟨by simp only[tQ,hn1,RA];rfl,?_⟩
  have hlen:=se (m:=m) (dl:=dl) (W:=W') (T:=T')
  have cg:=uX (T:=T') hm Pu RH.1
  cases e with
  |stop=>
   simp only[] at hr
   rw[<-hr] at k
   simp only[End.d]
   repeat walk_at "u"
   exact k
  |go a=>
   simp only[] at hr
   have e1:tU (.str "go") (.str "stop")=some false:=by decide +kernel
   have Pd:=End.AU (W:=(bu m dl (W',T')).1) RH.2 (by simp)
   simp only[End.d]
   repeat walk_at "u"
   rw[show(D.tup [D.str "go",D.int a])=(End.go a).d from rfl,Gj,gA]
   refine ya (by simp) ?_
   repeat walk_at "u"
   exact ih _ ⟨_,(bu m dl (W',T')).1,(bu m dl (W',T')).2,_,_,_,Pd.1,Pd.2,cg,by omega,by omega,hr,rfl⟩
  |choose p a b'=>
   simp only[] at hr
   have e1:tU (.str "choose") (.str "stop")=some false:=by decide +kernel
   have Pd:=End.AU (W:=(bu m dl (W',T')).1) RH.2 (by simp)
   simp only[End.d]
   repeat walk_at "u"
   rw[show(D.tup [D.str "choose",p.d,D.int a,D.int b'])=(End.choose p a b').d from rfl,Gj,gA]
   refine ya (by simp) ?_
   repeat walk_at "u"
   exact ih _ ⟨_,(bu m dl (W',T')).1,(bu m dl (W',T')).2,_,_,_,Pd.1,Pd.2,cg,by omega,by omega,hr,rfl⟩
 ·simp[fq];omega
 ·simp[fq];omega
 ·simp[fq]
def End.parts:End->List Part | .choose p _ _=>[p]|_=>[]
def aM.parts:aM->List Part | .one p=>[p] | .two _ p q=>[p,q]
def ax.parts:ax->List Part | .put _ w=>w.parts | .tell p=>[p]
def Part.names:Part->List Str | .name x=>[x] | .num _=>[]
def aG(ps:List Part):List Str:=ps.flatMap Part.names
def ax.names:ax->List Str | .put x w=>x::aG w.parts | .tell p=>aG [p]
def cj.names(b:cj):List Str:=b.1.flatMap ax.names++aG b.2.parts
def aI(bs:List cj):List Str:=bs.flatMap cj.names
theorem lg(ps:List Part):VS.eX (.lst true (ps.map Part.d))=true:=by simp only[p1,eW Part.eX];rfl
theorem eU(ps:List Str):VS.eX (.lst true (ps.map .str))=true:=by rw[p1,xT];rfl
theorem oH(o:Bool)(ps:List Part):VS.aU (.lst o (ps.map Part.d))=.lst false (ps.map Part.d):=by rw[bY,aV Part.aU]
theorem eI{ps:List Part}:(aG ps).length<=ps.length:=by
 induction ps with
 |nil=>simp[aG]
 |cons p ps ih=>cases p<;>simp[aG,Part.names] at ih ⊢<;>omega
theorem qx{w:aM}:w.parts.length<=2:=by cases w<;>simp[aM.parts]
theorem mF{w:ax}:w.parts.length<=2:=by cases w<;>simp[ax.parts,qx]
theorem zY{w:ax}:w.names.length<=3:=by
 cases w with
 |put x w=>have:=eI (ps:=w.parts);have:=qx (w:=w);simp[ax.names];omega
 |tell p=>have:=eI (ps:=[p]);simp[ax.names] at this ⊢;omega
theorem jX{e:End}:e.parts.length<=1:=by cases e<;>simp[End.parts]
abbrev bB:List Bool:=[false]
def cM:fQ:=fun ds P=>∃e:End,ds=[e.d]/\P (.lst true (e.parts.map Part.d)) [none]
def i6:US:=
 (bM (Aj (aR (aj (kQ false) (aj bc (aa 0) (uC (.int 0))) (uC (.str "choose")))) (cZ (ae (aj bc (aa 0) (uC (.int 1))) ao)) (cZ ao)))
theorem kF:∀ds P,ds.length=bB.length->cM ds P->i6 (bC bB P) (az (1-bB.length) ds):=by
 rintro ds P - ⟨e,rfl,k⟩
 simp only[az,bB,List.map_cons,List.map_nil,List.length_cons,List.length_nil,Nat.reduceAdd,Nat.reduceSub,List.replicate,List.cons_append,List.nil_append]
 unfold i6
 cases e with
 |stop=>
  have e1:tU (.str "stop") (.str "choose")=some false:=by decide +kernel
  simp only[End.d]
  repeat walk_at "u"
  exact k
 |go a=>
  have e1:tU (.str "go") (.str "choose")=some false:=by decide +kernel
  simp only[End.d]
  repeat walk_at "u"
  exact k
 |choose p a b=>
  have hb:=p.bare
  simp only[End.d]
  repeat walk_at "u"
  exact k
abbrev b_:List Bool:=[false]
def d_:fQ:=fun ds P=>∃w:aM,ds=[w.d]/\(∀o p q,w=.two o p q->o∈dY)/\P (.lst true (w.parts.map Part.d)) [none]
def jt:US:=
 (bM (Aj (aR (w_ false ["plus", "less", "times", "below", "same"] (aj bc (aa 0) (uC (.int 0))))) (cZ (ae (aj bc (aa 0) (uC (.int 1))) (ae (aj bc (aa 0) (uC (.int 2))) ao))) (cZ (ae (a7 0) ao))))
theorem lH:∀ds P,ds.length=b_.length->d_ ds P->jt (bC b_ P) (az (1-b_.length) ds):=by
 rintro ds P - ⟨w,rfl,ho,k⟩
 simp only[az,b_,List.map_cons,List.map_nil,List.length_cons,List.length_nil,Nat.reduceAdd,Nat.reduceSub,List.replicate,List.cons_append,List.nil_append]
 unfold jt
 cases w with
 |one p=>
  have W8:=p.bare
  cases p with
  |num n=>
   have hc:=vU (o := "number") (.inl rfl)
   simp only[aM.d,Part.d] at W8 ⊢
   repeat walk_at "u"
   exact k
  |name x=>
   have hc:=vU (o := "name") (.inr rfl)
   simp only[aM.d,Part.d] at W8 ⊢
   repeat walk_at "u"
   exact k
 |two o p q=>
  have hc:=EL (ho o p q rfl)
  have Fu:=p.bare
  have wU:=q.bare
  simp only[aM.d]
  repeat walk_at "u"
  rw[hc]
  repeat walk_at "u"
  exact k
def aM.ij(w:aM):Prop:=∀o p q,w=.two o p q->o∈dY
def ax.ij:ax->Prop | .put _ w=>w.ij | .tell _=>True
theorem aM.nb.op{m:Int}{w:aM}(h:w.nb m):w.ij:=fun o p q e=>by subst e;exact h.1
theorem ax.nb.op{m:Int}{d:ax}(h:d.nb m):d.ij:=by cases d with|put x w=>exact aM.nb.op (m:=m) h|tell p=>trivial
theorem o_{w:aM}{P:D->ai->Prop}(h:w.ij)(k:P (.lst true (w.parts.map Part.d)) [none]):d_ [w.d] P:=⟨w,rfl,h,k⟩
theorem iY{w:End}{P:D->ai->Prop}(k:P (.lst true (w.parts.map Part.d)) [none]):cM [w.d] P:=⟨w,rfl,k⟩
abbrev bS:List Bool:=[false]
def di:fQ:=fun ds P=>∃d:ax,ds=[d.d]/\d.ij/\P (.lst true (d.parts.map Part.d)) [none]
def ka:US:=
 (bM (Aj (aR (aj (kQ false) (aj bc (aa 0) (uC (.int 0))) (uC (.str "put")))) (aA b_ d_ (ae (aj bc (aa 0) (uC (.int 2))) ao)) (cZ (ae (aj bc (aa 0) (uC (.int 1))) ao))))
theorem mi:∀ds P,ds.length=bS.length->di ds P->ka (bC bS P) (az (1-bS.length) ds):=by
 rintro ds P - ⟨d,rfl,hd,k⟩
 simp only[az,bS,List.map_cons,List.map_nil,List.length_cons,List.length_nil,Nat.reduceAdd,Nat.reduceSub,List.replicate,List.cons_append,List.nil_append]
 unfold ka
 cases d with
 |put x w=>
  have hb:=w.bare
  have hn:=lg w.parts
  simp only[ax.d]
  repeat walk_at "u"
  rw[aM.aU]
  refine o_ hd ?_
  repeat walk_at "u"
  exact k
 |tell p=>
  have e1:tU (.str "tell") (.str "put")=some false:=by decide +kernel
  have hb:=p.bare
  simp only[ax.d]
  repeat walk_at "u"
  exact k
abbrev bW:List Bool:=[false]
def du:fQ:=fun ds P=>∃ps:List Part,ds=[.lst false (ps.map Part.d)]/\ps.length<=100000/\P (.lst true ((aG ps).map .str)) [none]
def nQ:US:=
 (bM (gf 1 (dQ bt (aa 0)) (au 0) (aR (aj (kQ false) (aj bc (aa 0) (uC (.int 0))) (uC (.str "name")))) (fM (aj bc (aa 0) (uC (.int 1))))))
theorem p4:∀ds P,ds.length=bW.length->du ds P->nQ (bC bW P) (az (1-bW.length) ds):=by
 rintro ds P - ⟨ps,rfl,hl,k⟩
 simp only[az,bW,List.map_cons,List.map_nil,List.length_cons,List.length_nil,Nat.reduceAdd,Nat.reduceSub,List.replicate,List.cons_append,List.nil_append]
 unfold nQ
 repeat walk_at "u"
 refine eZ (fun xs acc e=>∃(pre post:List Part) (o:Option D),ps=pre++post/\xs=post.map Part.d/\acc=(aG pre).map .str/\e=[o,some (.lst false (ps.map Part.d))]) ?_ ?_ _ _ _ ⟨[],ps,_,rfl,rfl,rfl,rfl⟩
 ·rintro acc e ⟨pre,post,o,h1,h2,rfl,rfl⟩
  have:post=[]:=by simpa using h2.symm
  subst this
  rw[List.append_nil] at h1
  rw[h1] at k
  repeat walk_at "u"
  exact k
 ·rintro x xs acc e ih ⟨pre,post,o,h1,h2,rfl,rfl⟩
  cases post with
  |nil=>simp at h2
  |cons p post=>
   simp only[List.map_cons,List.cons.injEq] at h2
   obtain⟨rfl,rfl⟩:=h2
   have hz:((aG pre).map D.str).length<=1000000:=by
    have:=eI (ps:=pre)
    rw[h1] at hl
    simp at hl ⊢;omega
   cases p with
   |num n=>
    have e1:tU (.str "number") (.str "name")=some false:=by decide +kernel
    simp only[Part.d]
    repeat walk_at "u"
    refine ih _ _ ⟨pre++[.num n],post,_,by simp[h1],rfl,by simp[aG,Part.names],rfl⟩
   |name x=>
    simp only[Part.d]
    repeat walk_at "u"
    refine ih _ _ ⟨pre++[.name x],post,_,by simp[h1],rfl,by simp[aG,Part.names],rfl⟩
theorem j9{d:ax}{P:D->ai->Prop}(h:d.ij)(k:P (.lst true (d.parts.map Part.d)) [none]):di [d.d] P:=⟨d,rfl,h,k⟩
theorem iu{ps:List Part}{P:D->ai->Prop}(h:ps.length<=100000)(k:P (.lst true ((aG ps).map .str)) [none]):du [.lst false (ps.map Part.d)] P:=⟨ps,rfl,h,k⟩
abbrev cC:List Bool:=[false]
def eY:fQ:=fun ds P=>∃d:ax,ds=[d.d]/\d.ij/\P (.lst true (d.names.map .str)) [none]
def kb:US:=
 (aC (aX (aA bW du (ae (aA bS di (ae (aa 0) ao)) ao)) (au 1))
 (bM (Aj (aR (aj (kQ false) (aj bc (aa 0) (uC (.int 0))) (uC (.str "put")))) (aj CJ (cZ (ae (aj bc (aa 0) (uC (.int 1))) ao)) (aa 1)) (ff 1))))
theorem mj:∀ds P,ds.length=cC.length->eY ds P->kb (bC cC P) (az (2-cC.length) ds):=by
 rintro ds P - ⟨d,rfl,hd,k⟩
 simp only[az,cC,List.map_cons,List.map_nil,List.length_cons,List.length_nil,Nat.reduceAdd,Nat.reduceSub,List.replicate,List.cons_append,List.nil_append]
 unfold kb
 have hn:=lg d.parts
 have hs:=eU (aG d.parts)
 have hl:=mF (w:=d)
 repeat walk_at "u"
 rw[ax.aU]
 refine j9 hd ?_
 repeat walk_at "u"
 rw[oH]
 refine iu (by omega) ?_
 repeat walk_at "u"
 cases d with
 |put x w=>
  simp only[ax.d,ax.parts,ax.names,List.map_cons] at hs k hl ⊢
  have hb:=c7 (xs:=aG w.parts)
  have Fu:a9 [D.str x]=true:=rfl
  have hz:[D.str x].length+((aG w.parts).map D.str).length<=1000000:=by
   have:=eI (ps:=w.parts)
   simp;omega
  repeat walk_at "u"
  exact k
 |tell p=>
  have e1:tU (.str "tell") (.str "put")=some false:=by decide +kernel
  simp only[ax.d,ax.parts,ax.names] at hs k ⊢
  repeat walk_at "u"
  exact k
theorem qf{d:ax}{P:D->ai->Prop}(h:d.ij)(k:P (.lst true (d.names.map .str)) [none]):eY [d.d] P:=⟨d,rfl,h,k⟩
theorem FC{α β:Type}{f:α->List β}{n:Nat}(h:∀a,(f a).length<=n):∀l:List α,(l.flatMap f).length<=l.length * n
 | []=>by simp
 |a::l=>by
  have:=h a
  have:=FC h l
  rw[List.flatMap_cons,List.length_append,List.length_cons,Nat.add_mul];omega
abbrev eC:List Bool:=[false]
def gR:fQ:=fun ds P=>∃(m:Int) (bs:List cj) (xs:List Str),ds=[aY false m bs]/\(∀b∈bs,∀d∈b.1,d.ij)/\(aI bs).length<=4000/\(∀x∈aI bs,x∈xs)/\xs.length<64/\∀ys:List Str,ys.Pairwise slt->(∀x,x∈ys↔x∈aI bs)->P (.lst true (ys.map .str)) [none]
def sG:US:=
 (aC (aX (cZ ao) (au 1))
 (aC (eR (dQ bt (aj bc (aa 0) (uC (.int 1)))) (gb 2 (bz (au 2) (bz (au 3) gc)))
 (aC (eR (dQ bt (aa 2)) (au 4)
 (iV 1 (ae (aA cC eY (ae (aa 4) ao)) ao)))
 (iV 1 (ae (aA bW du (ae (aA bB cM (ae (aa 3) ao)) ao)) ao))))
 (bM (jg (aa 1)))))
theorem tE:∀ds P,ds.length=eC.length->gR ds P->sG (bC eC P) (az (5-eC.length) ds):=by
 rintro ds P - ⟨m,bs,xs,rfl,ho,hl,hx,Fx,k⟩
 simp only[az,eC,List.map_cons,List.map_nil,List.length_cons,List.length_nil,Nat.reduceAdd,Nat.reduceSub,List.replicate,List.cons_append,List.nil_append]
 unfold sG
 have uS:=bG (xs:=bs) cy
 have zR:VS.bare (.lst false (bs.map (aN false)))=true:=by rw[jO,uS];rfl
 have CD:eA (bs.map (aN false))=bs.map (aN false):=aV (fw false)
 simp only[aY]
 repeat walk_at "u"
 rw[CD]
 refine bL (fun ws e=>∃(pre post:List cj) (o2 o3 o4:Option D),bs=pre++post/\ws=post.map (aN false)/\e=[some (aY false m bs),some (.lst true ((aI pre).map .str)),o2,o3,o4]) ?_ ?_ _ _ ⟨[],bs,_,_,_,rfl,rfl,rfl⟩
 ·rintro e ⟨pre,post,o2,o3,o4,h1,h2,rfl⟩
  have:post=[]:=by simpa using h2.symm
  subst this
  rw[List.append_nil] at h1
  subst h1
  repeat walk_at "u"
  refine⟨fun zs hz hs=>?_,fun ys h1 h2=>?_⟩
  ·have:=g8 zs xs hz fun z hz=>hx z (hs z hz)
   omega
  ·repeat walk_at "u"
   exact k ys h1 h2
 ·rintro x ws e ih ⟨pre,post,o2,o3,o4,h1,h2,rfl⟩
  cases post with
  |nil=>simp at h2
  |cons b post=>
   simp only[List.map_cons,List.cons.injEq] at h2
   obtain⟨rfl,rfl⟩:=h2
   obtain⟨dl,en⟩:=b
   have Uj:=ho (dl,en) (by rw[h1];simp)
   have Tp:(aI pre).length+((dl.flatMap ax.names).length+(aG en.parts).length)<=4000:=by
    have:(aI bs).length=(aI pre).length+((dl.flatMap ax.names).length+(aG en.parts).length)+(aI post).length:=by
     rw[h1];simp[aI,cj.names];omega
    omega
   have jo:=bG (xs:=dl) ax.bare
   simp only[aN]
   repeat walk_at "u"
   refine bL (fun ws e=>∃(dp dq:List ax) (o4:Option D),dl=dp++dq/\ws=dq.map ax.d/\e=[some (aY false m bs),some (.lst true ((aI pre++dp.flatMap ax.names).map .str)),some (.lst false (dl.map ax.d)),some en.d,o4]) ?_ ?_ _ _ ⟨[],dl,o4,rfl,rfl,by simp⟩
   ·rintro e ⟨dp,dq,o4,h3,h4,rfl⟩
    have:dq=[]:=by simpa using h4.symm
    subst this
    rw[List.append_nil] at h3
    subst h3
    have JO:=lg en.parts
    have OV:=eU (aG en.parts)
    have wQ:=jX (e:=en)
    have Ud:=c7 (xs:=aG en.parts)
    have hz:((aI pre++dl.flatMap ax.names).map D.str).length+((aG en.parts).map D.str).length<=1000000:=by simp only[List.length_map,List.length_append];omega
    repeat walk_at "u"
    rw[End.aU]
    refine iY ?_
    repeat walk_at "u"
    rw[oH]
    refine iu (by omega) ?_
    repeat walk_at "u"
    rw[show(aI pre++dl.flatMap ax.names).map D.str++(aG en.parts).map D.str=(aI (pre++[(dl,en)])).map D.str by simp[aI,cj.names]]
    exact ih _ ⟨pre++[(dl,en)],post,_,_,_,by simp[h1],rfl,rfl⟩
   ·rintro x ws e wO ⟨dp,dq,o4,h3,h4,rfl⟩
    cases dq with
    |nil=>simp at h4
    |cons d dq=>
     simp only[List.map_cons,List.cons.injEq] at h4
     obtain⟨rfl,rfl⟩:=h4
     have OV:=eU d.names
     have Np:=c7 (xs:=d.names)
     have hz:((aI pre++dp.flatMap ax.names).map D.str).length+(d.names.map D.str).length<=1000000:=by
      have:(dl.flatMap ax.names).length=(dp.flatMap ax.names).length+d.names.length+(dq.flatMap ax.names).length:=by rw[h3];simp only[List.flatMap_append,List.flatMap_cons,List.length_append];omega
      simp only[List.length_map,List.length_append];omega
     repeat walk_at "u"
     rw[ax.aU]
     refine qf (Uj d (by rw[h3];simp)) ?_
     repeat walk_at "u"
     rw[show(aI pre++dp.flatMap ax.names).map D.str++d.names.map D.str=(aI pre++(dp++[d]).flatMap ax.names).map D.str by simp]
     exact wO _ ⟨dp++[d],dq,_,by simp[h3],rfl,rfl⟩
theorem Jv{n d:Nat}(h:0<n):HT.e8 n d (some 1)=1:=by
 unfold HT.e8
 simp
 omega
theorem Oa{n d:Nat}:HT.e8 n d none=d:=rfl
theorem z0{α:Type}{a:α}{ds:List α}:eQ (a::ds) (some 1) none=ds:=by
 unfold eQ
 rw[Jv (by simp),Oa]
 simp
theorem jl{n:Nat}(h:0<n):¬(HT.e8 n 0 (some 1)=0/\HT.e8 n n none=n):=fun z=>by
 rw[Jv h] at z
 omega
theorem oy{α:Type}(x:Str)(v:α):∀l:List (Str×α),∀y,y∈(dg l x v).map (·.1)↔y∈l.map (·.1)\/y=x
 | [],y=>by simp[dg]
 |(z,u)::l,y=>by
  simp only[dg]
  split
  ·rename_i e
   subst e
   simp only[List.map_cons,List.mem_cons]
   constructor
   ·rintro(rfl|h)
    ·exact .inl (.inl rfl)
    ·exact .inl (.inr h)
   ·rintro((rfl|h)|rfl)
    ·exact .inl rfl
    ·exact .inr h
    ·exact .inl rfl
  ·simp only[List.map_cons,List.mem_cons,oy x v l y]
   constructor
   ·rintro(h|h|h)<;>simp[h]
   ·rintro((h|h)|h)<;>simp[h]
theorem jB{α:Type}(x:Str)(v:α):∀l:List (Str×α),(l.map (·.1)).Nodup->((dg l x v).map (·.1)).Nodup
 | [],_=>by simp[dg]
 |(z,u)::l,h=>by
  simp only[dg]
  simp only[List.map_cons,List.nodup_cons] at h
  split
  ·simp only[List.map_cons,List.nodup_cons];exact h
  ·rename_i e
   simp only[List.map_cons,List.nodup_cons,oy]
   exact⟨fun q=>q.elim h.1 e,jB x v l h.2⟩
structure n8(m:Int)(W:cS):Prop where
 ok:hJ m W
 nd:(W.map (·.1)).Nodup
theorem n8.put{m v:Int}{W:cS}{x:Str}(h:n8 m W)(h0:0<=v)(h1:v<m):n8 m (dg W x v):=⟨fun q hq=>by
 rcases qL hq with z|z
 ·exact h.ok q z
 ·rw[z];exact⟨h0,h1⟩,jB x v W h.nd⟩
def ax.tl:ax->List D | .put x w=>[.str x,w.d] | .tell p=>[p.d]
theorem ax.hd(d:ax):∃s:Str,d.d=.tup (.str s::d.tl):=by cases d<;>exact⟨_,rfl⟩
theorem ax.Hb(d:ax):a9 d.tl=true:=by cases d<;>simp only[ax.tl,bK,eu,Ej,aM.bare,Part.bare,Bool.and_self]
theorem ax.Kn(d:ax):eA d.tl=d.tl:=by cases d<;>simp only[ax.tl,e_,fK,i9,aM.aU,Part.aU]
theorem ax.Km(d:ax):d.tl.length<=2:=by cases d<;>simp[ax.tl]
def JS(d:D):Prop:=(∃x,d=.str x)\/∃s r,d=.tup (.str s::r)/\(s = "name"->∃x,r=[.str x])
theorem Part.JS(p:Part):JS p.d:=by
 cases p with
 |num n=>exact .inr ⟨_,_,rfl,fun h=>absurd h (by decide +kernel)⟩
 |name x=>exact .inr ⟨_,_,rfl,fun _=>⟨x,rfl⟩⟩
theorem ax.JS{d:ax}(h:d.ij):∀x∈d.tl,JS x:=by
 cases d with
 |tell p=>intro x hx;rw[List.mem_singleton.mp hx];exact p.JS
 |put y w=>
  intro x hx
  rcases List.mem_cons.mp hx with rfl|hx
  ·exact .inl ⟨_,rfl⟩
  ·rw[List.mem_singleton.mp hx]
   cases w with
   |one p=>exact p.JS
   |two o p q=>
    refine .inr ⟨o,_,rfl,fun e=>?_⟩
    have:=h o p q rfl
    rw[e] at this
    exact absurd this (by decide +kernel)
abbrev dM:List Bool:=[true,false]
def gw:fQ:=fun ds P=>∃(x y m:Int) (bs:List cj),ds=[purse x y,aY false m bs]/\2<=m/\m<=2 ^ 61/\(∀b∈bs,∀d∈b.1,d.ij)/\(bs.flatMap (·.1)).length<=10000/\∀(W:cS) z,n8 m W->W.length<=1+2 * (bs.flatMap (·.1)).length->P (dR true W) [some (purse z y),none]
def nY:US:=
 (aC (aX (oh (uC (.str "zzzzzz")) (uC (.int 1))) (au 2))
 (aC (eR (dQ bt (aj bc (aa 1) (uC (.int 1)))) (gb 2 (bz (au 3) (bz (au 4) gc)))
 (eR (dQ bt (aa 3)) (au 5)
 (eR (dQ rN (Bz (aa 5) (mQ (uC (.int 1))) ip)) (au 6)
 (aC (dn (qG (l7 (yP .str (aa 6))) (aR (aj (kQ false) (aA aq aw (ae (aa 0) (ae (uC (.int 2)) ao))) (uC (.int 0)))))
 (jh 2 (aa 6) (aA aq aw (ae (aa 0) (ae (aj bc (aa 1) (uC (.int 0))) ao))))
 cm)
 (dn (qG (l7 (yP .tup (aa 6))) (qG (aR (aj (kQ false) (aj bc (aa 6) (uC (.int 0))) (uC (.str "name")))) (aR (aj (lN fun i j=>.bl (decide (j<i))) (aA aq aw (ae (aa 0) (ae (uC (.int 3)) ao))) (uC (.int 0))))))
 (jh 2 (aj bc (aa 6) (uC (.int 1))) (aA aq aw (ae (aa 0) (ae (aj bc (aa 1) (uC (.int 0))) ao))))
 cm)))))
 (bM (ff 2))))
theorem p_:∀ds P,ds.length=dM.length->gw ds P->nY (bC dM P) (az (7-dM.length) ds):=by
 rintro ds P - ⟨x,y,m,bs,rfl,hm,CY,ho,Tp,k⟩
 simp only[az,dM,List.map_cons,List.map_nil,List.length_cons,List.length_nil,Nat.reduceAdd,Nat.reduceSub,List.replicate,List.cons_append,List.nil_append]
 unfold nY
 have uS:=bG (xs:=bs) cy
 have zR:VS.bare (.lst false (bs.map (aN false)))=true:=by rw[jO,uS];rfl
 have CD:eA (bs.map (aN false))=bs.map (aN false):=aV (fw false)
 rw[show aY false m bs=.tup [.int m,.lst false (bs.map (aN false))] from rfl]
 repeat walk_at "u"
 rw[CD,show D.cB true false [.s (.inr "zzzzzz")] [D.int 1]=dR true [("zzzzzz",1)] from rfl]
 refine bL (fun ws e=>∃(post:List cj) (z:Int) (W:cS) (o3 o4 o5 o6:Option D),ws=post.map (aN false)/\(∀b∈post,∀d∈b.1,d.ij)/\n8 m W/\W.length+2 * (post.flatMap (·.1)).length<=1+2 * (bs.flatMap (·.1)).length/\e=[some (purse z y),some (.tup [.int m,.lst false (bs.map (aN false))]),some (dR true W),o3,o4,o5,o6]) ?_ ?_ _ _ ⟨bs,x,[("zzzzzz",1)],_,_,_,_,rfl,ho,⟨fun q hq=>?_,by simp⟩,by simp only[List.length_cons,List.length_nil];omega,rfl⟩
 ·rintro e ⟨post,z,W,o3,o4,o5,o6,h1,h2,h3,h4,rfl⟩
  have:post=[]:=by simpa using h1.symm
  subst this
  repeat walk_at "u"
  exact k W z h3 (by simp only[List.flatMap_nil,List.length_nil] at h4;omega)
 ·rintro x ws e ih ⟨post,z,W,o3,o4,o5,o6,h1,h2,h3,h4,rfl⟩
  cases post with
  |nil=>simp at h1
  |cons b post=>
   simp only[List.map_cons,List.cons.injEq] at h1
   obtain⟨rfl,rfl⟩:=h1
   obtain⟨dl,en⟩:=b
   have Uj:=h2 (dl,en) (.head _)
   simp only[List.flatMap_cons,List.length_append] at h4
   simp only[aN]
   repeat walk_at "u"
   refine bL (fun ws e=>∃(dq:List ax) (z:Int) (W:cS) (o5 o6:Option D),ws=dq.map ax.d/\(∀d∈dq,d.ij)/\n8 m W/\W.length+2 * dq.length+2 * (post.flatMap (·.1)).length<=1+2 * (bs.flatMap (·.1)).length/\e=[some (purse z y),some (.tup [.int m,.lst false (bs.map (aN false))]),some (dR true W),some (.lst false (dl.map ax.d)),some en.d,o5,o6]) ?_ ?_ _ _ ⟨dl,z,W,_,_,rfl,Uj,h3,by omega,rfl⟩
   ·rintro e ⟨dq,z,W,o5,o6,h5,h6,h7,h8,rfl⟩
    have:dq=[]:=by simpa using h5.symm
    subst this
    repeat walk_at "u"
    exact ih _ ⟨post,z,W,_,_,_,_,rfl,fun b hb=>h2 b (.tail _ hb),h7,by simp only[List.length_nil] at h8;omega,rfl⟩
   ·rintro x ws e wO ⟨dq,z,W,o5,o6,h5,h6,h7,h8,rfl⟩
    cases dq with
    |nil=>simp at h5
    |cons d dq=>
     simp only[List.map_cons,List.cons.injEq] at h5
     obtain⟨rfl,rfl⟩:=h5
     simp only[List.length_cons] at h8
     obtain⟨s,hs⟩:=d.hd
     have WK:=d.Hb
     have WJ:=d.Kn
     have htl:=d.Km
     have WI:=ax.JS (h6 d (.head _))
     have jo:=d.bare
     rw[hs] at jo ⊢
     have JR:a9 (D.str s::d.tl)=true:=by rw[bK,WK];rfl
     have hnw:¬(HT.e8 (D.str s::d.tl).length 0 (some 1)=0/\HT.e8 (D.str s::d.tl).length (D.str s::d.tl).length none=(D.str s::d.tl).length):=jl (by simp)
     repeat walk_at "u"
     rw[z0,WJ]
     clear JR hnw jo WK WJ hs
     generalize d.tl=tl at htl WI ⊢
     refine bL (fun ws e=>∃(z:Int) (W:cS) (o6:Option D),(∀x∈ws,JS x)/\n8 m W/\W.length+ws.length+2 * dq.length+2 * (post.flatMap (·.1)).length<=1+2 * (bs.flatMap (·.1)).length/\e=[some (purse z y),some (.tup [.int m,.lst false (bs.map (aN false))]),some (dR true W),some (.lst false (dl.map ax.d)),some en.d,some (.tup (.str s::tl)),o6]) ?_ ?_ _ _ ⟨z,W,_,WI,h7,by omega,rfl⟩
     ·rintro e ⟨z,W,o6,-,h9,Uv,rfl⟩
      repeat walk_at "u"
      exact wO _ ⟨dq,z,W,_,_,rfl,fun d hd=>h6 d (.tail _ hd),h9,by simp only[List.length_nil] at Uv;omega,rfl⟩
     ·rintro x ws e Td ⟨z,W,o6,h8,h9,Uv,rfl⟩
      simp only[List.length_cons] at Uv
      have hz:(W.map fun p=>D.int p.2).length<=1000000:=by rw[List.length_map];omega
      have fin:∀(W':cS) (z':Int) (d6:D),n8 m W'->W'.length<=W.length+1->_:=fun W' z' d6 g1 g2=>Td [some (purse z' y),some (.tup [.int m,.lst false (bs.map (aN false))]),some (dR true W'),some (.lst false (dl.map ax.d)),some en.d,some (.tup (.str s::tl)),some d6] ⟨z',W',_,fun x hx=>h8 x (.tail _ hx),g1,by omega,rfl⟩
      rcases h8 x (.head _) with⟨t,rfl⟩|⟨t,r,rfl,hr⟩
      ·repeat walk_at "u"
       refine cv (by omega) (by omega) fun a z a0 a1=>?_
       repeat walk_at "u"
       with_reducible refine fD ?_ ?_
       ·intro h
        repeat walk_at "u"
        refine cv (by omega) (by omega) fun b z b0 b1=>?_
        rw[zX]
        repeat walk_at "u"
        rw[kS (f:=D.int)]
        exact fin _ _ _ (h9.put b0 b1) (iC _ _ _)
       ·intro h
        repeat walk_at "u"
        exact fin _ _ _ h9 (by omega)
      ·have mI:il (D.str t::r) 0=some (.str t):=by rw[P_];rfl
       repeat walk_at "u"
       with_reducible refine fD ?_ ?_
       ·intro h
        have h:t = "name":=by simpa using h
        subst h
        obtain⟨q,rfl⟩:=hr rfl
        repeat walk_at "u"
        refine cv (by omega) (by omega) fun a z a0 a1=>?_
        repeat walk_at "u"
        with_reducible refine fD ?_ ?_
        ·intro h
         repeat walk_at "u"
         refine cv (by omega) (by omega) fun b z b0 b1=>?_
         rw[zX]
         repeat walk_at "u"
         rw[kS (f:=D.int)]
         exact fin _ _ _ (h9.put b0 b1) (iC _ _ _)
        ·intro h
         repeat walk_at "u"
         exact fin _ _ _ h9 (by omega)
       ·intro h
        repeat walk_at "u"
        exact fin _ _ _ h9 (by omega)
 ·rw[List.mem_singleton.mp hq]
  exact⟨by decide,by omega⟩
section
variable {m:Int}{bs:List cj}
def Agree(N:List Str)(W W':cS):Prop:=∀x∈N,look W x=look W' x
theorem Part.agree{N:List Str}{W W':cS}{p:Part}(h:Agree N W W')(hp:∀x∈p.names,x∈N):p.val W=p.val W':=by
 cases p with
 |num n=>rfl
 |name x=>exact h x (hp x (.head _))
theorem aM.agree{N:List Str}{W W':cS}{w:aM}(h:Agree N W W')(hp:∀x∈aG w.parts,x∈N):w.val m W=w.val m W':=by
 cases w with
 |one p=>exact Part.agree h fun x hx=>hp x (by simp[aG,aM.parts,hx])
 |two o p q=>
  simp only[aM.val]
  rw[Part.agree (p:=p) h fun x hx=>hp x (by simp[aG,aM.parts,hx]),Part.agree (p:=q) h fun x hx=>hp x (by simp[aG,aM.parts,hx])]
theorem oU{W:cS}{x z:Str}{v:Int}:look (dg W x v) z=if z=x then v else look W z:=by
 unfold look
 rw[uo]
 split<;>rfl
theorem End.agree{N:List Str}{W W':cS}{e:End}(h:Agree N W W')(he:∀x∈aG e.parts,x∈N):e.next W=e.next W':=by
 cases e with
 |stop=>rfl
 |go a=>rfl
 |choose p a b=>simp only[End.next];rw[Part.agree h fun x hx=>he x (by simp[aG,End.parts,hx])]
end
theorem Part.ok.nb{xs:List Str}{m:Int}{p:Part}(h:p.ok xs m):p.nb m:=by cases p with|num n=>exact h|name x=>trivial
theorem aM.ok.nb{xs:List Str}{m:Int}{w:aM}(h:w.ok xs m):w.nb m:=by cases w with|one p=>exact Part.ok.nb (xs:=xs) h|two o p q=>exact⟨h.1,h.2.1.nb,h.2.2.nb⟩
theorem ax.ok.nb{xs:List Str}{m:Int}{d:ax}(h:d.ok xs m):d.nb m:=by cases d with|put x w=>exact h.2.nb|tell p=>exact Part.ok.nb (xs:=xs) h
theorem End.ok.nb{xs:List Str}{m many:Int}{e:End}(h:e.ok xs m many):e.nb m many:=by
 cases e with
 |stop=>trivial
 |go a=>exact h
 |choose p a b=>exact⟨h.1.nb,h.2⟩
theorem ig.nb{xs:List Str}{m:Int}{bs:List cj}(h:ig xs m bs):zo m bs:=fun b hb=>⟨fun d hd=>((h b hb).2.1 d hd).nb,(h b hb).2.2.nb⟩
theorem Part.ok.names{xs:List Str}{m:Int}{p:Part}(h:p.ok xs m):∀x∈p.names,x∈xs:=by
 cases p with
 |num n=>intro x hx;cases hx
 |name y=>intro x hx;rw[List.mem_singleton.mp hx];exact h
theorem aM.ok.names{xs:List Str}{m:Int}{w:aM}(h:w.ok xs m):∀x∈aG w.parts,x∈xs:=by
 intro x hx
 cases w with
 |one p=>simp[aG,aM.parts] at hx;exact Part.ok.names (m:=m) h x hx
 |two o p q=>
  simp[aG,aM.parts] at hx
  exact hx.elim (h.2.1.names x) (h.2.2.names x)
theorem ax.ok.names{xs:List Str}{m:Int}{d:ax}(h:d.ok xs m):∀x∈d.names,x∈xs:=by
 intro x hx
 cases d with
 |tell p=>simp[ax.names,aG] at hx;exact Part.ok.names (m:=m) h x hx
 |put y w=>
  rcases List.mem_cons.mp hx with rfl|hx
  ·exact h.1
  ·exact h.2.names x hx
theorem ig.names{xs:List Str}{m:Int}{bs:List cj}(h:ig xs m bs):∀x∈aI bs,x∈xs:=by
 intro x hx
 obtain⟨b,hb,hx⟩:=List.mem_flatMap.mp hx
 rcases List.mem_append.mp hx with hx|hx
 ·obtain⟨d,hd,hx⟩:=List.mem_flatMap.mp hx
  exact((h b hb).2.1 d hd).names x hx
 ·have he:=(h b hb).2.2
  cases wU:b.2 with
  |stop=>rw[wU] at hx;cases hx
  |go a=>rw[wU] at hx;cases hx
  |choose p a c=>
   rw[wU] at hx he
   simp[aG,End.parts] at hx
   exact he.1.names x hx
theorem ig.PU{xs:List Str}{m:Int}{bs:List cj}(h:ig xs m bs):(bs.flatMap (·.1)).length<=bs.length * 8:=by
 have:∀l:List cj,(∀b∈l,b.1.length<=8)->(l.flatMap (·.1)).length<=l.length * 8:=by
  intro l
  induction l with
  |nil=>simp
  |cons b l ih=>
   intro hl
   have h1:=hl b (.head _)
   have h2:=ih fun x hx=>hl x (.tail _ hx)
   rw[List.flatMap_cons,List.length_append,List.length_cons];omega
 exact this bs fun b hb=>(h b hb).1
theorem ig.S6{xs:List Str}{m:Int}{bs:List cj}(h:ig xs m bs):(aI bs).length<=bs.length * 25:=by
 have:∀l:List cj,(∀b∈l,b.1.length<=8)->(aI l).length<=l.length * 25:=by
  intro l
  induction l with
  |nil=>simp[aI]
  |cons b l ih=>
   intro hl
   have h1:=hl b (.head _)
   have h2:=ih fun x hx=>hl x (.tail _ hx)
   have h3:(b.1.flatMap ax.names).length<=b.1.length * 3:=FC (fun _=>zY) _
   have h4:=eI (ps:=b.2.parts)
   have h5:=jX (e:=b.2)
   simp only[aI,cj.names,List.flatMap_cons,List.length_append,List.length_cons] at h2 ⊢;omega
 exact this bs fun b hb=>(h b hb).1
theorem IH{L:Addr->List Int->Prop}{ns:List Int}{d:D}{P:D->ai->Prop}(hd:d=.lst false (ns.map .int)\/∃a,d=.fn a/\L a ns)(h:ns.length<=100000)(k:∀x y,P (purse x y) [none]):gq L [d] P:=⟨ns,d,rfl,hd,h,k⟩
theorem IL{x y m:Int}{bs:List cj}{P:D->ai->Prop}(h1:2<=m)(h2:m<=2 ^ 61)(h3:∀b∈bs,∀d∈b.1,d.ij)(h4:(bs.flatMap (·.1)).length<=10000)(k:∀(W:cS) z,n8 m W->W.length<=1+2 * (bs.flatMap (·.1)).length->P (dR true W) [some (purse z y),none]):gw [purse x y,aY false m bs] P:=⟨x,y,m,bs,rfl,h1,h2,h3,h4,k⟩
abbrev jM(o:Bool)(r:List Int×Bool):D:=.tup [.lst o (r.1.map .int),.bl r.2]
theorem OL{m:Int}{bs:List cj}{W:cS}{n K:Nat}{P:D->ai->Prop}(h1:2<=m)(h2:m<=2 ^ 61)(h3:0<bs.length)(h4:zo m bs)(h5:hJ m W)(h6:∀b∈bs,b.1.length<=K)(h7:W.length+n * K<=900000)(h8:n<=100000)(k:P (jM true (gK m bs n 0 W [])) [none,none,none]):rF [aY false m bs,dR false W,.int n] P:=⟨m,bs,W,n,K,rfl,h1,h2,h3,h4,h5,h6,h7,h8,k⟩
theorem rR{m:Int}{bs:List cj}{xs:List Str}{P:D->ai->Prop}(h1:∀b∈bs,∀d∈b.1,d.ij)(h2:(aI bs).length<=4000)(h3:∀x∈aI bs,x∈xs)(h4:xs.length<64)(k:∀ys:List Str,ys.Pairwise slt->(∀x,x∈ys↔x∈aI bs)->P (.lst true (ys.map .str)) [none]):gR [aY false m bs] P:=⟨m,bs,xs,rfl,h1,h2,h3,h4,k⟩
theorem HF(r:List Int×Bool):VS.eX (jM true r)=true:=by rw[xx,e9,e9,g9,x9];rfl
theorem vP(o:Bool)(r:List Int×Bool):VS.aU (jM o r)=jM false r:=by simp only[jM,jN,e_,fK,bY,fL,Ei]
theorem zg(o:Bool)(r:List Int×Bool):dF 60 (jM o r)=true:=by
 simp only[jM,j6,EN,eJ,fT,Ck,Ow,Bool.and_self]
theorem KU(o o':Bool)(r:List Int×Bool):eqT (jM o r) (jM o' r)=true:=A_ (zg o r) (by rw[vP,vP])
theorem zH{lo:Int}{n:Nat}:fq lo (n+1)=.int lo::fq (lo+1) n:=by
 simp only[fq,List.range_succ_eq_map,List.map_cons,List.map_map]
 congr 1
 ·simp
 ·apply List.map_congr_left
  intro i _
  simp only[Function.comp]
  congr 1
  simp;omega
abbrev Gr:=List (Int×List Int)
def lead:End->List Int | .stop=>[] | .go a=>[a] | .choose _ a b=>if a=b then [a] else [a,b]
abbrev dm(o:Bool)(l:List Int):D:=.lst o (l.map .int)
def kJ:Option Int->D|none=>.bH|some i=>.int i
abbrev aD{α:Type}(f:α->D)(o:Bool)(l:List (Int×α)):D:=.cB o false (l.map fun p=>.s (.inl p.1)) (l.map fun p=>f p.2)
def keys{α:Type}(l:List (Int×α)):List Int:=l.map fun p=>p.1
theorem kO(l:List Int):VS.bare (dm false l)=true:=by simp only[dm,jO,pw,Bool.not_false,Bool.and_self]
theorem iW(l:List Int):VS.eX (dm true l)=true:=by simp only[dm,p1,eW (fun _=>HK),Bool.and_self]
theorem lu(o:Bool)(l:List Int):VS.aU (dm o l)=dm false l:=by simp only[dm,bY,fL]
theorem EO(l:Option Int):VS.bare (kJ l)=true:=by cases l<;>rfl
theorem Ir(l:Option Int):VS.eX (kJ l)=true:=by cases l<;>rfl
theorem v5(l:Option Int):VS.aU (kJ l)=kJ l:=by cases l<;>simp only[kJ,ie,K0]
theorem wJ{α:Type}{f:α->D}(h:∀a,VS.eX (f a)=true)(l:List (Int×α)):VS.eX (aD f true l)=true:=by
 simp only[aD,HL,eW (f:=fun p:Int×α=>f p.2) (fun p=>h p.2),Bool.and_self]
theorem sv{α:Type}{f g:α->D}(h:∀a,VS.aU (f a)=g a)(o:Bool)(l:List (Int×α)):VS.aU (aD f o l)=aD g false l:=by
 simp only[aD,zj,aV (f:=fun p:Int×α=>f p.2) (g:=fun p:Int×α=>g p.2) (fun p=>h p.2)]
theorem nH{α β:Type}{f:α->β}:∀(l:List (Int×α)) (k:Int),bO (l.map fun p=>DK.s (.inl p.1)) (l.map fun p=>f p.2) (.s (.inl k))=(l.lookup k).map f
 | [],k=>rfl
 |(a,x)::l,k=>by
  simp only[List.map_cons,bO,List.lookup]
  by_cases h:a=k
  ·subst h;simp
  ·have h2:(k==a)=false:=by simp;exact fun e=>h e.symm
   rw[if_neg (by simpa using h),h2];exact nH l k
theorem wx{α β:Type}{f:α->β}:∀(l:List (Int×α)) (k:Int) (x:α),l.lookup k=none->dput (l.map fun p=>DK.s (.inl p.1)) (l.map fun p=>f p.2) (.s (.inl k)) (f x)=((l++[(k,x)]).map (fun p=>DK.s (.inl p.1)),(l++[(k,x)]).map (fun p=>f p.2))
 | [],k,x,_=>rfl
 |(a,y)::l,k,x,h=>by
  have hk:(k==a)=false:=by
   cases e:k==a with
   |false=>rfl
   |true=>simp[List.lookup,e] at h
  have h':l.lookup k=none:=by simpa[List.lookup,hk] using h
  have nu:¬(DK.s (.inl a)=DK.s (.inl k)):=by simp at hk ⊢;exact fun e=>hk e.symm
  simp only[List.map_cons,dput,List.cons_append,if_neg nu,wx l k x h']
theorem lookup_none{α:Type}{l:List (Int×α)}{k:Int}:l.lookup k=none↔k∉keys l:=by
 rw[List.lookup_eq_none_iff]
 simp only[keys,List.mem_map,not_exists,not_and]
 exact⟨fun h p hp e=>by have:=h p hp;simp[e] at this,fun h p hp=>by simp;exact fun e=>h p hp e.symm⟩
theorem lookup_isSome{α:Type}{l:List (Int×α)}{k:Int}:(l.lookup k).isSome=true↔k∈keys l:=by
 cases h:l.lookup k with
 |none=>simp[lookup_none.mp h]
 |some x=>simp;exact Decidable.byContradiction fun e=>by rw[lookup_none.mpr e] at h;simp at h
theorem iX{α:Type}:∀{l:List (Int×α)}{k:Int}{x:α},l.lookup k=some x->(k,x)∈l
 |(a,y)::l,k,x,h=>by
  by_cases e:k=a
  ·subst e;simp[List.lookup] at h;simp[h]
  ·have:(k==a)=false:=by simpa using e
   simp[List.lookup,this] at h
   exact .tail _ (iX h)
theorem uI:∀(l m:List Int),l.Nodup->(∀x∈l,x∈m)->l.length<=m.length
 | [],m,_,_=>by simp
 |a::l,m,h,hs=>by
  have ha:=hs a (.head _)
  have h1:=List.nodup_cons.mp h
  have:=uI l (m.erase a) h1.2 fun x hx=>(List.mem_erase_of_ne (fun e:x=a=>h1.1 (e ▸ hx))).mpr (hs x (.tail _ hx))
  rw[List.length_erase_of_mem ha] at this
  have:0<m.length:=List.length_pos_of_mem ha
  simp;omega
def fV(g:Gr)(v:Int):List Int:=(g.lookup v).getD []
inductive Reach (g:Gr) (L:Option Int) (s:Int):Int->Prop where
 |start:Reach g L s s
 |step {u v:Int}:Reach g L s u->v∈fV g u->L≠some v->Reach g L s v
def MP(g:Gr):Prop:=∀u v,v∈fV g u->v∈keys g
theorem Reach.ne{g:Gr}{s v w:Int}(h:Reach g (some w) s v)(hs:s≠w):v≠w:=by
 cases h with
 |start=>exact hs
 |step _ _ h=>exact fun e=>h (by rw[e])
theorem Reach.any{g:Gr}{L:Option Int}{s v:Int}(h:Reach g L s v):Reach g none s v:=by
 induction h with
 |start=>exact .start
 |step _ hv _ ih=>exact ih.step hv (by simp)
theorem Reach.key{g:Gr}{L:Option Int}{s v:Int}(hg:MP g)(hs:s∈keys g)(h:Reach g L s v):v∈keys g:=by
 cases h with
 |start=>exact hs
 |step _ hv _=>exact hg _ _ hv
abbrev gY:=List (Int×Option Int)
def gY.tree(g:Gr)(L:Option Int)(s:Int):gY->Prop:=fun c=>(keys c).Nodup/\(∃r,c=(s,none)::r)/\∀a k o b,c=a++(k,o)::b->a≠[]->∃p,o=some p/\p∈keys a/\k∈fV g p/\L≠some k
structure gY.ok(g:Gr)(L:Option Int)(s:Int)(c:gY):Prop where
 tree:c.tree g L s
 all:∀v,v∈keys c↔Reach g L s v
theorem gY.tree.snoc{g:Gr}{L:Option Int}{s:Int}{c:gY}(h:c.tree g L s){k p:Int}(hp:p∈keys c)(hk:k∉keys c)(hs:k∈fV g p)(hL:L≠some k):gY.tree g L s (c++[(k,some p)]):=by
 obtain⟨h1,⟨r,rfl⟩,h3⟩:=h
 refine⟨?_,⟨r++[(k,some p)],rfl⟩,fun a k' o b e ha=>?_⟩
 ·rw[keys,List.map_append,List.nodup_append]
  refine⟨h1,by simp,fun x hx y hy=>?_⟩
  simp at hy
  subst hy
  exact fun e=>hk (e ▸ hx)
 ·rcases List.eq_nil_or_concat b with rfl|⟨b',y,rfl⟩
  ·have:=List.append_inj' e (by simp)
   obtain⟨e1,e2⟩:=this
   simp at e2
   obtain⟨rfl,rfl⟩:=e2
   rw[<-e1]
   exact⟨p,rfl,hp,hs,hL⟩
  ·have e':(s,none)::r++[(k,some p)]=(a++(k',o)::b')++[y]:=by rw[e];simp
   obtain⟨e1,e2⟩:=List.append_inj' e' (by simp)
   exact h3 a k' o b' e1 ha
theorem gY.tree.reach{g:Gr}{L:Option Int}{s:Int}{c:gY}(h:c.tree g L s):∀v∈keys c,Reach g L s v:=by
 obtain⟨h1,⟨r,rfl⟩,h3⟩:=h
 have:∀n (a b:gY),a.length<=n->(s,none)::r=a++b->∀v∈keys a,Reach g L s v:=by
  intro n
  induction n with
  |zero=>intro a b ha e v hv;cases a with
   |nil=>simp[keys] at hv
   |cons x a=>simp at ha
  |succ n ih=>
   intro a b ha e v hv
   rcases List.eq_nil_or_concat a with rfl|⟨a',y,rfl⟩
   ·simp[keys] at hv
   ·obtain⟨k,o⟩:=y
    have e2:(s,none)::r=a'++((k,o)::b):=by rw[e];simp
    have hr:=ih a' _ (by simp at ha;omega) e2
    simp only[keys,List.concat_eq_append,List.map_append,List.mem_append] at hv
    rcases hv with hv|hv
    ·exact hr v hv
    ·simp at hv
     subst hv
     by_cases hn:a'=[]
     ·subst hn
      simp at e2
      rw[<-e2.1.1];exact .start
     ·obtain⟨p,rfl,hp,hs,hL⟩:=h3 a' v o b e2 hn
      exact(hr p hp).step hs hL
 exact this _ _ [] (Nat.le_refl _) (by simp)
def aS(bs:List cj):Gr:=(-1,[0])::bs.zipIdx.map fun p=>((p.2:Int),lead p.1.2)
theorem x4{bs:List cj}{b:cj}:aS (bs++[b])=aS bs++[((bs.length:Int),lead b.2)]:=by
 simp[aS,List.zipIdx_append]
theorem iL{bs:List cj}:(aS bs).length=bs.length+1:=by simp[aS]
theorem cX{bs:List cj}{k:Int}:k∈keys (aS bs)↔k = -1\/(0<=k/\k<bs.length):=by
 simp only[aS,keys,List.map_cons,List.mem_cons,List.map_map,List.mem_map,Function.comp]
 constructor
 ·rintro(h|⟨⟨b,i⟩,hm,rfl⟩)
  ·exact .inl h
  ·have:=List.snd_lt_of_mem_zipIdx hm
   exact .inr ⟨by simp,by simp at this ⊢;omega⟩
 ·rintro(h|⟨h1,h2⟩)
  ·exact .inl h
  ·obtain⟨n,rfl⟩:=Int.eq_ofNat_of_zero_le h1
   exact .inr ⟨(bs[n]'(by omega),n),by rw[List.mem_zipIdx_iff_getElem?];simp,rfl⟩
theorem zD{bs:List cj}{u v:Int}(h:v∈fV (aS bs) u):(u = -1/\v=0)\/∃b∈bs,v∈lead b.2:=by
 unfold fV at h
 cases e:(aS bs).lookup u with
 |none=>rw[e] at h;simp at h
 |some l=>
  rw[e] at h
  have hm:=iX e
  simp only[aS,List.mem_cons,List.mem_map,Prod.mk.injEq] at hm
  rcases hm with⟨rfl,rfl⟩|⟨⟨b,i⟩,hm,rfl,rfl⟩
  ·exact .inl ⟨rfl,by simpa using h⟩
  ·exact .inr ⟨b,List.fst_mem_of_mem_zipIdx hm,h⟩
theorem BG{bs:List cj}:fV (aS bs) (-1)=[0]:=by simp[fV,aS,List.lookup]
def Bs(bs:List cj):Prop:=0<bs.length/\bs.length<=1000/\∀b∈bs,∀v∈lead b.2,0<=v/\v<(bs.length:Int)
theorem Bs.g{bs:List cj}(h:Bs bs):MP (aS bs):=fun u v hv=>cX.mpr (by
 rcases zD hv with⟨_,rfl⟩|⟨b,hb,hv⟩
 ·have:=h.1;right;omega
 ·exact .inr (h.2.2 b hb v hv))
abbrev bp:List Bool:=[false]
def cD:fQ:=fun ds P=>∃e:End,ds=[e.d]/\P (dm true (lead e)) [none]
def iP:US:=
 (aC (dn (aR (aj (kQ false) (aj bc (aa 0) (uC (.int 0))) (uC (.str "go"))))
 (bM (cZ (ae (aj bc (aa 0) (uC (.int 1))) ao)))
 cm)
 (aC (dn (aR (aj (kQ false) (aj bc (aa 0) (uC (.int 0))) (uC (.str "choose"))))
 (bM (Aj (aR (aj (kQ false) (aj bc (aa 0) (uC (.int 2))) (aj bc (aa 0) (uC (.int 3))))) (cZ (ae (aj bc (aa 0) (uC (.int 2))) ao)) (cZ (ae (aj bc (aa 0) (uC (.int 2))) (ae (aj bc (aa 0) (uC (.int 3))) ao)))))
 cm)
 (bM (cZ ao))))
theorem ki:∀ds P,ds.length=bp.length->cD ds P->iP (bC bp P) (az (1-bp.length) ds):=by
 rintro ds P - ⟨e,rfl,k⟩
 simp only[az,bp,List.map_cons,List.map_nil,List.length_cons,List.length_nil,Nat.reduceAdd,Nat.reduceSub,List.replicate,List.cons_append,List.nil_append]
 unfold iP
 cases e with
 |stop=>
  simp only[End.d]
  repeat walk_at "u"
  exact k
 |go a=>
  simp only[End.d]
  repeat walk_at "u"
  exact k
 |choose p a b=>
  have hp:=p.bare
  simp only[End.d]
  repeat walk_at "u"
  with_reducible refine fD ?_ ?_
  ·intro h
   have h:a=b:=by simpa using h
   have e:lead (.choose p a b)=[a]:=if_pos h
   rw[e] at k
   repeat walk_at "u"
   exact k
  ·intro h
   have h:¬a=b:=by simpa using h
   have e:lead (.choose p a b)=[a,b]:=if_neg h
   rw[e] at k
   repeat walk_at "u"
   exact k
abbrev cV:List Bool:=[false]
def fi:fQ:=fun ds P=>∃m bs,ds=[aY false m bs]/\bs.length<=1000/\P (aD (dm true) true (aS bs)) [none]
def sH:US:=
 (aC (aX (oh (uC (.int (-1))) (cZ (ae (uC (.int 0)) ao))) (au 1))
 (aC (eR (pF bt (aj bc (aa 0) (uC (.int 1)))) (gb 2 (bz (au 2) (bz (gb 2 (bz (au 3) (bz (au 4) gc))) gc)))
 (jh 1 (aa 2) (aA bp cD (ae (aa 4) ao))))
 (bM (ff 1))))
theorem tF:∀ds P,ds.length=cV.length->fi ds P->sH (bC cV P) (az (5-cV.length) ds):=by
 rintro ds P - ⟨m,bs,rfl,hl,k⟩
 simp only[az,cV,List.map_cons,List.map_nil,List.length_cons,List.length_nil,Nat.reduceAdd,Nat.reduceSub,List.replicate,List.cons_append,List.nil_append]
 unfold sH
 have hB:=bG cy (xs:=bs)
 have hb:VS.bare (.lst false (bs.map (aN false)))=true:=by rw[jO,hB];rfl
 simp only[aY]
 repeat walk_at "u"
 have pr:∀(rest:List cj) (i:Nat),cu i (rest.map (aN false))=(rest.zipIdx i).map fun p=>D.tup [.int p.2,aN false p.1]:=by
  intro rest
  induction rest with
  |nil=>intro i;rfl
  |cons b r ih=>intro i;simp only[List.map_cons,cu,List.zipIdx_cons,ih]
 have fr:eA (bs.map (aN false))=bs.map (aN false):=aV (fw false)
 rw[fr]
 refine bL (fun xs e=>∃done rest:List cj,bs=done++rest/\xs=cu done.length (rest.map (aN false))/\∃o2 o3 o4,e=[some (aY false m bs),some (aD (dm true) true (aS done)),o2,o3,o4]) ?_ ?_ _ _ ⟨[],bs,rfl,rfl,_,_,_,rfl⟩
 ·rintro e ⟨done,rest,rfl,hx,o2,o3,o4,rfl⟩
  have:rest=[]:=by cases rest with
   |nil=>rfl
   |cons b r=>simp[cu] at hx
  subst this
  rw[List.append_nil] at k
  repeat walk_at "u"
  exact k
 ·rintro x xs e ih ⟨done,rest,rfl,hx,o2,o3,o4,rfl⟩
  cases rest with
  |nil=>simp[cu] at hx
  |cons b r=>
   simp only[List.map_cons,cu,List.cons.injEq] at hx
   obtain⟨rfl,rfl⟩:=hx
   simp only[aN]
   have yF:(aS done).lookup (done.length:Int)=none:=lookup_none.mpr fun h=>by
    rcases cX.mp h with h|h<;>omega
   have W9:(List.map (fun p:Int×List Int=>dm true p.2) (aS done)).length<=1000000:=by rw[List.length_map,iL];simp at hl;omega
   repeat walk_at "u"
   rw[b.2.aU]
   refine⟨b.2,rfl,?_⟩
   refine⟨iW _,rfl,?_⟩
   have hd:=wx (f:=dm true) (aS done) (done.length:Int) (lead b.2) yF
   repeat walk_at "u"
   rw[hd]
   exact ih _ ⟨done++[b],r,by simp,by simp,_,_,_,by rw[x4]⟩
theorem gY.tree.len{g:Gr}{L:Option Int}{s:Int}{c:gY}(h:c.tree g L s)(hg:MP g)(hs:s∈keys g):c.length<=g.length:=by
 have:=uI (keys c) (keys g) h.1 fun x hx=>(h.reach x hx).key hg hs
 simpa[keys] using this
theorem gY.tree.start{g:Gr}{L:Option Int}{s:Int}{c:gY}(h:c.tree g L s):s∈keys c:=by
 obtain⟨_,⟨r,rfl⟩,_⟩:=h
 simp[keys]
theorem gY.tree.one{g:Gr}{L:Option Int}{s:Int}:gY.tree g L s [(s,none)]:=by
 refine⟨by simp[keys],⟨[],rfl⟩,fun a k o b e ha=>?_⟩
 cases a with
 |nil=>exact(ha rfl).elim
 |cons x a=>simp at e
theorem pk{o:Bool}{g:Gr}{u:Int}(h:u∈keys g):bO (g.map fun p=>DK.s (.inl p.1)) (g.map fun p=>dm o p.2) (.s (.inl u))=some (dm o (fV g u)):=by
 rw[nH (f:=dm o)]
 cases e:g.lookup u with
 |none=>exact(lookup_none.mp e h).elim
 |some l=>simp[fV,e]
theorem MA{v:Int}{L:Option Int}:tU (.int v) (kJ L)=some (decide (L=some v)):=by
 cases L with
 |none=>simp[kJ,tU]
 |some a=>simp[kJ,tU];exact⟨fun h=>h.symm,fun h=>h.symm⟩
def gY.shut(g:Gr)(L:Option Int)(c:gY)(n:Nat):Prop:=∀u∈(keys c).take n,∀v∈fV g u,L≠some v->v∈keys c
theorem gY.tree.done{g:Gr}{L:Option Int}{s:Int}{c:gY}(h:c.tree g L s)(hc:c.shut g L c.length):c.ok g L s:=by
 refine⟨h,fun v=>⟨h.reach v,fun r=>?_⟩⟩
 induction r with
 |start=>exact h.start
 |step _ hv hL ih=>exact hc _ (by rw[List.take_of_length_le (by simp[keys])];exact ih) _ hv hL
theorem Cs{α:Type}{c:List (Int×α)}{k:Int}{x:α}:(keys (c++[(k,x)])).map D.int=(keys c).map D.int++[.int k]:=by simp[keys]
abbrev cb:List Bool:=[false,false,false]
def dw:fQ:=fun ds P=>∃(g:Gr) (s:Int) (L:Option Int),ds=[aD (dm false) false g,.int s,kJ L]/\MP g/\s∈keys g/\g.length<=100000/\∀c:gY,c.ok g L s->P (aD kJ true c) [none,none,none]
def pS:US:=
 (aC (aX (oh (a7 1) (uC .bH)) (au 3))
 (aC (aX (cZ (ae (a7 1) ao)) (au 4))
 (aC (aX (uC (.int 0)) (au 5))
 (aC (og (aR (aj (lN fun i j=>.bl (decide (i<j))) (aa 5) (qk kj (ae (aa 4) ao))))
 (aC (aX (aj dB (aa 4) (aa 5)) (au 6))
 (aC (eR (dQ bt (aj pN (aa 0) (aa 6))) (au 7)
 (dn (qG (aR (aj (kQ true) (aa 7) (aa 2))) (aR (aj (jV true) (aa 7) (aa 3))))
 (aC (jh 3 (aa 7) (a7 6))
 (cF 4 (ae (a7 7) ao)))
 cm))
 (Dm 5 (fun i j=>i+j) (uC (.int 1))))))
 (bM (ff 3))))))
theorem qZ:∀ds P,ds.length=cb.length->dw ds P->pS (bC cb P) (az (8-cb.length) ds):=by
 rintro ds P - ⟨g,s,L,rfl,hg,hs,hl,k⟩
 simp only[az,cb,List.map_cons,List.map_nil,List.length_cons,List.length_nil,Nat.reduceAdd,Nat.reduceSub,List.replicate,List.cons_append,List.nil_append]
 unfold pS
 repeat walk_at "u"
 refine n_ (fun m e=>∃(c:gY) (n:Nat) (o6 o7:Option D),c.tree g L s/\c.shut g L n/\n<=c.length/\m=g.length-n/\e=[some (aD (dm false) false g),some (.int s),some (kJ L),some (aD kJ true c),some (.lst true ((keys c).map .int)),some (.int n),o6,o7]) ⟨g.length,[(s,none)],0,_,_,gY.tree.one,fun u hu=>by simp at hu,by simp,rfl,rfl⟩ ?_
 rintro m e N ihW ⟨c,n,o6,o7,ht,hc,hn,rfl,rfl⟩
 have wk:=ht.len hg hs
 repeat walk_at "u"
 with_reducible refine fD ?_ ?_
 ·intro h
  have h:n<c.length:=by simpa[keys] using h
  have hk:n<(keys c).length:=by simpa[keys] using h
  have ea:il ((keys c).map D.int) (n:Int)=some (.int (keys c)[n]):=by rw[qw (by omega) (by omega)];rfl
  have hu:(keys c)[n]∈keys c:=List.getElem_mem _
  have rT:(keys c).take (n+1)=(keys c).take n++[(keys c)[n]]:=by simp
  generalize (keys c)[n]=u at ea hu rT
  have hug:u∈keys g:=(ht.reach u hu).key hg hs
  have tS:=pk (o:=false) hug
  have hb:=kO (fV g u)
  repeat walk_at "u"
  rw[fL]
  refine bL (fun xs e=>∃(c':gY) (pre vs:List Int) (o7:Option D),xs=vs.map .int/\fV g u=pre++vs/\(∀v∈pre,L≠some v->v∈keys c')/\c'.tree g L s/\(∃ext,c'=c++ext)/\e=[some (aD (dm false) false g),some (.int s),some (kJ L),some (aD kJ true c'),some (.lst true ((keys c').map .int)),some (.int n),some (.int u),o7]) ?_ ?_ _ _ ⟨c,[],fV g u,_,rfl,rfl,fun v hv=>by simp at hv,ht,⟨[],by simp⟩,rfl⟩
  ·rintro e ⟨c',pre,vs,o7,hx,hp,tR,Nh,⟨ext,rfl⟩,rfl⟩
   have:vs=[]:=by simpa using hx.symm
   subst this
   rw[List.append_nil] at hp
   repeat walk_at "u"
   refine ihW (g.length-(n+1)) _ (by omega) ⟨c++ext,n+1,_,_,Nh,?_,by simp;omega,rfl,rfl⟩
   have Me:(keys (c++ext)).take (n+1)=(keys c).take (n+1):=by
    rw[keys,List.map_append,List.take_append_of_le_length (by simp[keys] at hk ⊢;omega)];rfl
   intro w hw v hv hL
   rw[Me,rT] at hw
   rcases List.mem_append.mp hw with hw|hw
   ·have:=hc w hw v hv hL
    simp only[keys,List.map_append,List.mem_append] at this ⊢
    exact .inl this
   ·rw[List.mem_singleton.mp hw] at hv
    exact tR v (hp ▸ hv) hL
  ·rintro x xs e ih ⟨c',pre,vs,o7,hx,hp,tR,Nh,⟨ext,rfl⟩,rfl⟩
   cases vs with
   |nil=>simp at hx
   |cons v vs=>
    simp only[List.map_cons,List.cons.injEq] at hx
    obtain⟨rfl,rfl⟩:=hx
    have Uh:=Nh.len hg hs
    have CW:v∈fV g u:=by rw[hp];simp
    have heq:=MA (v:=v) (L:=L)
    have pK:((c++ext).map fun p=>kJ p.2).length<=1000000:=by rw[List.length_map];omega
    have rV:((keys (c++ext)).map D.int).length<=1000000:=by simp[keys] at Uh ⊢;omega
    repeat walk_at "u"
    with_reducible refine fD ?_ ?_
    ·intro h
     have hL:L≠some v:=by simpa using h
     repeat walk_at "u"
     with_reducible refine fD ?_ ?_
     ·intro h
      have yF:(c++ext).lookup v=none:=by
       rw[nH (f:=kJ)] at h
       simpa using h
      have hd:dput ((c++ext).map fun p=>DK.s (.inl p.1)) ((c++ext).map fun p=>kJ p.2) (.s (.inl v)) (.int u)=(((c++ext)++[(v,some u)]).map (fun p=>DK.s (.inl p.1)),((c++ext)++[(v,some u)]).map (fun p=>kJ p.2)):=wx (f:=kJ) (c++ext) v (some u) yF
      repeat walk_at "u"
      rw[hd,<-Cs (x:=some u)]
      refine ih _ ⟨(c++ext)++[(v,some u)],pre++[v],vs,_,rfl,by rw[hp];simp,fun w hw Mm=>?_,Nh.snoc (by simp only[keys,List.map_append,List.mem_append];exact .inl hu) (lookup_none.mp yF) CW hL,⟨ext++[(v,some u)],by simp⟩,rfl⟩
      rcases List.mem_append.mp hw with hw|hw
      ·have:=tR w hw Mm
       simp only[keys,List.map_append,List.mem_append] at this ⊢
       exact .inl this
      ·rw[List.mem_singleton.mp hw];simp[keys]
     ·intro h
      have yd:v∈keys (c++ext):=by
       rw[nH (f:=kJ)] at h
       exact lookup_isSome.mp (by simpa using h)
      repeat walk_at "u"
      refine ih _ ⟨c++ext,pre++[v],vs,_,rfl,by rw[hp];simp,fun w hw Mm=>?_,Nh,⟨ext,rfl⟩,rfl⟩
      rcases List.mem_append.mp hw with hw|hw
      ·exact tR w hw Mm
      ·rw[List.mem_singleton.mp hw];exact yd
    ·intro h
     have hL:L=some v:=by simpa using h
     repeat walk_at "u"
     refine ih _ ⟨c++ext,pre++[v],vs,_,rfl,by rw[hp];simp,fun w hw Mm=>?_,Nh,⟨ext,rfl⟩,rfl⟩
     rcases List.mem_append.mp hw with hw|hw
     ·exact tR w hw Mm
     ·rw[List.mem_singleton.mp hw] at Mm;exact(Mm hL).elim
 ·intro h
  have h:c.length<=n:=by simpa[keys] using h
  have:n=c.length:=by omega
  subst this
  repeat walk_at "u"
  exact k c (ht.done hc)
theorem v_{α:Type}{a b:List (Int×α)}{k:Int}{x:α}(h:k∉keys a):(a++(k,x)::b).lookup k=some x:=by
 induction a with
 |nil=>simp[List.lookup]
 |cons y a ih=>
  obtain⟨j,z⟩:=y
  have h1:k≠j:=fun e=>h (by simp[keys,e])
  have h2:k∉keys a:=fun e=>h (by simp only[keys,List.map_cons,List.mem_cons];exact .inr e)
  have h3:(k==j)=false:=by simpa using h1
  simp only[List.cons_append,List.lookup,h3]
  exact ih h2
theorem my{α:Type}{l:List (Int×α)}{k:Int}(h:k∈keys l):∃a x b,l=a++(k,x)::b:=by
 obtain⟨⟨k',x⟩,hp,rfl⟩:=List.mem_map.mp h
 obtain⟨a,b,e⟩:=List.append_of_mem hp
 exact⟨a,x,b,e⟩
theorem LY{g:Gr}{s:Int}{L:Option Int}{P:D->ai->Prop}(h1:MP g)(h2:s∈keys g)(h3:g.length<=100000)(k:∀c:gY,c.ok g L s->P (aD kJ true c) [none,none,none]):dw [aD (dm false) false g,.int s,kJ L] P:=⟨g,s,L,rfl,h1,h2,h3,k⟩
theorem AY{m:Int}{bs:List cj}{P:D->ai->Prop}(h1:bs.length<=1000)(k:P (aD (dm true) true (aS bs)) [none]):fi [aY false m bs] P:=⟨m,bs,rfl,h1,k⟩
abbrev eB:List Bool:=[false,false]
def gQ:fQ:=fun ds P=>∃(g:Gr) (L:Option Int) (s b:Int) (c:gY),ds=[aD kJ false c,.int b]/\c.tree g L s/\b∈keys c/\c.length<=100000/\∀ws:List Int,P (dm true ws) [none,none]
def sA:US:=
 (aC (aX (cZ ao) (au 2))
 (aC (og (aR (pX (FF true) (aa 1)))
 (aC (cF 2 (ae (a7 1) ao))
 (aX (aj pN (aa 0) (aa 1)) (au 1))))
 (aC (ky 2)
 (bM (ff 2)))))
theorem tp:∀ds P,ds.length=eB.length->gQ ds P->sA (bC eB P) (az (3-eB.length) ds):=by
 rintro ds P - ⟨g,L,s,b,c,rfl,ht,hb,hl,k⟩
 simp only[az,eB,List.map_cons,List.map_nil,List.length_cons,List.length_nil,Nat.reduceAdd,Nat.reduceSub,List.replicate,List.cons_append,List.nil_append]
 unfold sA
 repeat walk_at "u"
 obtain⟨a0,x0,b0,e0⟩:=my hb
 refine n_ (fun m e=>∃(ws:List Int) (o:Option Int),ws.length+m<=c.length+1/\(o=none\/∃k a x b,o=some k/\c=a++(k,x)::b/\m=a.length+1)/\e=[some (aD kJ false c),some (kJ o),some (.lst true (ws.map .int))]) ⟨a0.length+1,[],some b,by rw[e0];simp<;>omega,.inr ⟨b,a0,x0,b0,rfl,e0,rfl⟩,rfl⟩ ?_
 rintro m e N ih ⟨ws,o,hw,ho,rfl⟩
 cases o with
 |none=>
  simp only[kJ]
  repeat walk_at "u"
  have:=k ws.reverse
  rw[dm,List.map_reverse] at this
  exact this
 |some v=>
  rcases ho with ho|⟨k',a,x,b',e1,e2,rfl⟩
  ·cases ho
  cases e1
  have hk:v∉keys a:=fun h=>by
   have:=ht.1
   rw[e2,keys,List.map_append,List.nodup_append] at this
   exact this.2.2 v h v (by simp) rfl
  have hd:bO (c.map fun p=>DK.s (.inl p.1)) (c.map fun p=>kJ p.2) (.s (.inl v))=some (kJ x):=by
   rw[nH (f:=kJ),e2,v_ hk];rfl
  have W7:=EO x
  have Rr:(ws.map D.int).length<=1000000:=by rw[List.length_map];omega
  simp only[kJ]
  repeat walk_at "u"
  by_cases hn:a=[]
  ·subst hn
   obtain⟨_,⟨r,hr⟩,_⟩:=ht
   rw[hr] at e2
   simp at e2
   obtain⟨⟨_,rfl⟩,_⟩:=e2
   exact ih 0 _ (by simp) ⟨ws++[v],none,by simp at hw ⊢;omega,.inl rfl,by simp[kJ]⟩
  ·obtain⟨p,rfl,hp,_,_⟩:=ht.2.2 a v x b' e2 hn
   obtain⟨a1,y,a2,e3⟩:=my hp
   subst e3
   refine ih (a1.length+1) _ (by simp<;>omega) ⟨ws++[v],some p,by simp at hw ⊢;omega,.inr ⟨p,a1,y,a2++(v,some p)::b',rfl,by rw[e2];simp,rfl⟩,by simp[kJ]⟩
abbrev Nd:List Bool:=[false,false,false]
def OG:fQ:=fun ds P=>∃(m:Int) (bs:List cj) (a b:Int),ds=[aY false m bs,.int a,.int b]/\Bs bs/\0<=a/\a<bs.length/\0<=b/\b<bs.length/\Reach (aS bs) none (-1) b/\(¬Reach (aS bs) (some a) (-1) b->P .bH [none,none,none])/\(Reach (aS bs) (some a) (-1) b->∀ws,P (dm true ws) [none,none,none])
def Qc:US:=
 (aC (aX (qk kj (ae (aj bc (aa 0) (uC (.int 1))) ao)) (au 3))
 (aC (dn (yO (aR (oj (fun i j=>decide (i<=j)) (fun i j=>decide (i<j)) (uC (.int 0)) (a7 1) (a7 3))))
 l8
 cm)
 (aC (dn (yO (aR (oj (fun i j=>decide (i<=j)) (fun i j=>decide (i<j)) (uC (.int 0)) (a7 2) (a7 3))))
 l8
 cm)
 (aC (aX (aA cV fi (ae (aa 0) ao)) (bx 4))
 (aC (dn (aR (aj (jV true) (aa 2) (aA cb dw (ae (aa 4) (ae (uC (.int (-1))) (ae (uC .bH) ao))))))
 l8
 cm)
 (aC (aX (aA cb dw (ae (aa 4) (ae (uC (.int (-1))) (ae (aa 1) ao)))) (bx 5))
 (bM (Aj (aR (aj (jV false) (aa 2) (aa 5))) (aA eB gQ (ae (aa 5) (ae (aa 2) ao))) (uC .bH)))))))))
theorem IF(n:Nat):fq 0 n=(List.range' 0 n).map fun(j:Nat)=>D.int j:=by simp[fq,List.range_eq_range']
theorem E2{α:Type}{ug:UG}{ut:UT}{inner:UL α}{k:α->ai->Prop}(n:Nat)(W:Nat->α->ai->Prop)(hn:∀a e,W n a e->k a e)(hs:∀(i:Nat) a e (N:α->ai->Prop),i<n->(∀a' e',W (i+1) a' e'->N a' e')->W i a e->ug (.int i) e fun e2=>ut e2 fun b e3=>if b=true then inner a e3 N else N a e3):∀a e,W 0 a e->eD ug ut inner k (fq 0 n) a e:=by
 have aux:∀k' i a e,i+k'=n->W i a e->eD ug ut inner k ((List.range' i k').map fun(j:Nat)=>D.int j) a e:=by
  intro k'
  induction k' with
  |zero=>intro i a e h w;exact hn a e (by rwa [show i=n by omega] at w)
  |succ k' ih=>intro i a e h w;exact hs i a e _ (by omega) (fun a' e' w'=>ih (i+1) a' e' (by omega) w') w
 intro a e w
 rw[IF]
 exact aux n 0 a e (by omega) w
theorem map_set{F F':Nat->D}{n j:Nat}(h:∀b,b<n->b≠j->F' b=F b):((List.range n).map F).set j (F' j)=(List.range n).map F':=by
 apply List.ext_getElem?
 intro i
 by_cases hi:i<n
 ·by_cases e:j=i
  ·subst e;simp[List.getElem?_set,hi]
  ·simp[List.getElem?_set,e,hi,h i hi (fun x=>e x.symm)]
 ·simp[List.getElem?_set,hi]
section
open Classical
noncomputable def S8 (bs:List cj) (n b:Nat):Option (List Int):=if Reach (aS bs) none (-1) b then some (((List.range n).filter fun(a:Nat)=>decide (¬Reach (aS bs) (some (a:Int)) (-1) b)).map fun(a:Nat)=>(a:Int)) else none
end
def mD(o:Bool):Option (List Int)->D|none=>.bH|some l=>dm o l
noncomputable abbrev OE (o:Bool) (bs:List cj):D:=.lst o ((List.range bs.length).map fun b=>mD o (S8 bs bs.length b))
abbrev LF:List Bool:=[false]
def Nf:fQ:=fun ds P=>∃(m:Int) (bs:List cj),ds=[aY false m bs]/\Bs bs/\P (OE true bs) [none]
def Nu:US:=
 (aC (aX (aA cV fi (ae (aa 0) ao)) (bx 1))
 (aC (aX (qk kj (ae (aj bc (aa 0) (uC (.int 1))) ao)) (au 2))
 (aC (aX (aA cb dw (ae (aa 1) (ae (uC (.int (-1))) (ae (uC .bH) ao)))) (bx 3))
 (aC (aX (gf 1 (fH (ae (a7 2) ao)) (au 0) l6 (fM (Aj (aR (aj (jV false) (aa 0) (aa 4))) (cZ ao) (uC .bH)))) (au 4))
 (aC (eR (fH (ae (a7 2) ao)) (au 5)
 (aC (aX (aA cb dw (ae (aa 1) (ae (uC (.int (-1))) (ae (aa 5) ao)))) (bx 6))
 (eR (fH (ae (a7 2) ao)) (au 7)
 (dn (qG (aR (aj (jV false) (aa 7) (aa 3))) (aR (aj (jV true) (aa 7) (aa 6))))
 (ji .lst 4 (mK 7) (mK 5))
 cm))))
 (bM (ff 4)))))))
theorem CK{α:Type}{a b:List (Int×α)}{v:Int}{x:α}(h:v∉keys a):Gu ((a++(v,x)::b).map fun p=>DK.s (.inl p.1)) (.s (.inl v))=some a.length:=by
 induction a with
 |nil=>simp[Gu]
 |cons y a ih=>
  obtain⟨j,z⟩:=y
  have h1:¬(DK.s (.inl j)=DK.s (.inl v)):=fun e=>h (by simp at e;simp[keys,e])
  have h2:v∉keys a:=fun e=>h (by simp only[keys,List.map_cons,List.mem_cons];exact .inr e)
  simp only[List.cons_append,List.map_cons,Gu,if_neg h1,ih h2,Option.map_some,List.length_cons]
theorem CO{a b:Gr}{v:Int}{l:List Int}(h:v∉keys a):child (aD (dm true) true (a++(v,l)::b)) (.int v)=some (.lst true (l.map .int),fun c'=>.cB true false ((a++(v,l)::b).map fun p=>.s (.inl p.1)) (((a++(v,l)::b).map fun p=>dm true p.2).set a.length c')):=by
 show(Gu _ _).bind _=_
 rw[CK h]
 simp
theorem oX{α:Type}(g:List (Int×α)):(g.map fun p=>DK.s (.inl p.1)).map rM=(keys g).map D.int:=by simp[keys,rM]
def BL(g S:Gr)(us:List Int):Prop:=∀u∈us,∀v∈fV g u,∃l,(v,l)∈S/\u∈l
theorem Ax{a b:Gr}{v u:Int}{l:List Int}{w x:Int}(h:∃l',(w,l')∈a++(v,l)::b/\x∈l'):∃l',(w,l')∈a++(v,l++[u])::b/\x∈l':=by
 obtain⟨l',hm,hx⟩:=h
 rcases List.mem_append.mp hm with h|h
 ·exact⟨l',by simp[h],hx⟩
 ·rcases List.mem_cons.mp h with h|h
  ·cases h;exact⟨l++[u],by simp,by simp[hx]⟩
  ·exact⟨l',by simp[h],hx⟩
def pH(g S:Gr):Prop:=keys S=keys g/\∀p∈S,∀x∈p.2,x∈keys g/\p.1∈fV g x
abbrev dG:List Bool:=[false]
def ir:fQ:=fun ds P=>∃g:Gr,ds=[aD (dm false) false g]/\(keys g).Nodup/\MP g/\g.length<=2000/\(∀u,(fV g u).length<=2)/\∀S:Gr,pH g S->BL g S (keys g)->(∀p∈S,p.2.length<=2 * g.length)->P (aD (dm true) true S) [none]
def nP:US:=
 (aC (aX (oi false 1 (dQ dz (aa 0)) (au 0) l6 (kR (a7 0) (cZ ao))) (au 1))
 (aC (eR (dQ dz (aa 0)) (au 2)
 (eR (dQ bt (aj pN (aa 0) (aa 2))) (au 3)
 (ji .cB 1 (mK 3) (mK 2))))
 (bM (ff 1))))
theorem p3:∀ds P,ds.length=dG.length->ir ds P->nP (bC dG P) (az (4-dG.length) ds):=by
 rintro ds P - ⟨g,rfl,hn,hg,hl,h2,k⟩
 simp only[az,dG,List.map_cons,List.map_nil,List.length_cons,List.length_nil,Nat.reduceAdd,Nat.reduceSub,List.replicate,List.cons_append,List.nil_append]
 unfold nP
 have hkl:(keys g).length=g.length:=by simp[keys]
 repeat walk_at "u"
 rw[oX]
 refine eZ (fun xs acc e=>∃(sT rest:List Int) (o:Option D),keys g=sT++rest/\xs=rest.map .int/\acc=⟨(sT.map fun x=>(x,([]:List Int))).map (fun p=>DK.s (.inl p.1)),(sT.map fun x=>(x,([]:List Int))).map (fun p=>dm true p.2)⟩/\e=[o,some (aD (dm false) false g),none,none,none]) ?_ ?_ _ _ _ ⟨[],keys g,_,rfl,rfl,rfl,rfl⟩
 ·rintro acc e ⟨sT,rest,o,h1,hx,rfl,rfl⟩
  have:rest=[]:=by simpa using hx.symm
  subst this
  rw[List.append_nil] at h1
  subst h1
  repeat walk_at "u"
  rw[oX]
  refine bL (fun xs e=>∃(sT rest:List Int) (S:Gr) (o2 o3:Option D),keys g=sT++rest/\xs=rest.map .int/\pH g S/\BL g S sT/\(∀p∈S,p.2.length<=2 * sT.length)/\e=[some (aD (dm false) false g),some (aD (dm true) true S),o2,o3]) ?_ ?_ _ _ ⟨[],keys g,(keys g).map fun x=>(x,[]),_,_,rfl,rfl,⟨by simp[keys],fun p hp x hx=>?_⟩,(fun u hu=>nomatch hu),fun p hp=>?_,rfl⟩
  ·rintro e ⟨sT,rest,S,o2,o3,h1,hx,hS,hC,zS,rfl⟩
   have:rest=[]:=by simpa using hx.symm
   subst this
   rw[List.append_nil] at h1
   subst h1
   repeat walk_at "u"
   exact k S hS hC (by rw[hkl] at zS;exact zS)
  ·rintro x xs e ih ⟨sT,rest,S,o2,o3,h1,hx,hS,hC,zS,rfl⟩
   cases rest with
   |nil=>simp at hx
   |cons u rest=>
    simp only[List.map_cons,List.cons.injEq] at hx
    obtain⟨rfl,rfl⟩:=hx
    have hu:u∈keys g:=by rw[h1];simp
    have aa':sT.length<=2000:=by
     have:(keys g).length=sT.length+(rest.length+1):=by rw[h1];simp
     omega
    have tS:=pk (o:=false) hu
    have hb:=kO (fV g u)
    repeat walk_at "u"
    rw[fL]
    refine bL (fun xs e=>∃(pre vs:List Int) (S:Gr) (o3:Option D),fV g u=pre++vs/\xs=vs.map .int/\pH g S/\(BL g S sT/\∀v∈pre,∃l,(v,l)∈S/\u∈l)/\(∀p∈S,p.2.length<=2 * sT.length+pre.length)/\e=[some (aD (dm false) false g),some (aD (dm true) true S),some (.int u),o3]) ?_ ?_ _ _ ⟨[],fV g u,S,_,rfl,rfl,hS,⟨hC,(fun v hv=>nomatch hv)⟩,zS,rfl⟩
    ·rintro e ⟨pre,vs,S,o3,hp,hx,hS,hC,zS,rfl⟩
     have:vs=[]:=by simpa using hx.symm
     subst this
     rw[List.append_nil] at hp
     refine ih _ ⟨sT++[u],rest,S,_,_,by rw[h1];simp,rfl,hS,fun x hx v hv=>?_,fun p O_=>?_,rfl⟩
     ·rcases List.mem_append.mp hx with z|z
      ·exact hC.1 x z v hv
      ·rw[List.mem_singleton.mp z] at hv ⊢
       rw[hp] at hv
       exact hC.2 v hv
     have:=zS p O_
     have:=h2 u
     rw[hp] at this
     simp at this ⊢
     omega
    ·rintro x xs e wO ⟨pre,vs,S,o3,hp,hx,hS,hC,zS,rfl⟩
     cases vs with
     |nil=>simp at hx
     |cons v vs=>
      simp only[List.map_cons,List.cons.injEq] at hx
      obtain⟨rfl,rfl⟩:=hx
      have WG:v∈fV g u:=by rw[hp];simp
      have hv:v∈keys S:=by rw[hS.1];exact hg u v WG
      obtain⟨a,l,b,rfl⟩:=my hv
      have hva:v∉keys a:=fun h=>by
       have RB:=hn
       rw[<-hS.1,keys,List.map_append,List.nodup_append] at RB
       exact RB.2.2 v h v (by simp) rfl
      have IW:=zS (v,l) (by simp)
      have sR:pre.length<=2:=by have:=h2 u;rw[hp] at this;simp at this;omega
      simp only[] at IW
      repeat walk_at "u"
      refine zM ⟨_,.int v,.int u,_,_,rfl,⟨_,_,_,rfl⟩,⟨rfl,rfl⟩,⟨rfl,rfl⟩,CO hva,by rw[List.length_map];omega,?_⟩
      repeat walk_at "u"
      refine wO _ ⟨pre++[v],vs,a++(v,l++[u])::b,some (.int v),by rw[hp];simp,rfl,⟨by rw[<-hS.1];simp[keys],fun p O_ x hx=>?_⟩,⟨fun x hx w hw=>Ax (hC.1 x hx w hw),fun w hw=>?_⟩,fun p O_=>?_,?_⟩
      ·rcases List.mem_append.mp O_ with h|h
       ·exact hS.2 p (by simp[h]) x hx
       ·rcases List.mem_cons.mp h with rfl|h
        ·rcases List.mem_append.mp hx with hx|hx
         ·exact hS.2 (v,l) (by simp) x hx
         ·rw[List.mem_singleton.mp hx];exact⟨hu,WG⟩
        ·exact hS.2 p (by simp[h]) x hx
      ·rcases List.mem_append.mp hw with z|z
       ·exact Ax (hC.2 w z)
       ·rw[List.mem_singleton.mp z];exact⟨l++[u],by simp,by simp⟩
      ·rcases List.mem_append.mp O_ with h|h
       ·have:=zS p (by simp[h]);simp;omega
       ·rcases List.mem_cons.mp h with rfl|h
        ·simp;omega
        ·have:=zS p (by simp[h]);simp;omega
      ·simp[aD,dm]
  ·obtain⟨y,_,rfl⟩:=List.mem_map.mp hp;simp at hx
  ·obtain⟨y,_,rfl⟩:=List.mem_map.mp hp;simp
 ·rintro x xs acc e ih ⟨sT,rest,o,h1,hx,rfl,rfl⟩
  cases rest with
  |nil=>simp at hx
  |cons u rest=>
   simp only[List.map_cons,List.cons.injEq] at hx
   obtain⟨rfl,rfl⟩:=hx
   have yF:(sT.map fun x=>(x,([]:List Int))).lookup u=none:=lookup_none.mpr fun h=>by
    simp[keys] at h
    rw[h1,List.nodup_append] at hn
    exact hn.2.2 u h u (by simp) rfl
   have hd:=wx (f:=dm true) _ u ([]:List Int) yF
   have IW:((sT.map fun x=>(x,([]:List Int))).map (fun p=>dm true p.2)).length<=1000000:=by
    have:(keys g).length=sT.length+(rest.length+1):=by rw[h1];simp
    simp;omega
   repeat walk_at "u"
   refine ih _ _ ⟨sT++[u],rest,_,by rw[h1];simp,rfl,?_,rfl⟩
   have hd2:dput ((sT.map fun x=>(x,([]:List Int))).map (fun p=>DK.s (.inl p.1))) ((sT.map fun x=>(x,([]:List Int))).map (fun p=>dm true p.2)) (.s (.inl u)) (.lst true [])=_:=hd
   rw[hd2]
   simp
abbrev jT:List Bool:=[false]
def rG:fQ:=fun ds P=>∃(m:Int) (bs:List cj),ds=[aY false m bs]/\Bs bs/\∀(S:Gr),pH (aS bs) S->BL (aS bs) S (keys (aS bs))->(∀p∈S,p.2.length<=2 * (bs.length+1))->P (.lst true ((List.range bs.length).map fun(b:Nat)=>dm false (fV S b))) [none]
def F_:US:=
 (aC (aX (aA dG ir (ae (aA cV fi (ae (aa 0) ao)) ao)) (bx 1))
 (bM (gf 1 (fH (ae (qk kj (ae (aj bc (aa 0) (uC (.int 1))) ao)) ao)) (au 0) l6 (fM (aj pN (aa 2) (aa 0))))))
theorem Cb:∀ds P,ds.length=jT.length->rG ds P->F_ (bC jT P) (az (2-jT.length) ds):=by
 rintro ds P - ⟨m,bs,rfl,hB,k⟩
 simp only[az,jT,List.map_cons,List.map_nil,List.length_cons,List.length_nil,Nat.reduceAdd,Nat.reduceSub,List.replicate,List.cons_append,List.nil_append]
 unfold F_
 have uS:VS.bare (.lst false (bs.map (aN false)))=true:=by rw[jO,bG cy];rfl
 have hg:=hB.g
 have hl0:=hB.2.1
 have pK:(aS bs).length<=2000:=by rw[iL];omega
 have eN:∀o,aU (aD (dm o) o (aS bs))=aD (dm false) false (aS bs):=fun o=>sv (lu o) o _
 have eP:aU (.tup [.int m,.lst false (bs.map (aN false))])=aY false m bs:=dZ false m bs
 have hnf:=wJ iW (aS bs)
 have eL:((bs.map (aN false)).length:Int)=bs.length:=by rw[List.length_map]
 have yc:(keys (aS bs)).Nodup:=by
  simp only[keys,aS,List.map_cons,List.map_map,List.nodup_cons]
  refine⟨fun h=>?_,?_⟩
  ·obtain⟨⟨b,i⟩,_,e⟩:=List.mem_map.mp h
   simp at e
  ·have:(bs.zipIdx.map ((fun p:Int×List Int=>p.1) ∘ fun p:cj×Nat=>((p.2:Int),lead p.1.2)))=(List.range' 0 bs.length).map (fun(n:Nat)=>(n:Int)):=by
    rw[<-List.zipIdx_map_snd 0 bs,List.map_map];rfl
   rw[this]
   exact List.Pairwise.map (fun(n:Nat)=>(n:Int)) (fun a b (h:a≠b)=>by show(a:Int)≠(b:Int);omega) List.nodup_range'
 have OY:∀u,(fV (aS bs) u).length<=2:=fun u=>by
  unfold fV
  cases e:(aS bs).lookup u with
  |none=>simp
  |some l=>
   have hm:=iX e
   simp only[aS,List.mem_cons,List.mem_map,Prod.mk.injEq] at hm
   rcases hm with⟨rfl,rfl⟩|⟨⟨b,i⟩,hm,rfl,rfl⟩
   ·simp
   ·show(lead b.2).length<=2
    cases b.2 with
    |stop=>simp[lead]
    |go a=>simp[lead]
    |choose p a b=>simp only[lead];split<;>simp
 simp only[aY]
 repeat walk_at "u"
 rw[eP]
 refine AY (by omega) ?_
 repeat walk_at "u"
 rw[eN true]
 refine⟨aS bs,rfl,yc,hg,pK,OY,fun S hS hC zS=>?_⟩
 have hSn:=wJ iW S
 repeat walk_at "u"
 rw[sv (lu true),eL]
 repeat walk_at "u"
 rw[show((bs.length:Int)).toNat=bs.length from rfl]
 refine E2 bs.length (fun i acc e=>acc=(List.range i).map (fun(b:Nat)=>dm false (fV S b))/\∃o,e=[o,some (aY false m bs),some (aD (dm false) false S)]) ?_ ?_ _ _ ⟨rfl,_,rfl⟩
 ·rintro acc e ⟨rfl,o,rfl⟩
  repeat walk_at "u"
  exact k S hS hC (by rw[iL] at zS;exact zS)
 ·rintro i acc e N hi ih ⟨rfl,o,rfl⟩
  have Xa:((List.range i).map (fun(b:Nat)=>dm false (fV S b))).length<=1000000:=by simp;omega
  have tS:=pk (o:=false) (g:=S) (u:=(i:Int)) (by rw[hS.1];exact cX.mpr (.inr ⟨by omega,by omega⟩))
  have W7:=kO (fV S (i:Int))
  repeat walk_at "u"
  refine ih _ _ ⟨?_,_,rfl⟩
  rw[List.range_succ,List.map_append,List.map_singleton]
def ax.putN:ax->List Str | .put x _=>[x] | .tell _=>[]
def bZ(dl:List ax):List Str:=dl.flatMap ax.putN
abbrev SS:=List (Str×Bool)
abbrev gD(o:Bool)(l:SS):D:=sD D.bl o l
def a6(l:SS):List Str:=l.map (·.1)
theorem yZ(l:SS):VS.eX (gD true l)=true:=by simp only[gD,sD,HL,eW (f:=fun p:Str×Bool=>D.bl p.2) (fun _=>rfl)];rfl
theorem vy(o:Bool)(l:SS):VS.aU (gD o l)=gD false l:=by simp only[gD,sD,zj,aV (f:=fun p:Str×Bool=>D.bl p.2) (fun _=>Ei)]
theorem qm(l:SS):VS.bare (gD false l)=true:=by simp only[gD,sD,Oh,bG (f:=fun p:Str×Bool=>D.bl p.2) (fun _=>rfl)];rfl
theorem IA{l:SS}{x:Str}:(l.lookup x).isSome=decide (x∈a6 l):=by
 induction l with
 |nil=>simp[a6]
 |cons p l ih=>
  obtain⟨y,u⟩:=p
  rw[List.lookup_cons]
  by_cases e:x=y
  ·subst e;simp[a6]
  ·have:(x==y)=false:=by simpa using e
   rw[this,ih];simp[a6,e]
theorem nE{l:SS}{x:Str}:(bO (l.map fun p=>DK.s (.inr p.1)) (l.map fun p=>D.bl p.2) (.s (.inr x))).isSome=decide (x∈a6 l):=by
 rw[wB (f:=D.bl),Option.isSome_map,IA]
theorem iA{l:SS}{x:Str}{b:Bool}{y:Str}:y∈a6 (dg l x b)↔y∈a6 l\/y=x:=oy x b l y
theorem Sx{l:SS}:gD true l=.cB true false (l.map fun p=>DK.s (.inr p.1)) (l.map fun p=>D.bl p.2):=rfl
abbrev dt:List Bool:=[false]
def fX:fQ:=fun ds P=>∃dl:List ax,ds=[.lst false (dl.map ax.d)]/\dl.length<=1000/\∀l:SS,(∀x,x∈a6 l↔x∈bZ dl)->(a6 l).Nodup->l.length<=dl.length->P (gD true l) [none]
def pR:US:=
 (bM (oi false 1 (dQ bt (aa 0)) (au 0) (aR (aj (kQ false) (aj bc (aa 0) (uC (.int 0))) (uC (.str "put")))) (kR (aj bc (aa 0) (uC (.int 1))) (uC (.bl true)))))
theorem qY:∀ds P,ds.length=dt.length->fX ds P->pR (bC dt P) (az (1-dt.length) ds):=by
 rintro ds P - ⟨dl,rfl,hl,k⟩
 simp only[az,dt,List.map_cons,List.map_nil,List.length_cons,List.length_nil,Nat.reduceAdd,Nat.reduceSub,List.replicate,List.cons_append,List.nil_append]
 unfold pR
 have jo:=bG (xs:=dl) ax.bare
 repeat walk_at "u"
 refine eZ (fun xs acc e=>∃(pre post:List ax) (l:SS) (o:Option D),dl=pre++post/\xs=post.map ax.d/\(∀x,x∈a6 l↔x∈bZ pre)/\(a6 l).Nodup/\l.length<=pre.length/\acc=⟨l.map (fun p=>DK.s (.inr p.1)),l.map (fun p=>D.bl p.2)⟩/\e=[o,some (.lst false (dl.map ax.d))]) ?_ ?_ _ _ _ ⟨[],dl,[],_,rfl,rfl,(fun x=>by simp[a6,bZ]),by simp[a6],by simp,rfl,rfl⟩
 ·rintro acc e ⟨pre,post,l,o,h1,h2,h3,h5,h4,rfl,rfl⟩
  have:post=[]:=by simpa using h2.symm
  subst this
  rw[List.append_nil] at h1
  subst h1
  repeat walk_at "u"
  exact k l h3 h5 h4
 ·rintro x xs acc e ih ⟨pre,post,l,o,h1,h2,h3,h5,h4,rfl,rfl⟩
  cases post with
  |nil=>simp at h2
  |cons d post=>
   simp only[List.map_cons,List.cons.injEq] at h2
   obtain⟨rfl,rfl⟩:=h2
   have sR:pre.length<=1000:=by rw[h1] at hl;simp at hl;omega
   have hz:(l.map fun p=>D.bl p.2).length<=1000000:=by rw[List.length_map];omega
   cases d with
   |put x w=>
    have hb:=w.bare
    simp only[ax.d]
    repeat walk_at "u"
    rw[kS (f:=D.bl)]
    exact ih _ _ ⟨pre++[.put x w],post,dg l x true,_,by rw[h1];simp,rfl,fun y=>by rw[iA,h3];simp[bZ,ax.putN],jB x true l h5,by have:=iC x true l;simp;omega,rfl,rfl⟩
   |tell p=>
    have hb:=p.bare
    have e1:tU (.str "tell") (.str "put")=some false:=by decide +kernel
    simp only[ax.d]
    repeat walk_at "u"
    exact ih _ _ ⟨pre++[.tell p],post,l,_,by rw[h1];simp,rfl,fun y=>by rw[h3];simp[bZ,ax.putN],h5,by simp;omega,rfl,rfl⟩
theorem pJ{dl:List ax}{P:D->ai->Prop}(h:dl.length<=1000)(k:∀l:SS,(∀x,x∈a6 l↔x∈bZ dl)->P (gD true l) [none]):fX [.lst false (dl.map ax.d)] P:=⟨dl,rfl,h,fun l hl _ _=>k l hl⟩
def gk(e:End):List Str->List ax->List Str
 |put,[]=>(aG e.parts).filter fun x=>decide (x∉put)
 |put,d::dl=>((aG d.parts).filter fun x=>decide (x∉put))++gk e (put++d.putN) dl
def bV(b:cj):List Str:=gk b.2 [] b.1
theorem uG{e:End}:∀(dl:List ax) (put:List Str),(gk e put dl).length<=2 * dl.length+1
 | [],put=>by
  have h1:=List.length_filter_le (fun x=>decide (x∉put)) (aG e.parts)
  have h2:=eI (ps:=e.parts)
  have h3:=jX (e:=e)
  simp only[gk,List.length_nil];omega
 |d::dl,put=>by
  have h1:=List.length_filter_le (fun x=>decide (x∉put)) (aG d.parts)
  have h2:=eI (ps:=d.parts)
  have h3:=mF (w:=d)
  have h4:=uG (e:=e) dl (put++d.putN)
  simp only[gk,List.length_append,List.length_cons];omega
theorem zC{α:Type}{ug:UG}{ut:UT}{inner:UL α}{k:α->ai->Prop}{x:D}{xs:List D}{acc:α}{e:ai}(h:ug x e fun e2=>ut e2 fun b e3=>if b=true then inner acc e3 (eD ug ut inner k xs) else eD ug ut inner k xs acc e3):eD ug ut inner k (x::xs) acc e:=h
theorem A9{l:SS}{put xs:List Str}(h:∀x,x∈a6 l↔x∈put):(xs.filter fun x=>decide (x∉a6 l))=xs.filter fun x=>decide (x∉put):=List.filter_congr fun x _=>by simp[h x]
theorem qu{l:SS}{k:List D->ai->Prop}{b d e u q:Option D}:∀(xs pre:List Str) (o:Option D),pre.length+xs.length<=1000000->(∀o,k ((pre++xs.filter (fun x=>decide (x∉a6 l))).map .str) [o,b,d,e,some (gD true l),u,q])->eD (au 0) (aR (aj (jV true) (aa 0) (aa 4))) (fM (a7 0)) k (xs.map .str) (pre.map .str) [o,b,d,e,some (gD true l),u,q]
 | [],pre,o,_,h=>by have:=h o;rw[List.filter_nil,List.append_nil] at this;exact this
 |x::xs,pre,o,hl,h=>by
  have hz:(pre.map D.str).length<=1000000:=by rw[List.length_map];simp at hl;omega
  have h1:=qu (l:=l) (k:=k) (b:=b) (d:=d) (e:=e) (u:=u) (q:=q) xs pre (some (.str x)) (by simp at hl ⊢;omega)
  have h2:=qu (l:=l) (k:=k) (b:=b) (d:=d) (e:=e) (u:=u) (q:=q) xs (pre++[x]) (some (.str x)) (by simp at hl ⊢;omega)
  rw[List.map_cons]
  refine zC ?_
  rw[Sx] at h1 h2 h ⊢
  repeat walk_at "u"
  rw[nE]
  by_cases hm:x∈a6 l
  ·have e1:(!decide (x∈a6 l))=false:=by simp[hm]
   rw[e1]
   repeat walk_at "u"
   refine h1 fun o=>?_
   have:=h o
   rw[List.filter_cons,if_neg (by simp[hm])] at this
   exact this
  ·have e1:(!decide (x∈a6 l))=true:=by simp[hm]
   rw[e1]
   repeat walk_at "u"
   rw[show pre.map D.str++[D.str x]=(pre++[x]).map D.str by simp]
   refine h2 fun o=>?_
   have:=h o
   rw[List.filter_cons,if_pos (by simp[hm])] at this
   simpa using this
abbrev bT:List Bool:=[false]
def dk:fQ:=fun ds P=>∃b:cj,ds=[aN false b]/\b.1.length<=1000/\(∀d∈b.1,d.ij)/\P (.lst true ((bV b).map .str)) [none]
def kc:US:=
 (aC (aX (a7 0) (gb 2 (bz (bx 1) (bz (bx 2) gc))))
 (aC (aX (xc false) (au 3))
 (aC (aX (cZ ao) (au 4))
 (aC (eR (dQ bt (aa 1)) (au 5)
 (aC (iV 4 (ae (gf 1 (dQ bt (aA bW du (ae (aA bS di (ae (aa 5) ao)) ao))) (au 0) (aR (aj (jV true) (aa 0) (aa 4))) (fM (a7 0))) ao))
 (dn (aR (aj (kQ false) (aj bc (aa 5) (uC (.int 0))) (uC (.str "put"))))
 (jh 3 (aj bc (aa 5) (uC (.int 1))) (uC (.bl true)))
 cm)))
 (aC (iV 4 (ae (gf 1 (dQ bt (aA bW du (ae (aA bB cM (ae (aa 2) ao)) ao))) (au 0) (aR (aj (jV true) (aa 0) (aa 4))) (fM (a7 0))) ao))
 (bM (ff 4)))))))
theorem ml:∀ds P,ds.length=bT.length->dk ds P->kc (bC bT P) (az (6-bT.length) ds):=by
 rintro ds P - ⟨⟨dl,en⟩,rfl,hl,Cz,k⟩
 simp only[az,bT,List.map_cons,List.map_nil,List.length_cons,List.length_nil,Nat.reduceAdd,Nat.reduceSub,List.replicate,List.cons_append,List.nil_append]
 unfold kc
 have zQ:=cy (dl,en)
 have jo:=bG (xs:=dl) ax.bare
 have Ud:=en.bare
 have tS:=jq dl
 have Gj:=en.aU
 simp only[aN] at zQ hl ⊢
 repeat walk_at "u"
 rw[tS,Gj]
 repeat walk_at "u"
 rw[aV ax.aU]
 refine bL (fun xs e=>∃(pre post:List ax) (l:SS) (us:List Str) (o5:Option D),dl=pre++post/\xs=post.map ax.d/\(∀x,x∈a6 l↔x∈bZ pre)/\l.length<=pre.length/\us.length<=2 * pre.length/\us++gk en (bZ pre) post=bV (dl,en)/\e=[some (.tup [.lst false (dl.map ax.d),en.d]),some (.lst false (dl.map ax.d)),some en.d,some (gD true l),some (.lst true (us.map .str)),o5]) ?_ ?_ _ _ ⟨[],dl,[],[],_,rfl,rfl,(fun x=>by simp[a6,bZ]),by simp,by simp,rfl,rfl⟩
 ·rintro e ⟨pre,post,l,us,o5,h1,h2,h3,h4,h5,h6,rfl⟩
  have:post=[]:=by simpa using h2.symm
  subst this
  rw[List.append_nil] at h1
  subst h1
  have sR:=jX (e:=en)
  have WO:=eI (ps:=en.parts)
  have JO:=eW (xs:=en.parts) Part.eX
  have TH:VS.eX (.lst true (en.parts.map Part.d))=true:=by rw[p1,JO];rfl
  have OV:=eU (aG en.parts)
  have huz:(us.map D.str).length<=1000000:=by simp;omega
  repeat walk_at "u"
  rw[Gj]
  refine iY ?_
  repeat walk_at "u"
  rw[bY,aV Part.aU]
  refine iu (by omega) ?_
  repeat walk_at "u"
  rw[el]
  refine qu (aG en.parts) [] _ (by simp;omega) fun o=>?_
  have Po:=List.length_filter_le (fun x=>decide (x∉bZ dl)) (aG en.parts)
  rw[List.nil_append,A9 h3]
  have h7:gk en (bZ dl) []=(aG en.parts).filter fun x=>decide (x∉bZ dl):=rfl
  rw[h7] at h6
  generalize ((aG en.parts).filter fun x=>decide (x∉bZ dl))=fs at Po h6 ⊢
  have hfb:=c7 (xs:=fs)
  have hz:(us.map D.str).length+(fs.map D.str).length<=1000000:=by simp only[List.length_map];omega
  repeat walk_at "u"
  rw[<-List.map_append,h6]
  exact k
 ·rintro x xs e ih ⟨pre,post,l,us,o5,h1,h2,h3,h4,h5,h6,rfl⟩
  cases post with
  |nil=>simp at h2
  |cons d post=>
   simp only[List.map_cons,List.cons.injEq] at h2
   obtain⟨rfl,rfl⟩:=h2
   have Mg:=Cz d (by rw[h1];simp)
   have aaI:pre.length<=1000:=by rw[h1] at hl;simp at hl;omega
   have sR:=mF (w:=d)
   have WO:=eI (ps:=d.parts)
   have TH:=lg d.parts
   have OV:=eU (aG d.parts)
   have Ue:=d.aU
   repeat walk_at "u"
   rw[Ue]
   refine j9 Mg ?_
   repeat walk_at "u"
   rw[oH]
   refine iu (by omega) ?_
   repeat walk_at "u"
   rw[el]
   refine qu (aG d.parts) [] _ (by simp;omega) fun o=>?_
   have Po:=List.length_filter_le (fun x=>decide (x∉bZ pre)) (aG d.parts)
   rw[List.nil_append,A9 h3]
   have h7:gk en (bZ pre) (d::post)=((aG d.parts).filter fun x=>decide (x∉bZ pre))++gk en (bZ pre++d.putN) post:=rfl
   rw[h7,<-List.append_assoc] at h6
   generalize ((aG d.parts).filter fun x=>decide (x∉bZ pre))=fs at Po h6 ⊢
   have hfb:=c7 (xs:=fs)
   have hz:(us.map D.str).length+(fs.map D.str).length<=1000000:=by simp only[List.length_map];omega
   have hlz:(l.map fun p=>D.bl p.2).length<=1000000:=by rw[List.length_map];omega
   have TF:bZ pre++d.putN=bZ (pre++[d]):=by simp[bZ]
   rw[TF] at h6
   cases d with
   |put x w=>
    have hb:=w.bare
    have oQ:=fun o5=>ih [some (.tup [.lst false (dl.map ax.d),en.d]),some (.lst false (dl.map ax.d)),some en.d,some (gD true (dg l x true)),some (.lst true ((us++fs).map .str)),o5] ⟨pre++[.put x w],post,dg l x true,us++fs,o5,by rw[h1];simp,rfl,fun y=>by rw[iA,h3];simp[bZ,ax.putN],by have:=iC x true l;simp;omega,by simp;omega,h6,rfl⟩
    simp only[ax.d]
    rw[Sx]
    repeat walk_at "u"
    rw[kS (f:=D.bl),<-List.map_append]
    exact oQ _
   |tell p=>
    have hb:=p.bare
    have e1:tU (.str "tell") (.str "put")=some false:=by decide +kernel
    have oQ:=fun o5=>ih [some (.tup [.lst false (dl.map ax.d),en.d]),some (.lst false (dl.map ax.d)),some en.d,some (gD true l),some (.lst true ((us++fs).map .str)),o5] ⟨pre++[.tell p],post,l,us++fs,o5,by rw[h1];simp,rfl,fun y=>by rw[h3];simp[bZ,ax.putN],by simp;omega,by simp;omega,h6,rfl⟩
    simp only[ax.d]
    repeat walk_at "u"
    rw[<-List.map_append]
    exact oQ _
theorem uR{b:cj}{P:D->ai->Prop}(h1:b.1.length<=1000)(h2:∀d∈b.1,d.ij)(k:P (.lst true ((bV b).map .str)) [none]):dk [aN false b] P:=⟨b,rfl,h1,h2,k⟩
inductive iT (bs:List cj) (x:Str):Nat->Prop
 |here {i:Nat}{b:cj}:bs[i]? = some b->x∈bV b->iT bs x i
 |on {i j:Nat}{b:cj}:bs[i]? = some b->x∉bZ b.1->(j:Int)∈lead b.2->iT bs x j->iT bs x i
def hasB(Bl:List SS)(i:Nat)(x:Str):Prop:=∃l,Bl[i]? = some l/\x∈a6 l
abbrev pairD(p:Nat×Str):D:=.tup [.int p.1,.str p.2]
structure lO(bs:List cj)(xs:List Str)(Bl:List SS)(line:List (Nat×Str)):Prop where
 len:Bl.length=bs.length
 nd:∀l∈Bl,(a6 l).Nodup
 sub:∀l∈Bl,∀x∈a6 l,x∈xs
 lw:∀p∈line,p.1<bs.length/\iT bs p.2 p.1/\p.2∈xs
 bw:∀i x,hasB Bl i x->iT bs x i
 c1:∀i b,bs[i]? = some b->∀x∈bV b,hasB Bl i x\/(i,x)∈line
 c2:∀j x,hasB Bl j x->∀i b,bs[i]? = some b->(j:Int)∈lead b.2->x∉bZ b.1->hasB Bl i x\/(i,x)∈line
theorem lO.skip{bs:List cj}{xs:List Str}{Bl:List SS}{L:List (Nat×Str)}{i:Nat}{x:Str}(h:lO bs xs Bl (L++[(i,x)]))(hb:hasB Bl i x):lO bs xs Bl L:=by
 have go:∀{j:Nat}{y:Str},hasB Bl j y\/(j,y)∈L++[(i,x)]->hasB Bl j y\/(j,y)∈L:=fun{j y} q=>by
  rcases q with q|q
  ·exact .inl q
  ·rcases List.mem_append.mp q with q|q
   ·exact .inr q
   ·cases List.mem_singleton.mp q;exact .inl hb
 exact⟨h.len,h.nd,h.sub,fun p hp=>h.lw p (List.mem_append_left _ hp),h.bw,fun i b e x hx=>go (h.c1 i b e x hx),fun j x q i b e hl hp=>go (h.c2 j x q i b e hl hp)⟩
theorem nv{Bl:List SS}{i:Nat}{l:SS}{x:Str}(hi:Bl[i]? = some l){j:Nat}{y:Str}:hasB (Bl.set i (dg l x true)) j y↔hasB Bl j y\/(j=i/\y=x):=by
 have iZ:i<Bl.length:=(List.getElem?_eq_some_iff.mp hi).1
 unfold hasB
 by_cases e:j=i
 ·subst e
  rw[List.getElem?_set_self iZ,hi]
  constructor
  ·rintro⟨_,z,hy⟩
   cases z
   rcases iA.mp hy with q|q
   ·exact .inl ⟨l,rfl,q⟩
   ·exact .inr ⟨rfl,q⟩
  ·rintro(⟨_,z,hy⟩|⟨_,rfl⟩)
   ·cases z;exact⟨_,rfl,iA.mpr (.inl hy)⟩
   ·exact⟨_,rfl,iA.mpr (.inr rfl)⟩
 ·rw[List.getElem?_set_ne (Ne.symm e)]
  constructor
  ·exact fun q=>.inl q
  ·rintro(q|⟨q,_⟩)
   ·exact q
   ·exact absurd q e
theorem lO.put{bs:List cj}{xs:List Str}{Bl:List SS}{L add:List (Nat×Str)}{i:Nat}{x:Str}{l:SS}(h:lO bs xs Bl (L++[(i,x)]))(hi:Bl[i]? = some l)
  (ha:∀p∈add,p.2=x/\∃b,bs[p.1]? = some b/\x∉bZ b.1/\(i:Int)∈lead b.2) (hc:∀j b,bs[j]? = some b->(i:Int)∈lead b.2->x∉bZ b.1->(j,x)∈add):lO bs xs (Bl.set i (dg l x true)) (L++add):=by
 obtain⟨hw1,WE,WD⟩:=h.lw (i,x) (by simp)
 have hm:=List.mem_of_getElem? hi
 have go:∀{j:Nat}{y:Str},hasB Bl j y\/(j,y)∈L++[(i,x)]->hasB (Bl.set i (dg l x true)) j y\/(j,y)∈L++add:=fun{j y} q=>by
  rcases q with q|q
  ·exact .inl ((nv hi).mpr (.inl q))
  ·rcases List.mem_append.mp q with q|q
   ·exact .inr (List.mem_append_left _ q)
   ·cases List.mem_singleton.mp q;exact .inl ((nv hi).mpr (.inr ⟨rfl,rfl⟩))
 refine⟨by rw[List.length_set,h.len],fun q hq=>?_,fun q hq y hy=>?_,fun p hp=>?_,fun j y q=>?_,fun i b e x hx=>go (h.c1 i b e x hx),fun j y q j' b e hl hp=>?_⟩
 ·rcases List.mem_or_eq_of_mem_set hq with q|q
  ·exact h.nd _ q
  ·rw[q];exact jB x true l (h.nd l hm)
 ·rcases List.mem_or_eq_of_mem_set hq with q|q
  ·exact h.sub _ q y hy
  ·rw[q] at hy
   rcases iA.mp hy with z|z
   ·exact h.sub l hm y z
   ·rw[z];exact WD
 ·rcases List.mem_append.mp hp with z|z
  ·exact h.lw p (List.mem_append_left _ z)
  ·obtain⟨e,b,hb,hn,hl⟩:=ha p z
   rw[e]
   exact⟨(List.getElem?_eq_some_iff.mp hb).1,.on hb hn hl WE,WD⟩
 ·rcases(nv hi).mp q with q|⟨rfl,rfl⟩
  ·exact h.bw j y q
  ·exact WE
 ·rcases(nv hi).mp q with q|⟨rfl,rfl⟩
  ·exact go (h.c2 j y q j' b e hl hp)
  ·exact .inr (List.mem_append_right _ (hc j' b e hl hp))
theorem lO.done{bs:List cj}{xs:List Str}{Bl:List SS}(h:lO bs xs Bl []){i:Nat}{x:Str}:hasB Bl i x↔iT bs x i:=by
 refine⟨h.bw i x,fun w=>?_⟩
 induction w with
 |here hb hx=>exact(h.c1 _ _ hb _ hx).resolve_right (by simp)
 |on hb hn hl _ ih=>exact(h.c2 _ _ ih _ _ hb hl hn).resolve_right (by simp)
def wN(Bl:List SS):Nat:=(Bl.map List.length).sum
theorem Ao{l l':SS}:∀{Bl:List SS}{i:Nat},Bl[i]? = some l->wN (Bl.set i l')+l.length=wN Bl+l'.length
 | [],i,h=>by simp at h
 |a::Bl,0,h=>by cases (show some a=some l from h);simp[wN];omega
 |a::Bl,i+1,h=>by have:=Ao (l':=l') (Bl:=Bl) (i:=i) (by simpa using h);simp only[wN,List.set_cons_succ,List.map_cons,List.sum_cons] at this ⊢;omega
theorem Dp{K:Nat}:∀{Bl:List SS},(∀l∈Bl,l.length<=K)->wN Bl<=Bl.length * K
 | [],_=>by simp[wN]
 |a::Bl,h=>by
  have h1:=h a (.head _)
  have h2:=Dp (K:=K) (Bl:=Bl) fun l hl=>h l (.tail _ hl)
  simp only[wN,List.map_cons,List.sum_cons,List.length_cons,Nat.add_mul,Nat.one_mul] at h2 ⊢;omega
theorem lO.wN{bs:List cj}{xs:List Str}{Bl:List SS}{L:List (Nat×Str)}(h:lO bs xs Bl L):wN Bl<=bs.length * xs.length:=by
 rw[<-h.len]
 refine Dp fun l hl=>?_
 have:=g8 (a6 l) xs (h.nd l hl) (h.sub l hl)
 simpa[a6] using this
theorem mT{x:Str}{b:Bool}:∀{l:SS},x∉a6 l->(dg l x b).length=l.length+1
 | [],_=>by simp[dg]
 |(y,u)::l,h=>by
  have h1:¬y=x:=fun e=>h (by simp[a6,e])
  have h2:x∉a6 l:=fun e=>h (by simp only[a6,List.map_cons,List.mem_cons];exact .inr e)
  simp only[dg,if_neg h1,List.length_cons,mT h2]
theorem FR{Bl:List SS}{i:Nat}{l:SS}(h:Bl[i]? = some l):child (.lst true (Bl.map (gD true))) (.int i)=some (gD true l,fun c'=>.lst true ((Bl.map (gD true)).set i c')):=by
 have iZ:i<Bl.length:=(List.getElem?_eq_some_iff.mp h).1
 show(x6 _ _).bind _=_
 rw[LR (by omega) (by simp;omega)]
 simp[h]
def fF:Nat->List cj->List (Nat×Str)
 |_,[]=>[]
 |i,b::bs=>(bV b).map (fun x=>(i,x))++fF (i+1) bs
theorem mw{j:Nat}{x:Str}:∀{bs:List cj}{i:Nat},(j,x)∈fF i bs↔∃k b,bs[k]? = some b/\x∈bV b/\j=i+k
 | [],i=>by simp[fF]
 |b::bs,i=>by
  rw[fF,List.mem_append,mw]
  constructor
  ·rintro(h|⟨k,b',h1,h2,h3⟩)
   ·obtain⟨y,hy,e⟩:=List.mem_map.mp h
    cases e
    exact⟨0,b,rfl,hy,rfl⟩
   ·exact⟨k+1,b',h1,h2,by omega⟩
  ·rintro⟨k,b',h1,h2,h3⟩
   cases k with
   |zero=>cases (show some b=some b' from h1);exact .inl (List.mem_map.mpr ⟨x,h2,by rw[h3];rfl⟩)
   |succ k=>exact .inr ⟨k,b',h1,h2,by omega⟩
theorem yf{n i:Nat}{x:Str}(h:hasB (List.replicate n ([]:SS)) i x):False:=by
 obtain⟨l,e,hx⟩:=h
 have:=List.eq_of_mem_replicate (List.mem_of_getElem? e)
 rw[this] at hx
 cases hx
theorem lO.start{bs:List cj}{xs:List Str}(hx:∀b∈bs,∀x∈bV b,x∈xs):lO bs xs (List.replicate bs.length []) (fF 0 bs):=by
 refine⟨by simp,fun l hl=>by rw[List.eq_of_mem_replicate hl];simp[a6],(fun l hl x hx=>by rw[List.eq_of_mem_replicate hl] at hx;cases hx),fun p hp=>?_,fun i x h=>(yf h).elim,fun i b e x hx=>.inr (mw.mpr ⟨i,b,e,hx,by omega⟩),fun j x h=>(yf h).elim⟩
 obtain⟨j,x⟩:=p
 obtain⟨k,b,h1,h2,h3⟩:=mw.mp hp
 have:j=k:=by omega
 subst this
 exact⟨(List.getElem?_eq_some_iff.mp h1).1,.here h1 h2,hx b (List.mem_of_getElem? h1) x h2⟩
theorem mx{K:Nat}:∀{bs:List cj}{i:Nat},(∀b∈bs,b.1.length<=K)->(fF i bs).length<=bs.length * (2 * K+1)
 | [],i,_=>by simp[fF]
 |b::bs,i,h=>by
  have h1:=uG (e:=b.2) b.1 []
  have h2:=h b (.head _)
  have h3:=mx (K:=K) (bs:=bs) (i:=i+1) fun x hx=>h x (.tail _ hx)
  simp only[fF,List.length_append,List.length_map,List.length_cons,Nat.add_mul,Nat.one_mul,bV] at h3 ⊢
  omega
theorem uM{bs:List cj}:(keys (aS bs)).Nodup:=by
 simp only[keys,aS,List.map_cons,List.map_map,List.nodup_cons]
 refine⟨fun h=>?_,?_⟩
 ·obtain⟨⟨b,i⟩,_,e⟩:=List.mem_map.mp h
  simp at e
 ·have:(bs.zipIdx.map ((fun p:Int×List Int=>p.1) ∘ fun p:cj×Nat=>((p.2:Int),lead p.1.2)))=(List.range' 0 bs.length).map (fun(n:Nat)=>(n:Int)):=by
   rw[<-List.zipIdx_map_snd 0 bs,List.map_map];rfl
  rw[this]
  exact List.Pairwise.map (fun(n:Nat)=>(n:Int)) (fun a b (h:a≠b)=>by show(a:Int)≠(b:Int);omega) List.nodup_range'
theorem oS{α:Type}{k:Int}{x:α}:∀{l:List (Int×α)},(keys l).Nodup->(k,x)∈l->l.lookup k=some x
 | [],_,h=>by cases h
 |(j,y)::l,hn,h=>by
  simp only[keys,List.map_cons,List.nodup_cons] at hn
  rw[List.lookup_cons]
  rcases List.mem_cons.mp h with e|h
  ·cases e;simp
  ·have:k≠j:=fun e=>hn.1 (by rw[<-e];exact List.mem_map.mpr ⟨(k,x),h,rfl⟩)
   have:(k==j)=false:=by simpa using this
   rw[this];exact oS hn.2 h
theorem qI{bs:List cj}{j:Nat}{b:cj}(h:bs[j]? = some b):fV (aS bs) (j:Int)=lead b.2:=by
 unfold fV
 rw[oS (x:=lead b.2) uM (by
  simp only[aS,List.mem_cons,List.mem_map]
  exact .inr ⟨(b,j),List.mem_zipIdx_iff_getElem?.mpr h,rfl⟩)]
 rfl
theorem As{S:Gr}{i:Int}(h:i∈keys S):(i,fV S i)∈S:=by
 have:=lookup_isSome.mpr h
 unfold fV
 cases e:S.lookup i with
 |none=>rw[e] at this;cases this
 |some l=>exact iX e
section
variable {bs:List cj}{S:Gr}{i j:Nat}{b:cj}
theorem Ay(hS:pH (aS bs) S)(hi:i<bs.length):(i:Int)∈keys S:=by rw[hS.1];exact cX.mpr (.inr ⟨by omega,by omega⟩)
theorem BK(hS:pH (aS bs) S)(hi:i<bs.length){u:Int}(hu:u∈fV S i):u = -1\/∃(j:Nat) (b:cj),u=(j:Int)/\bs[j]? = some b/\(i:Int)∈lead b.2:=by
 obtain⟨h1,h2⟩:=hS.2 _ (As (Ay hS hi)) u hu
 rcases cX.mp h1 with h|⟨h3,h4⟩
 ·exact .inl h
 ·obtain⟨j,rfl⟩:=Int.eq_ofNat_of_zero_le h3
  have hj:j<bs.length:=by omega
  have e:bs[j]? = some bs[j]:=List.getElem?_eq_getElem hj
  rw[qI e] at h2
  exact .inr ⟨j,_,rfl,e,h2⟩
theorem vz(hS:pH (aS bs) S)(hC:BL (aS bs) S (keys (aS bs)))(hb:bs[j]? = some b)(hl:(i:Int)∈lead b.2):(j:Int)∈fV S i:=by
 have hj:=(List.getElem?_eq_some_iff.mp hb).1
 obtain⟨l,h1,h2⟩:=hC j (cX.mpr (.inr ⟨by omega,by omega⟩)) i (by rw[qI hb];exact hl)
 have hn:(keys S).Nodup:=by rw[hS.1];exact uM
 unfold fV
 rw[oS hn h1]
 exact h2
end
theorem IK{m:Int}{bs:List cj}{P:D->ai->Prop}(h:Bs bs)(k:∀(S:Gr),pH (aS bs) S->BL (aS bs) S (keys (aS bs))->(∀p∈S,p.2.length<=2 * (bs.length+1))->P (.lst true ((List.range bs.length).map fun(b:Nat)=>dm false (fV S b))) [none]):rG [aY false m bs] P:=⟨m,bs,rfl,h,k⟩
theorem fA{α:Type}{f:α->D}{xs:List α}{i:Nat}{l:α}(h:xs[i]? = some l):il (xs.map f) (i:Int)=some (f l):=by
 obtain⟨iZ,e⟩:=List.getElem?_eq_some_iff.mp h
 rw[qw (by omega) (by omega)]
 simp[e]
abbrev dT(o:Bool)(l:SS):D:=.cB o false (l.map fun p=>DK.s (.inr p.1)) (l.map fun p=>D.bl p.2)
theorem EK(p:Nat×Str):VS.aU (pairD p)=pairD p:=by simp only[pairD,jN,e_,fK,ie,i9]
theorem Mp{a b c d:D}{Bl:List SS}{L:List (Nat×Str)}{i:Int}{x:Str}{o:Option D}(ha:VS.aU a=a)(hb:VS.aU b=b)(hc:VS.aU c=c)(hd:VS.aU d=d):tT [some a,some b,some c,some d,some (.lst true (Bl.map (gD true))),some (.lst true (L.map pairD)),some (.int i),some (.str x),o]=[some a,some b,some c,some d,some (.lst false (Bl.map (gD false))),some (.lst false (L.map pairD)),some (.int i),some (.str x),o.map VS.aU]:=by
 rw[kP,kP,kP,kP,kP,kP,kP,kP,ha,hb,hc,hd,bY,bY,aV (vy true),aV EK,ie,i9]
 rfl
abbrev bJ:List Bool:=[false]
def c_:fQ:=fun ds P=>∃(m:Int) (bs:List cj) (xs:List Str),ds=[aY false m bs]/\Bs bs/\bs.length<=30/\xs.length<=63/\(∀b∈bs,b.1.length<=100)/\(∀b∈bs,∀d∈b.1,d.ij)/\(∀b∈bs,∀x∈bV b,x∈xs)/\∀Bl:List SS,lO bs xs Bl []->P (.lst true (Bl.map (gD true))) [none]
def iO:US:=
 (aC (aX (aj bc (aa 0) (uC (.int 1))) (bx 1))
 (aC (aX (qE jT rG (ae (aa 0) ao)) (bx 2))
 (aC (aX (gf 2 (dQ bt (aa 1)) (gb 2 (bz (au 0) (bz (au 1) gc))) l6 (fM (aA dt fX (ae (aa 0) ao)))) (bx 3))
 (aC (aX (gf 1 (dQ bt (aa 1)) (au 0) l6 (fM (xc false))) (au 4))
 (aC (aX (gf 3 (pF bt (aa 1)) (gb 2 (bz (au 0) (bz (au 1) gc))) l6 (iw (dQ bt (aA bT dk (ae (aa 1) ao))) (au 2) l6 (fM (gE (ae (a7 0) (ae (a7 2) ao)))))) (au 5))
 (aC (og (l7 (aa 5))
 (aC (aX (Dl 5) (gb 2 (bz (au 6) (bz (au 7) gc))))
 (aC (dn (vp (aR (aj (jV false) (aa 7) (aj dB (aa 4) (aa 6)))))
 Am
 cm)
 (aC (mS .lst 4 (mK 6) (mK 7) (xC (.bl true)))
 (eR (dQ bt (aj dB (aa 2) (aa 6))) (au 8)
 (dn (qG (aR (aj (kQ true) (aa 8) (uC (.int (-1))))) (aR (aj (jV true) (aa 7) (aj dB (aa 3) (aa 8)))))
 (cF 5 (ae (gE (ae (a7 8) (ae (a7 7) ao))) ao))
 cm))))))
 (bM (ff 4))))))))
theorem kh:∀ds P,ds.length=bJ.length->c_ ds P->iO (bC bJ P) (az (9-bJ.length) ds):=by
 rintro ds P - ⟨m,bs,xs,rfl,hB,hn,hx,hK,Cz,IS,k⟩
 simp only[az,bJ,List.map_cons,List.map_nil,List.length_cons,List.length_nil,Nat.reduceAdd,Nat.reduceSub,List.replicate,List.cons_append,List.nil_append]
 unfold iO
 have uS:=bG (xs:=bs) cy
 have zR:VS.bare (.lst false (bs.map (aN false)))=true:=by rw[jO,uS];rfl
 have CD:VS.aU (.lst false (bs.map (aN false)))=.lst false (bs.map (aN false)):=by rw[bY,aV (fw false)]
 have JP:=dZ false m bs
 simp only[aY] at JP ⊢
 repeat walk_at "u"
 rw[CD]
 have hps:m_ [some (.tup [.int m,.lst false (bs.map (aN false))]),some (.lst false (bs.map (aN false))),none,none,none,none,none,none,none] [.var 0]=some [aY false m bs]:=by
  show(if VS.bare (aY false m bs)=true then some [VS.aU (aY false m bs)] else none)=_
  rw[if_pos (uB m bs),dZ]
 repeat walk_at "u"
 refine IK hB fun S hS hC zS=>?_
 have WL:VS.aU (.lst true ((List.range bs.length).map fun(b:Nat)=>dm false (fV S b)))=.lst false ((List.range bs.length).map fun(b:Nat)=>dm false (fV S b)):=by rw[bY,aV (fun b=>lu false _)]
 repeat walk_at "u"
 rw[WL]
 repeat walk_at "u"
 refine eZ (fun ws acc e=>∃(pre post:List cj) (Ps:List SS) (o0 o1:Option D),bs=pre++post/\ws=post.map (aN false)/\Ps.length=pre.length/\(∀(i:Nat) (b:cj) (l:SS),pre[i]? = some b->Ps[i]? = some l->∀x,x∈a6 l↔x∈bZ b.1)/\acc=Ps.map (gD true)/\e=[o0,o1,some (.tup [.int m,.lst false (bs.map (aN false))]),some (.lst false (bs.map (aN false))),some (.lst false ((List.range bs.length).map fun(b:Nat)=>dm false (fV S b))),none,none,none,none,none,none]) ?_ ?_ _ _ _ ⟨[],bs,[],_,_,rfl,rfl,rfl,(fun i b l h=>by simp at h),rfl,rfl⟩
 ·rintro acc e ⟨pre,post,Ps,o0,o1,h1,h2,RJ,hP,rfl,rfl⟩
  have:post=[]:=by simpa using h2.symm
  subst this
  rw[List.append_nil] at h1
  subst h1
  have TJ:VS.aU (.lst true (Ps.map (gD true)))=.lst false (Ps.map (gD false)):=by rw[bY,aV (vy true)]
  repeat walk_at "u"
  rw[TJ]
  repeat walk_at "u"
  refine eZ (fun ws acc e=>∃(xF post:List cj) (o0:Option D),bs=xF++post/\ws=post.map (aN false)/\acc=(List.replicate xF.length ([]:SS)).map (gD true)/\e=[o0,some (.tup [.int m,.lst false (bs.map (aN false))]),some (.lst false (bs.map (aN false))),some (.lst false ((List.range bs.length).map fun(b:Nat)=>dm false (fV S b))),some (.lst false (Ps.map (gD false))),none,none,none,none,none]) ?_ ?_ _ _ _ ⟨[],bs,_,rfl,rfl,rfl,rfl⟩
  rotate_left
  ·rintro x ws acc e ih ⟨xF,post,o0,h1,h2,rfl,rfl⟩
   cases post with
   |nil=>simp at h2
   |cons b post=>
    simp only[List.map_cons,List.cons.injEq] at h2
    obtain⟨rfl,rfl⟩:=h2
    have hz:((List.replicate xF.length ([]:SS)).map (gD true)).length<=1000000:=by simp;rw[h1] at hn;simp at hn;omega
    repeat walk_at "u"
    rw[show(List.replicate xF.length ([]:SS)).map (gD true)++[D.cB true false [] []]=(List.replicate (xF++[b]).length ([]:SS)).map (gD true) by rw[List.length_append,List.length_singleton,List.replicate_succ',List.map_append];rfl]
    exact ih _ _ ⟨xF++[b],post,_,by rw[h1];simp,rfl,rfl,rfl⟩
  ·rintro acc e ⟨xF,post,o0,h1,h2,rfl,rfl⟩
   have:post=[]:=by simpa using h2.symm
   subst this
   rw[List.append_nil] at h1
   subst h1
   repeat walk_at "u"
   refine eZ (fun ws acc e=>∃(pre post:List cj) (ln:List (Nat×Str)) (o0 o1 o2:Option D),bs=pre++post/\ws=cu pre.length (post.map (aN false))/\ln++fF pre.length post=fF 0 bs/\acc=ln.map pairD/\e=[o0,o1,o2,some (.tup [.int m,.lst false (bs.map (aN false))]),some (.lst false (bs.map (aN false))),some (.lst false ((List.range bs.length).map fun(b:Nat)=>dm false (fV S b))),some (.lst false (Ps.map (gD false))),some (.lst true ((List.replicate bs.length ([]:SS)).map (gD true))),none,none,none,none]) ?_ ?_ _ _ _ ⟨[],bs,[],_,_,_,rfl,rfl,rfl,rfl,rfl⟩
   rotate_left
   ·rintro x ws acc e ih ⟨pre,post,ln,o0,o1,o2,h1,h2,h3,rfl,rfl⟩
    cases post with
    |nil=>simp[cu] at h2
    |cons b post=>
     simp only[List.map_cons,cu,List.cons.injEq] at h2
     obtain⟨rfl,rfl⟩:=h2
     have A2:b∈bs:=by rw[h1];simp
     have Uk:=fw false b
     have abe:=cy b
     have OV:=eU (bV b)
     have IW:=mx (i:=0) hK
     repeat walk_at "u"
     refine yb ?_
     repeat walk_at "u"
     rw[Uk]
     refine uR (by have:=hK b A2;omega) (Cz b A2) ?_
     repeat walk_at "u"
     rw[el]
     have Md:ln.length+(bV b).length<=1000000:=by
      have:(fF 0 bs).length=ln.length+((bV b).length+(fF (pre.length+1) post).length):=by rw[<-h3];simp[fF]
      have h30:bs.length * (2 * 100+1)<=30 * (2 * 100+1):=Nat.mul_le_mul_right _ hn
      omega
     refine eZ (fun ws acc e=>∃(ps qs:List Str) (o2:Option D),bV b=ps++qs/\ws=qs.map .str/\acc=(ln++ps.map (fun x=>(pre.length,x))).map pairD/\e=[some (.int pre.length),some (aN false b),o2,some (.tup [.int m,.lst false (bs.map (aN false))]),some (.lst false (bs.map (aN false))),some (.lst false ((List.range bs.length).map fun(b:Nat)=>dm false (fV S b))),some (.lst false (Ps.map (gD false))),some (.lst true ((List.replicate bs.length ([]:SS)).map (gD true))),none,none,none,none]) ?_ ?_ _ _ _ ⟨[],bV b,_,rfl,rfl,by simp,rfl⟩
     ·rintro acc e ⟨ps,qs,o2,g1,g2,rfl,rfl⟩
      have:qs=[]:=by simpa using g2.symm
      subst this
      rw[List.append_nil] at g1
      refine ih _ _ ⟨pre++[b],post,ln++ps.map (fun x=>(pre.length,x)),_,_,_,by rw[h1];simp,by simp,?_,rfl,rfl⟩
      rw[<-h3,<-g1,List.append_assoc,List.length_append,List.length_singleton]
      rfl
     ·rintro x ws acc e wO ⟨ps,qs,o2,g1,g2,rfl,rfl⟩
      cases qs with
      |nil=>simp at g2
      |cons y qs=>
       simp only[List.map_cons,List.cons.injEq] at g2
       obtain⟨rfl,rfl⟩:=g2
       have hz:((ln++ps.map (fun x=>(pre.length,x))).map pairD).length<=1000000:=by rw[g1] at Md;simp at Md ⊢;omega
       repeat walk_at "u"
       refine wO _ _ ⟨ps++[y],qs,_,by rw[g1];simp,rfl,?_,rfl⟩
       simp
   ·rintro acc e ⟨pre,post,ln,o0,o1,o2,h1,h2,h3,rfl,rfl⟩
    have:post=[]:=by cases post with
     |nil=>rfl
     |cons b r=>simp[cu] at h2
    subst this
    rw[List.append_nil] at h1
    subst h1
    rw[show fF bs.length []=[] from rfl,List.append_nil] at h3
    subst h3
    repeat walk_at "u"
    have IW:=mx (i:=0) hK
    have hmx:(bs.length * xs.length) * (2 * (bs.length+1))+(fF 0 bs).length<=200000:=by
     have h30:bs.length * (2 * 100+1)<=30 * (2 * 100+1):=Nat.mul_le_mul_right _ hn
     have h31:bs.length * xs.length<=30 * 63:=Nat.mul_le_mul hn hx
     have h32:(bs.length * xs.length) * (2 * (bs.length+1))<=(30 * 63) * (2 * (30+1)):=Nat.mul_le_mul h31 (by omega)
     omega
    refine n_ (fun mm e=>∃(Bl:List SS) (line:List (Nat×Str)) (o6 o7 o8:Option D),lO bs xs Bl line/\mm=(bs.length * xs.length-wN Bl) * (2 * (bs.length+1))+line.length/\mm<=200000/\e=[some (.tup [.int m,.lst false (bs.map (aN false))]),some (.lst false (bs.map (aN false))),some (.lst false ((List.range bs.length).map fun(b:Nat)=>dm false (fV S b))),some (.lst false (Ps.map (gD false))),some (.lst true (Bl.map (gD true))),some (.lst true (line.map pairD)),o6,o7,o8]) ⟨_,List.replicate bs.length [],fF 0 bs,_,_,_,lO.start IS,rfl,?_,rfl⟩ ?_
    ·refine Nat.le_trans (Nat.add_le_add_right (Nat.mul_le_mul_right _ (Nat.sub_le _ _)) _) hmx
    rintro mm e N ih ⟨Bl,line,o6,o7,o8,hI,hm,RD,rfl⟩
    rcases List.eq_nil_or_concat line with rfl|⟨L,⟨i,x⟩,rfl⟩
    ·repeat walk_at "u"
     exact k Bl hI
    ·rw[List.concat_eq_append] at hI hm ⊢
     obtain⟨hi,hw,Th⟩:=hI.lw (i,x) (by simp)
     simp only[] at hi hw Th
     have hil:i<Bl.length:=by rw[hI.len];exact hi
     obtain⟨l,hl⟩:∃l,Bl[i]? = some l:=⟨_,List.getElem?_eq_getElem hil⟩
     have mI:il (Bl.map (gD false)) (i:Int)=some (dT false l):=fA hl
     have IX:VS.bare (dT false l)=true:=qm l
     have aaH:(L.map pairD++[pairD (i,x)])[(L.map pairD++[pairD (i,x)]).length-1]? = some (pairD (i,x)):=by simp
     have hdr:(L.map pairD++[pairD (i,x)]).dropLast=L.map pairD:=by simp
     have IV:VS.bare (pairD (i,x))=true:=rfl
     rw[List.map_append,List.map_singleton]
     repeat walk_at "u"
     rw[show(!(L.map pairD++[pairD (i,x)]).isEmpty)=true by simp]
     repeat walk_at "u"
     rw[hdr]
     repeat walk_at "u"
     refine IP ?_
     have Tt:VS.aU (.lst false ((List.range bs.length).map fun(b:Nat)=>dm false (fV S b)))=.lst false ((List.range bs.length).map fun(b:Nat)=>dm false (fV S b)):=by rw[bY,aV (fun b=>lu false _)]
     have Up:VS.aU (.lst false (Ps.map (gD false)))=.lst false (Ps.map (gD false)):=by rw[bY,aV (vy false)]
     rw[Mp JP CD Tt Up]
     repeat walk_at "u"
     rw[nE]
     by_cases Gi:x∈a6 l
     ·rw[show decide (x∈a6 l)=true by simp[Gi]]
      repeat walk_at "u"
      exact ih _ _ (by rw[hm];simp) ⟨Bl,L,_,_,_,hI.skip ⟨l,hl,Gi⟩,rfl,by rw[hm] at RD;simp at RD ⊢;omega,rfl⟩
     ·rw[show decide (x∈a6 l)=false by simp[Gi]]
      repeat walk_at "u"
      have IW:l.length<=63:=by
       have:=g8 (a6 l) xs (hI.nd l (List.mem_of_getElem? hl)) (hI.sub l (List.mem_of_getElem? hl))
       simp[a6] at this;omega
      refine Fd ⟨_,.int i,.str x,.bl true,false,l.map (fun p:Str×Bool=>DK.s (.inr p.1)),l.map (fun p:Str×Bool=>D.bl p.2),.s (.inr x),_,rfl,⟨_,rfl⟩,⟨rfl,rfl⟩,⟨rfl,rfl⟩,rfl,FR hl,rfl,by rw[List.length_map];omega,?_⟩
      rw[kS (f:=D.bl)]
      have Tu:(Bl.map (gD true)).set i (D.cB true false ((dg l x true).map fun p=>DK.s (.inr p.1)) ((dg l x true).map fun p=>D.bl p.2))=(Bl.set i (dg l x true)).map (gD true):=by rw[List.map_set];rfl
      have aaC:il ((List.range bs.length).map fun(b:Nat)=>dm false (fV S b)) (i:Int)=some (dm false (fV S i)):=by
       have:(List.range bs.length)[i]? = some i:=by rw[List.getElem?_range hi]
       exact fA (f:=fun(b:Nat)=>dm false (fV S b)) this
      have L9:=kO (fV S (i:Int))
      repeat walk_at "u"
      rw[Tu]
      repeat walk_at "u"
      rw[fL]
      have Ts:(fV S (i:Int)).length<=2 * (bs.length+1):=zS _ (As (Ay hS hi))
      have hLl:L.length<=200000:=by rw[hm] at RD;simp at RD;omega
      refine bL (fun ws e=>∃(pre post:List Int) (add:List (Nat×Str)) (o8:Option D),fV S (i:Int)=pre++post/\ws=post.map .int/\add.length<=pre.length/\(∀p∈add,p.2=x/\∃b,bs[p.1]? = some b/\x∉bZ b.1/\(i:Int)∈lead b.2)/\(∀(j:Nat) (b:cj),(j:Int)∈pre->bs[j]? = some b->x∉bZ b.1->(j,x)∈add)/\e=[some (.tup [.int m,.lst false (bs.map (aN false))]),some (.lst false (bs.map (aN false))),some (.lst false ((List.range bs.length).map fun(b:Nat)=>dm false (fV S b))),some (.lst false (Ps.map (gD false))),some (.lst true ((Bl.set i (dg l x true)).map (gD true))),some (.lst true ((L++add).map pairD)),some (.int i),some (.str x),o8]) ?_ ?_ _ _ ⟨[],fV S (i:Int),[],o8,rfl,rfl,by simp,(fun p hp=>nomatch hp),(fun j b hj=>nomatch hj),by rw[List.append_nil]⟩
      ·rintro e ⟨pre,post,add,o8,g1,g2,g3,g4,g5,rfl⟩
       have:post=[]:=by simpa using g2.symm
       subst this
       rw[List.append_nil] at g1
       have Xf:=hI.put hl g4 fun j b hb hl hp=>g5 j b (by rw[<-g1];exact vz hS hC hb hl) hb hp
       have ht2:=Xf.wN
       have hts:=Ao (l':=dg l x true) hl
       rw[mT Gi] at hts
       have Xa:add.length<=2 * (bs.length+1):=by rw[<-g1] at g3;omega
       refine ih _ _ ?_ ⟨_,L++add,_,_,_,Xf,rfl,?_,rfl⟩
       ·rw[hm]
        obtain⟨c,hc⟩:∃c,bs.length * xs.length-wN Bl=c+1:=⟨bs.length * xs.length-wN Bl-1,by omega⟩
        have Ui:bs.length * xs.length-wN (Bl.set i (dg l x true))=c:=by omega
        rw[hc,Ui,Nat.add_mul,Nat.one_mul]
        simp
        omega
       ·have:(bs.length * xs.length-wN (Bl.set i (dg l x true))) * (2 * (bs.length+1))+(L++add).length<=mm:=by
         rw[hm]
         obtain⟨c,hc⟩:∃c,bs.length * xs.length-wN Bl=c+1:=⟨bs.length * xs.length-wN Bl-1,by omega⟩
         have Ui:bs.length * xs.length-wN (Bl.set i (dg l x true))=c:=by omega
         rw[hc,Ui,Nat.add_mul,Nat.one_mul]
         simp
         omega
        omega
      ·rintro y ws e wO ⟨pre,post,add,o8,g1,g2,g3,g4,g5,rfl⟩
       cases post with
       |nil=>simp at g2
       |cons u post=>
        simp only[List.map_cons,List.cons.injEq] at g2
        obtain⟨rfl,rfl⟩:=g2
        have L7:=BK hS hi (u:=u) (by rw[g1];simp)
        have abo:(fV S (i:Int)).length=pre.length+(post.length+1):=by rw[g1];simp
        have Xa:add.length<=100:=by omega
        have hz:((L++add).map pairD).length<=1000000:=by simp;omega
        rcases L7 with rfl|⟨j,b,rfl,Ft,hlj⟩
        ·repeat walk_at "u"
         refine wO _ ⟨pre++[-1],post,add,_,by rw[g1];simp,rfl,by simp;omega,g4,fun j b hj=>?_,rfl⟩
         rcases List.mem_append.mp hj with z|z
         ·exact g5 j b z
         ·have:=List.mem_singleton.mp z;omega
        ·have hjl:=(List.getElem?_eq_some_iff.mp Ft).1
         obtain⟨lp,WS⟩:∃lp,Ps[j]? = some lp:=⟨_,List.getElem?_eq_getElem (by omega)⟩
         have abh:il (Ps.map (gD false)) (j:Int)=some (dT false lp):=fA WS
         have aaT:VS.bare (dT false lp)=true:=qm lp
         have Nj:=hP j b lp Ft WS x
         have oQ:=fun Qa o8 g3 g4 g5=>wO [some (.tup [.int m,.lst false (bs.map (aN false))]),some (.lst false (bs.map (aN false))),some (.lst false ((List.range bs.length).map fun(b:Nat)=>dm false (fV S b))),some (.lst false (Ps.map (gD false))),some (.lst true ((Bl.set i (dg l x true)).map (gD true))),some (.lst true ((L++Qa).map pairD)),some (.int i),some (.str x),o8] ⟨pre++[(j:Int)],post,Qa,o8,by rw[g1];simp,rfl,g3,g4,g5,rfl⟩
         have mem:∀{j':Nat},(j':Int)∈pre++[(j:Int)]->(j':Int)∈pre\/j'=j:=fun{j'} hj=>by
          rcases List.mem_append.mp hj with z|z
          ·exact .inl z
          ·have:=List.mem_singleton.mp z;exact .inr (by omega)
         repeat walk_at "u"
         rw[nE]
         by_cases Rp:x∈a6 lp
         ·rw[show(!decide (x∈a6 lp))=false by simp[Rp]]
          repeat walk_at "u"
          refine oQ add _ (by simp;omega) g4 fun j' b' hj ye hp=>?_
          rcases mem hj with z|rfl
          ·exact g5 j' b' z ye hp
          ·rw[Ft] at ye;cases ye;exact absurd (Nj.mp Rp) hp
         ·rw[show(!decide (x∈a6 lp))=true by simp[Rp]]
          repeat walk_at "u"
          rw[show(L++add).map pairD++[D.tup [D.int j,D.str x]]=(L++(add++[(j,x)])).map pairD by simp]
          refine oQ (add++[(j,x)]) _ (by simp;omega) (fun p hp=>?_) fun j' b' hj ye hp=>?_
          ·rcases List.mem_append.mp hp with z|z
           ·exact g4 p z
           ·rw[List.mem_singleton.mp z];exact⟨rfl,b,Ft,fun q=>Rp (Nj.mpr q),hlj⟩
          ·rcases mem hj with z|rfl
           ·exact List.mem_append_left _ (g5 j' b' z ye hp)
           ·simp
 ·rintro x ws acc e ih ⟨pre,post,Ps,o0,o1,h1,h2,RJ,hP,rfl,rfl⟩
  cases post with
  |nil=>simp at h2
  |cons b post=>
   simp only[List.map_cons,List.cons.injEq] at h2
   obtain⟨rfl,rfl⟩:=h2
   obtain⟨dl,en⟩:=b
   have A0:=hK (dl,en) (by rw[h1];simp)
   have hz:(Ps.map (gD true)).length<=1000000:=by rw[List.length_map,RJ];rw[h1] at hn;simp at hn;omega
   have tS:=jq dl
   have zQ:=cy (dl,en)
   simp only[aN] at zQ ⊢
   repeat walk_at "u"
   rw[tS]
   refine pJ (by simp only[] at A0;omega) fun l hl=>?_
   have Md:=yZ l
   repeat walk_at "u"
   rw[show Ps.map (gD true)++[gD true l]=(Ps++[l]).map (gD true) by simp]
   refine ih _ _ ⟨pre++[(dl,en)],post,Ps++[l],_,_,by rw[h1];simp,rfl,by simp[RJ],fun i b q hb hq x=>?_,rfl,rfl⟩
   rcases Nat.lt_or_ge i pre.length with z|z
   ·rw[List.getElem?_append_left z] at hb
    rw[List.getElem?_append_left (by omega)] at hq
    exact hP i b q hb hq x
   ·rw[List.getElem?_append_right z] at hb
    rw[List.getElem?_append_right (by omega),RJ] at hq
    cases hd:i-pre.length with
    |zero=>rw[hd] at hb hq;simp at hb hq;subst hb hq;exact hl x
    |succ n=>rw[hd] at hb;simp at hb
theorem Fb{m:Int}{bs:List cj}{xs:List Str}{P:D->ai->Prop}(h1:Bs bs)(h2:bs.length<=30)(h3:xs.length<=63)(h4:∀b∈bs,b.1.length<=100)(h5:∀b∈bs,∀d∈b.1,d.ij)(h6:∀b∈bs,∀x∈bV b,x∈xs)(k:∀Bl:List SS,lO bs xs Bl []->P (.lst true (Bl.map (gD true))) [none]):c_ [aY false m bs] P:=⟨m,bs,xs,rfl,h1,h2,h3,h4,h5,h6,k⟩
theorem E'{e:End}{P:D->ai->Prop}(k:P (dm true (lead e)) [none]):cD [e.d] P:=⟨e,rfl,k⟩
abbrev fG(o:Bool)(p:List Str×List Str):D:=.tup [.lst o (p.1.map .str),.lst o (p.2.map .str)]
def J0(r:Ref)(e:ai)(Q:Ref->ai->Prop):Prop:=∃(o:Bool) (xs:List Str) (ds:List D),r.at e=some (.cB o false (xs.map fun x=>.s (.inr x)) ds)/\xs.length<64/\∀ys:List Str,ys.Pairwise slt->(∀x,x∈ys↔x∈xs)->Q (.a8 (.lst true (ys.map D.str))) e
theorem IM{ua:UB}{env:ai}{Q:Ref->ai->Prop}(h:ua env fun r e=>J0 r e Q):mO ua env Q:=h
theorem DC{o:Bool}{l:SS}{e:ai}{Q:Ref->ai->Prop}(h1:l.length<64)(h:∀ys:List Str,ys.Pairwise slt->(∀x,x∈ys↔x∈a6 l)->Q (.a8 (.lst true (ys.map D.str))) e):J0 (.a8 (dT o l)) e Q:=⟨o,a6 l,l.map fun p=>D.bl p.2,by simp[a6,Ref.at,dT],by simpa[a6] using h1,h⟩
theorem ID(l:SS):(l.map fun p=>DK.s (.inr p.1)).map rM=(a6 l).map D.str:=by simp[a6,rM]
structure Vp(bs:List cj)(i:Nat)(b:cj)(p:List Str×List Str):Prop where
 bg:∀x,x∈p.1↔iT bs x i
 en:∀x,x∈p.2↔∃j:Nat,(j:Int)∈lead b.2/\iT bs x j
abbrev gM:List Bool:=[false]
def kM:fQ:=fun ds P=>∃(m:Int) (bs:List cj) (xs:List Str),ds=[aY false m bs]/\Bs bs/\bs.length<=30/\xs.length<=63/\(∀b∈bs,b.1.length<=100)/\(∀b∈bs,∀d∈b.1,d.ij)/\(∀b∈bs,∀x∈bV b,x∈xs)/\∀W:List (List Str×List Str),W.length=bs.length->(∀(i:Nat) (b:cj) (p:List Str×List Str),bs[i]? = some b->W[i]? = some p->Vp bs i b p)->P (.lst true (W.map (fG true))) [none]
def yx:US:=
 (aC (aX (aA bJ c_ (ae (aa 0) ao)) (bx 1))
 (aC (aX (cZ ao) (au 2))
 (aC (eR (pF bt (aj bc (aa 0) (uC (.int 1)))) (gb 2 (bz (au 3) (bz (gb 2 (bz (au 4) (bz (au 5) gc))) gc)))
 (aC (aX (gf 2 (dQ bt (aA bp cD (ae (aa 5) ao))) (au 0) l6 (iw (dQ dz (aj dB (aa 3) (aa 0))) (au 1) l6 (fM (a7 1)))) (bx 6))
 (cF 2 (ae (gE (ae (mO (aj dB (aa 1) (aa 3))) (ae (jg (aa 6)) ao))) ao))))
 (bM (ff 2)))))
theorem xA:∀ds P,ds.length=gM.length->kM ds P->yx (bC gM P) (az (7-gM.length) ds):=by
 rintro ds P - ⟨m,bs,xs,rfl,hB,hn,hx,hK,Cz,IS,k⟩
 simp only[az,gM,List.map_cons,List.map_nil,List.length_cons,List.length_nil,Nat.reduceAdd,Nat.reduceSub,List.replicate,List.cons_append,List.nil_append]
 unfold yx
 have uS:=bG (xs:=bs) cy
 have zR:VS.bare (.lst false (bs.map (aN false)))=true:=by rw[jO,uS];rfl
 have JP:=dZ false m bs
 have RG:eA (bs.map (aN false))=bs.map (aN false):=aV (fw false)
 repeat walk_at "u"
 rw[JP]
 refine Fb hB hn hx hK Cz IS fun Bl hI=>?_
 have hBn:VS.eX (.lst true (Bl.map (gD true)))=true:=by rw[p1,eW yZ];rfl
 have hBf:VS.aU (.lst true (Bl.map (gD true)))=.lst false (Bl.map (gD false)):=by rw[bY,aV (vy true)]
 repeat walk_at "u"
 rw[hBf]
 simp only[aY]
 repeat walk_at "u"
 rw[RG]
 refine bL (fun ws e=>∃(pre post:List cj) (W:List (List Str×List Str)) (o3 o4 o5 o6:Option D),bs=pre++post/\ws=cu pre.length (post.map (aN false))/\W.length=pre.length/\(∀(i:Nat) (b:cj) (p:List Str×List Str),pre[i]? = some b->W[i]? = some p->Vp bs i b p)/\e=[some (.tup [.int m,.lst false (bs.map (aN false))]),some (.lst false (Bl.map (gD false))),some (.lst true (W.map (fG true))),o3,o4,o5,o6]) ?_ ?_ _ _ ⟨[],bs,[],_,_,_,_,rfl,rfl,rfl,(fun i b p h=>by simp at h),rfl⟩
 ·rintro e ⟨pre,post,W,o3,o4,o5,o6,h1,h2,h3,h4,rfl⟩
  have:post=[]:=by cases post with
   |nil=>rfl
   |cons b r=>simp[cu] at h2
  subst this
  rw[List.append_nil] at h1
  subst h1
  repeat walk_at "u"
  exact k W h3 h4
 ·rintro x ws e ih ⟨pre,post,W,o3,o4,o5,o6,h1,h2,h3,h4,rfl⟩
  cases post with
  |nil=>simp[cu] at h2
  |cons b post=>
   simp only[List.map_cons,cu,List.cons.injEq] at h2
   obtain⟨rfl,rfl⟩:=h2
   obtain⟨dl,en⟩:=b
   have A2:(dl,en)∈bs:=by rw[h1];simp
   have RI:bs[pre.length]? = some (dl,en):=by rw[h1];simp
   have sR:pre.length<bs.length:=by rw[h1];simp
   have Gj:=en.aU
   have Md:=iW (lead en)
   have IW:(lead en).length<=2:=by
    cases en with
    |stop=>simp[lead]
    |go a=>simp[lead]
    |choose p a b=>simp only[lead];split<;>simp
   have Fm:∀v∈lead en,0<=v/\v<(bs.length:Int):=hB.2.2 _ A2
   have Xh:∀(j:Nat) (l:SS),Bl[j]? = some l->l.length<=63/\(∀x∈a6 l,x∈xs)/\∀x,x∈a6 l↔iT bs x j:=fun j l hl=>by
    have hm:=List.mem_of_getElem? hl
    have:=g8 (a6 l) xs (hI.nd l hm) (hI.sub l hm)
    refine⟨by simp[a6] at this;omega,hI.sub l hm,fun x=>?_⟩
    rw[<-hI.done (i:=j) (x:=x)]
    exact⟨fun h=>⟨l,hl,h⟩,fun⟨l',e,h⟩=>by rw[hl] at e;cases e;exact h⟩
   simp only[aN]
   repeat walk_at "u"
   rw[Gj]
   refine E' ?_
   repeat walk_at "u"
   rw[fL]
   refine eZ (fun ws acc e=>∃(ls qs:List Int) (bh:List Str) (o0 o1:Option D),lead en=ls++qs/\ws=qs.map .int/\acc=bh.map .str/\bh.length<=63 * ls.length/\(∀x∈bh,x∈xs)/\(∀x,x∈bh↔∃j:Nat,(j:Int)∈ls/\iT bs x j)/\e=[o0,o1,some (.tup [.int m,.lst false (bs.map (aN false))]),some (.lst false (Bl.map (gD false))),some (.lst true (W.map (fG true))),some (.int pre.length),some (.lst false (dl.map ax.d)),some en.d,o6]) ?_ ?_ _ _ _ ⟨[],lead en,[],_,_,rfl,rfl,rfl,by simp,(fun x hx=>nomatch hx),(fun x=>by simp),rfl⟩
   ·rintro acc e ⟨ls,qs,bh,o0,o1,g1,g2,rfl,g3,g4,g5,rfl⟩
    have:qs=[]:=by simpa using g2.symm
    subst this
    rw[List.append_nil] at g1
    have W9:bh.length<=126:=by rw[<-g1] at g3;omega
    obtain⟨l,hl⟩:∃l,Bl[pre.length]? = some l:=⟨_,List.getElem?_eq_getElem (by rw[hI.len];exact sR)⟩
    obtain⟨pK,rV,Ph⟩:=Xh _ _ hl
    have mI:il (Bl.map (gD false)) (pre.length:Int)=some (dT false l):=fA hl
    have IX:VS.bare (dT false l)=true:=qm l
    have Uk:VS.aU (.lst true (bh.map D.str))=.lst false (bh.map D.str):=by rw[bY,el]
    have hWz:(W.map (fG true)).length<=1000000:=by rw[List.length_map,h3];omega
    repeat walk_at "u"
    rw[Uk]
    repeat walk_at "u"
    refine IM ?_
    repeat walk_at "u"
    refine DC (by omega) fun ys y1 y2=>?_
    have WA:=eU ys
    repeat walk_at "u"
    refine⟨fun zs hz hs=>?_,fun ts t1 t2=>?_⟩
    ·have:=g8 zs xs hz fun z hz=>g4 z (hs z hz)
     omega
    ·repeat walk_at "u"
     rw[show W.map (fG true)++[D.tup [D.lst true (ys.map D.str),D.lst true (ts.map D.str)]]=(W++[(ys,ts)]).map (fG true) by simp]
     refine ih _ ⟨pre++[(dl,en)],post,W++[(ys,ts)],_,_,_,_,by rw[h1];simp,by simp,by simp[h3],fun i b p hb hp=>?_,rfl⟩
     rcases Nat.lt_or_ge i pre.length with z|z
     ·rw[List.getElem?_append_left z] at hb
      rw[List.getElem?_append_left (by omega)] at hp
      exact h4 i b p hb hp
     ·rw[List.getElem?_append_right z] at hb
      rw[List.getElem?_append_right (by omega),h3] at hp
      cases hd:i-pre.length with
      |zero=>
       rw[hd] at hb hp;simp at hb hp;subst hb hp
       have:i=pre.length:=by omega
       subst this
       exact⟨fun x=>by rw[y2,Ph],fun x=>by rw[t2,g5,g1]⟩
      |succ n=>rw[hd] at hb;simp at hb
   ·rintro x ws acc e wO ⟨ls,qs,bh,o0,o1,g1,g2,rfl,g3,g4,g5,rfl⟩
    cases qs with
    |nil=>simp at g2
    |cons v qs=>
     simp only[List.map_cons,List.cons.injEq] at g2
     obtain⟨rfl,rfl⟩:=g2
     obtain⟨v0,v1⟩:=Fm v (by rw[g1];simp)
     obtain⟨j,rfl⟩:=Int.eq_ofNat_of_zero_le v0
     have hj:j<Bl.length:=by rw[hI.len];omega
     obtain⟨l,hl⟩:∃l,Bl[j]? = some l:=⟨_,List.getElem?_eq_getElem hj⟩
     obtain⟨pK,rV,Ph⟩:=Xh _ _ hl
     have mI:il (Bl.map (gD false)) (j:Int)=some (dT false l):=fA hl
     have IX:VS.bare (dT false l)=true:=qm l
     repeat walk_at "u"
     refine yb ?_
     repeat walk_at "u"
     rw[ID]
     refine eZ (fun ws acc e=>∃(ps rs:List Str) (o1:Option D),a6 l=ps++rs/\ws=rs.map .str/\acc=(bh++ps).map .str/\e=[some (.int j),o1,some (.tup [.int m,.lst false (bs.map (aN false))]),some (.lst false (Bl.map (gD false))),some (.lst true (W.map (fG true))),some (.int pre.length),some (.lst false (dl.map ax.d)),some en.d,o6]) ?_ ?_ _ _ _ ⟨[],a6 l,_,rfl,rfl,by simp,rfl⟩
     ·rintro acc e ⟨ps,rs,o1,q1,q2,rfl,rfl⟩
      have:rs=[]:=by simpa using q2.symm
      subst this
      rw[List.append_nil] at q1
      subst q1
      refine wO _ _ ⟨ls++[(j:Int)],qs,bh++a6 l,_,_,by rw[g1];simp,rfl,rfl,by simp[a6];omega,fun x hx=>?_,fun x=>?_,rfl⟩
      ·rcases List.mem_append.mp hx with z|z
       ·exact g4 x z
       ·exact rV x z
      ·rw[List.mem_append,g5,Ph]
       constructor
       ·rintro(⟨j',z,w⟩|w)
        ·exact⟨j',by simp[z],w⟩
        ·exact⟨j,by simp,w⟩
       ·rintro⟨j',z,w⟩
        rcases List.mem_append.mp z with z|z
        ·exact .inl ⟨j',z,w⟩
        ·have:j'=j:=by have:=List.mem_singleton.mp z;omega
         subst this;exact .inr w
     ·rintro x ws acc e Td ⟨ps,rs,o1,q1,q2,rfl,rfl⟩
      cases rs with
      |nil=>simp at q2
      |cons y rs=>
       simp only[List.map_cons,List.cons.injEq] at q2
       obtain⟨rfl,rfl⟩:=q2
       have hz:((bh++ps).map D.str).length<=1000000:=by
        have h9:(a6 l).length=ps.length+(rs.length+1):=by rw[q1];simp
        have h8:ls.length<=2:=by rw[g1] at IW;simp at IW;omega
        simp[a6] at h9 ⊢;omega
       repeat walk_at "u"
       refine Td _ _ ⟨ps++[y],rs,_,by rw[q1];simp,rfl,?_,rfl⟩
       simp
def rP{α:Type}:List (Int×α)->Int->α->List (Int×α)
 | [],k,v=>[(k,v)]
 |(y,u)::l,k,v=>if y=k then(y,v)::l else(y,u)::rP l k v
theorem FL{α:Type}{f:α->D}(k:Int)(v:α):∀l:List (Int×α),dput (l.map fun p=>DK.s (.inl p.1)) (l.map fun p=>f p.2) (.s (.inl k)) (f v)=((rP l k v).map (fun p=>DK.s (.inl p.1)),(rP l k v).map fun p=>f p.2)
 | []=>rfl
 |(y,u)::l=>by
  simp only[List.map_cons,dput,rP]
  by_cases e:y=k
  ·subst e;simp
  ·rw[if_neg (by simpa using e),if_neg e,FL k v l];rfl
theorem uQ{α:Type}{k:Int}{v:α}:∀{l:List (Int×α)},k∈keys l->keys (rP l k v)=keys l
 | [],h=>by cases h
 |(y,u)::l,h=>by
  simp only[rP]
  split
  ·rfl
  ·rename_i e
   have h2:k∈keys l:=by
    simp only[keys,List.map_cons,List.mem_cons] at h
    exact h.resolve_left fun z=>e z.symm
   have:=uQ (v:=v) h2
   simp only[keys,List.map_cons] at this ⊢
   rw[this]
theorem oY{α:Type}{k z:Int}{v:α}:∀{l:List (Int×α)},(rP l k v).lookup z=if z=k then some v else l.lookup z
 | []=>by
  simp only[rP,List.lookup_cons,List.lookup_nil]
  by_cases e:z=k
  ·simp[e]
  ·have:(z==k)=false:=by simpa using e
   simp[e,this]
 |(y,u)::l=>by
  simp only[rP]
  by_cases e:y=k
  ·subst e
   rw[if_pos rfl,List.lookup_cons,List.lookup_cons]
   by_cases q:z=y
   ·simp[q]
   ·have:(z==y)=false:=by simpa using q
    simp[q,this]
  ·rw[if_neg e,List.lookup_cons,List.lookup_cons,oY]
   by_cases q:z=y
   ·subst q;simp[e]
   ·have:(z==y)=false:=by simpa using q
    rw[this]
structure jw(bs:List cj)(x:Str)(n:Nat)(g:Gr):Prop where
 ks:keys g=keys (aS bs)
 st:fV g (-1)=[0]
 at_:∀(i:Nat) (b:cj),bs[i]? = some b->fV g i=if i<n/\x∈bZ b.1 then [] else lead b.2
theorem jw.zero{bs:List cj}{x:Str}:jw bs x 0 (aS bs):=⟨rfl,BG,fun i b h=>by rw[qI h,if_neg (by simp)]⟩
theorem jw.put{bs:List cj}{x:Str}{n:Nat}{g:Gr}{b:cj}(h:jw bs x n g)(hb:bs[n]? = some b)(hx:x∈bZ b.1):jw bs x (n+1) (rP g n []):=by
 have hn:=(List.getElem?_eq_some_iff.mp hb).1
 refine⟨by rw[uQ (by rw[h.ks];exact cX.mpr (.inr ⟨by omega,by omega⟩)),h.ks],?_,fun i b' ye=>?_⟩
 ·unfold fV
  rw[oY,if_neg (by omega)]
  exact h.st
 ·unfold fV
  rw[oY]
  by_cases e:i=n
  ·subst e
   rw[hb] at ye
   cases ye
   rw[if_pos rfl,if_pos ⟨by omega,hx⟩];rfl
  ·rw[if_neg (by omega)]
   have:=h.at_ i b' ye
   unfold fV at this
   rw[this]
   by_cases q:i<n/\x∈bZ b'.1
   ·rw[if_pos q,if_pos ⟨by omega,q.2⟩]
   ·rw[if_neg q,if_neg fun z=>q ⟨by omega,z.2⟩]
theorem jw.skip{bs:List cj}{x:Str}{n:Nat}{g:Gr}{b:cj}(h:jw bs x n g)(hb:bs[n]? = some b)(hx:x∉bZ b.1):jw bs x (n+1) g:=by
 refine⟨h.ks,h.st,fun i b' ye=>?_⟩
 rw[h.at_ i b' ye]
 by_cases e:i=n
 ·subst e
  rw[hb] at ye
  cases ye
  rw[if_neg fun z=>hx z.2,if_neg fun z=>hx z.2]
 ·by_cases q:i<n/\x∈bZ b'.1
  ·rw[if_pos q,if_pos ⟨by omega,q.2⟩]
  ·rw[if_neg q,if_neg fun z=>q ⟨by omega,z.2⟩]
section
variable {bs:List cj}{x:Str}{g:Gr}
theorem jw.yX(h:jw bs x bs.length g)(hB:Bs bs){u v:Int}(hu:v∈fV g u):0<=v/\v<(bs.length:Int):=by
 by_cases hk:u∈keys g
 ·rw[h.ks] at hk
  rcases cX.mp hk with rfl|⟨h1,h2⟩
  ·rw[h.st] at hu
   rw[List.mem_singleton.mp hu]
   have:=hB.1
   exact⟨by omega,by omega⟩
  ·obtain⟨j,rfl⟩:=Int.eq_ofNat_of_zero_le h1
   have e:bs[j]? = some bs[j]:=List.getElem?_eq_getElem (by omega)
   have e2:=h.at_ j _ e
   rw[e2] at hu
   split at hu
   ·cases hu
   ·exact hB.2.2 _ (List.mem_of_getElem? e) v hu
 ·unfold fV at hu
  rw[lookup_none.mpr hk] at hu
  cases hu
theorem jw.gok(h:jw bs x bs.length g)(hB:Bs bs):MP g:=fun u v hv=>by
 rw[h.ks];exact cX.mpr (.inr (h.yX hB hv))
theorem jw.pos(h:jw bs x bs.length g)(hB:Bs bs){s v:Int}(hs:0<=s/\s<(bs.length:Int))(hr:Reach g none s v):0<=v/\v<(bs.length:Int):=by
 cases hr with
 |start=>exact hs
 |step _ hv _=>exact h.yX hB hv
theorem jw.to(h:jw bs x bs.length g){i:Nat}(w:iT bs x i):∀{s:Int},Reach g none s i->∃(v:Nat) (b:cj),Reach g none s v/\bs[v]? = some b/\x∈bV b:=by
 induction w with
 |here hb hx=>exact fun hr=>⟨_,_,hr,hb,hx⟩
 |on hb hp hl _ ih=>
  intro s hr
  refine ih (.step hr ?_ (by simp))
  rw[h.at_ _ _ hb,if_neg fun z=>hp z.2]
  exact hl
theorem jw.back(h:jw bs x bs.length g)(hB:Bs bs){s v:Int}(hs:0<=s/\s<(bs.length:Int))(hr:Reach g none s v):iT bs x v.toNat->iT bs x s.toNat:=by
 induction hr with
 |start=>exact id
 | @step u v hu hv hL ih=>
  intro w
  refine ih ?_
  obtain⟨u0,u1⟩:=h.pos hB hs hu
  obtain⟨v0,v1⟩:=h.yX hB hv
  obtain⟨j,rfl⟩:=Int.eq_ofNat_of_zero_le u0
  have e:bs[j]? = some bs[j]:=List.getElem?_eq_getElem (by omega)
  rw[h.at_ j _ e] at hv
  split at hv
  ·cases hv
  ·rename_i hn
   have hj:j<bs.length:=by omega
   refine .on (j:=v.toNat) e (fun z=>hn ⟨hj,z⟩) ?_ w
   rw[Int.toNat_of_nonneg v0];exact hv
end
theorem zJ{g:Gr}{L:Option Int}{s b:Int}{c:gY}{P:D->ai->Prop}(h1:c.tree g L s)(h2:b∈keys c)(h3:c.length<=100000)(k:∀ws:List Int,P (dm true ws) [none,none]):gQ [aD kJ false c,.int b] P:=⟨g,L,s,b,c,rfl,h1,h2,h3,k⟩
theorem ix{x:Str}:∀ys:List Str,((ys.map D.str).any fun z=>pf z (.str x))=decide (x∈ys)
 | []=>by simp
 |y::ys=>by
  rw[List.map_cons,List.any_cons,ix ys]
  have:pf (.str y) (.str x)=decide (y=x):=by show(y==x)=decide (y=x);rw[Bool.eq_iff_iff];simp
  rw[this]
  by_cases e:x=y
  ·subst e;simp
  ·have:¬y=x:=fun z=>e z.symm
   simp[e,this]
abbrev fg:List Bool:=[false,false,false]
def iI:fQ:=fun ds P=>∃(m:Int) (bs:List cj) (xs:List Str) (b:Nat) (x:Str),ds=[aY false m bs,.int b,.str x]/\Bs bs/\bs.length<=30/\xs.length<=63/\(∀b∈bs,b.1.length<=100)/\(∀b∈bs,∀d∈b.1,d.ij)/\(aI bs).length<=4000/\(∀x∈aI bs,x∈xs)/\b<bs.length/\x∈aI bs/\(¬iT bs x b->P .bH [none,none,none])/\(iT bs x b->∀ws,P (dm true ws) [none,none,none])
def sC:US:=
 (aC (aX (aj bc (aa 0) (uC (.int 1))) (bx 3))
 (aC (dn (yO (aR (oj (fun i j=>decide (i<=j)) (fun i j=>decide (i<j)) (uC (.int 0)) (a7 1) (qk kj (ae (aa 3) ao)))))
 l8
 cm)
 (aC (dn (aR (aj (I_ true) (aa 2) (aA eC gR (ae (aa 0) ao))))
 l8
 cm)
 (aC (aX (aA cV fi (ae (aa 0) ao)) (au 4))
 (aC (eR (pF bt (aa 3)) (gb 2 (bz (au 5) (bz (gb 2 (bz (au 6) (bz (au 7) gc))) gc)))
 (dn (aR (aj (jV false) (aa 2) (aA dt fX (ae (aa 6) ao))))
 (jh 4 (aa 5) (cZ ao))
 cm))
 (aC (aX (aA cb dw (ae (aa 4) (ae (aa 1) (ae (uC .bH) ao)))) (bx 8))
 (aC (eR (dQ dz (aa 8)) (au 9)
 (dn (aR (aj (I_ false) (aa 2) (aA bT dk (ae (aj dB (aa 3) (aa 9)) ao))))
 (bM (aA eB gQ (ae (aa 8) (ae (aa 9) ao))))
 cm))
 (bM (uC .bH)))))))))
theorem tq:∀ds P,ds.length=fg.length->iI ds P->sC (bC fg P) (az (10-fg.length) ds):=by
 rintro ds P - ⟨m,bs,xs,b,x,rfl,hB,hn,hx,hK,Cz,JO,IS,hb,hxm,k1,k2⟩
 simp only[az,fg,List.map_cons,List.map_nil,List.length_cons,List.length_nil,Nat.reduceAdd,Nat.reduceSub,List.replicate,List.cons_append,List.nil_append]
 unfold sC
 have uS:=bG (xs:=bs) cy
 have zR:VS.bare (.lst false (bs.map (aN false)))=true:=by rw[jO,uS];rfl
 have CD:VS.aU (.lst false (bs.map (aN false)))=.lst false (bs.map (aN false)):=by rw[bY,aV (fw false)]
 have RG:eA (bs.map (aN false))=bs.map (aN false):=aV (fw false)
 have JP:=dZ false m bs
 simp only[aY] at JP ⊢
 repeat walk_at "u"
 rw[CD]
 repeat walk_at "u"
 rw[show decide ((b:Int)<((bs.map (aN false)).length:Int))=true by simp;omega]
 repeat walk_at "u"
 rw[JP]
 refine rR Cz JO IS (by omega) fun ys y1 y2=>?_
 have WA:=eU ys
 have hyf:(ys.map D.str).all flat=true:=by simp[flat]
 have hya:((ys.map D.str).any fun z=>pf z (.str x))=true:=by rw[ix];simpa using (y2 x).mpr hxm
 repeat walk_at "u"
 rw[hya]
 repeat walk_at "u"
 rw[JP]
 refine AY (by omega) ?_
 have Md:=wJ iW (aS bs)
 repeat walk_at "u"
 refine bL (fun ws e=>∃(pre post:List cj) (g:Gr) (o5 o6 o7:Option D),bs=pre++post/\ws=cu pre.length (post.map (aN false))/\jw bs x pre.length g/\e=[some (.tup [.int m,.lst false (bs.map (aN false))]),some (.int b),some (.str x),some (.lst false (bs.map (aN false))),some (aD (dm true) true g),o5,o6,o7,none,none]) ?_ ?_ _ _ ⟨[],bs,aS bs,_,_,_,rfl,rfl,jw.zero,rfl⟩
 rotate_left
 ·rintro y ws e ih ⟨pre,post,g,o5,o6,o7,h1,h2,hg,rfl⟩
  cases post with
  |nil=>simp[cu] at h2
  |cons bb post=>
   simp only[List.map_cons,cu,List.cons.injEq] at h2
   obtain⟨rfl,rfl⟩:=h2
   obtain⟨dl,en⟩:=bb
   have RI:bs[pre.length]? = some (dl,en):=by rw[h1];simp
   have A0:=hK (dl,en) (by rw[h1];simp)
   have tS:=jq dl
   have hgl:g.length=bs.length+1:=by have:=congrArg List.length hg.ks;simp[keys] at this;rw[this,iL]
   have hz:(g.map fun p=>dm true p.2).length<=1000000:=by rw[List.length_map];omega
   have hd:dput (g.map fun p=>DK.s (.inl p.1)) (g.map fun p=>dm true p.2) (.s (.inl (pre.length:Int))) (.lst true [])=_:=FL (f:=dm true) (pre.length:Int) [] g
   simp only[aN]
   repeat walk_at "u"
   rw[tS]
   refine pJ (by simp only[] at A0;omega) fun l hl=>?_
   have Md:=yZ l
   rw[Sx] at Md ⊢
   repeat walk_at "u"
   rw[nE]
   by_cases Gi:x∈a6 l
   ·rw[show decide (x∈a6 l)=true by simp[Gi]]
    repeat walk_at "u"
    rw[hd]
    exact ih _ ⟨pre++[(dl,en)],post,rP g pre.length [],_,_,_,by rw[h1];simp,by simp,by rw[List.length_append];exact hg.put RI ((hl x).mp Gi),rfl⟩
   ·rw[show decide (x∈a6 l)=false by simp[Gi]]
    repeat walk_at "u"
    exact ih _ ⟨pre++[(dl,en)],post,g,_,_,_,by rw[h1];simp,by simp,by rw[List.length_append];exact hg.skip RI fun z=>Gi ((hl x).mpr z),rfl⟩
 ·rintro e ⟨pre,post,g,o5,o6,o7,h1,h2,hg,rfl⟩
  have:post=[]:=by cases post with
   |nil=>rfl
   |cons b r=>simp[cu] at h2
  subst this
  rw[List.append_nil] at h1
  subst h1
  have hgl:g.length=bs.length+1:=by have:=congrArg List.length hg.ks;simp[keys] at this;rw[this,iL]
  have W0:=hg.gok hB
  have Np:0<=(b:Int)/\(b:Int)<(bs.length:Int):=⟨by omega,by omega⟩
  have W_:(b:Int)∈keys g:=by rw[hg.ks];exact cX.mpr (.inr Np)
  repeat walk_at "u"
  rw[sv (lu true),show D.bH=kJ none from rfl,v5,ie]
  refine LY W0 W_ (by omega) fun c hc=>?_
  have hcn:=wJ Ir c
  have wk:=hc.tree.len W0 W_
  repeat walk_at "u"
  rw[sv v5]
  repeat walk_at "u"
  rw[oX]
  refine bL (fun ws e=>∃(pre post:List Int) (o9:Option D),keys c=pre++post/\ws=post.map .int/\(∀v∈pre,∀bb,bs[v.toNat]? = some bb->x∉bV bb)/\e=[some (.tup [.int m,.lst false (bs.map (aN false))]),some (.int b),some (.str x),some (.lst false (bs.map (aN false))),some (aD (dm true) true g),o5,o6,o7,some (aD kJ false c),o9]) ?_ ?_ _ _ ⟨[],keys c,_,rfl,rfl,(fun v hv=>nomatch hv),rfl⟩
  ·rintro e ⟨pre,post,o9,h1,h2,h3,rfl⟩
   have:post=[]:=by simpa using h2.symm
   subst this
   rw[List.append_nil] at h1
   repeat walk_at "u"
   refine k1 fun w=>?_
   obtain⟨v,bb,hr,uS,Th⟩:=hg.to w (s:=(b:Int)) .start
   have:=(hc.all v).mpr hr
   rw[h1] at this
   exact h3 v this bb (by simpa using uS) Th
  ·rintro y ws e ih ⟨pre,post,o9,h1,h2,h3,rfl⟩
   cases post with
   |nil=>simp at h2
   |cons v post=>
    simp only[List.map_cons,List.cons.injEq] at h2
    obtain⟨rfl,rfl⟩:=h2
    have WH:v∈keys c:=by rw[h1];simp
    have hr:=(hc.all v).mp WH
    obtain⟨v0,v1⟩:=hg.pos hB Np hr
    obtain⟨j,rfl⟩:=Int.eq_ofNat_of_zero_le v0
    have Ft:bs[j]? = some bs[j]:=List.getElem?_eq_getElem (by omega)
    have A2:bs[j]∈bs:=List.getElem_mem _
    generalize bs[j]=bb at Ft A2
    have mI:il (bs.map (aN false)) (j:Int)=some (aN false bb):=fA Ft
    have abd:=cy bb
    have OV:=eU (bV bb)
    have WL:((bV bb).map D.str).all flat=true:=by simp[flat]
    repeat walk_at "u"
    rw[fw]
    refine uR (by have:=hK bb A2;omega) (Cz bb A2) ?_
    repeat walk_at "u"
    rw[ix]
    by_cases Rq:x∈bV bb
    ·rw[show decide (x∈bV bb)=true by simp[Rq]]
     repeat walk_at "u"
     rw[sv v5]
     refine zJ hc.tree WH (by omega) fun ws=>?_
     have WC:=iW ws
     repeat walk_at "u"
     refine k2 ?_ ws
     have:=hg.back hB Np hr (.here (by simpa using Ft) Rq)
     simpa using this
    ·rw[show decide (x∈bV bb)=false by simp[Rq]]
     repeat walk_at "u"
     refine ih _ ⟨pre++[(j:Int)],post,_,by rw[h1];simp,rfl,fun v hv b' ye=>?_,rfl⟩
     rcases List.mem_append.mp hv with z|z
     ·exact h3 v z b' ye
     ·rw[List.mem_singleton.mp z] at ye
      have:bs[j]? = some b':=by simpa using ye
      rw[Ft] at this
      cases this
      exact Rq
theorem Part.dF{xs:List Str}{m:Int}{n:Nat}(hx:∀x∈xs,lK x):∀{p:Part},p.ok xs m->VS.dF (n+1) p.d=true
 | .num k,_=>by simp only[Part.d,j6,eJ,fT,kH,uH,Bool.and_true];decide +kernel
 | .name x,h=>by simp only[Part.d,j6,eJ,fT,kH,Bool.and_true,(hx x h).str];decide +kernel
theorem aM.dF{xs:List Str}{m:Int}{n:Nat}(hx:∀x∈xs,lK x):∀{w:aM},w.ok xs m->VS.dF (n+2) w.d=true
 | .one p,h=>Part.dF (n:=n+1) hx (p:=p) h
 | .two o p q,h=>by
  have ho:PyData.strOk o=true:=by
   have:=h.1
   simp only[dY,List.mem_cons,List.not_mem_nil,or_false] at this
   rcases this with rfl|rfl|rfl|rfl|rfl<;>decide +kernel
  simp only[aM.d,j6,eJ,fT,kH,ho,Part.dF hx h.2.1,Part.dF hx h.2.2,Bool.and_true]
theorem ax.dF{xs:List Str}{m:Int}{n:Nat}(hx:∀x∈xs,lK x):∀{d:ax},d.ok xs m->VS.dF (n+3) d.d=true
 | .put x w,h=>by
  have e:PyData.strOk "put" = true:=by decide +kernel
  simp only[ax.d,j6,eJ,fT,kH,e,(hx x h.1).str,aM.dF (n:=n) hx h.2,Bool.and_true]
 | .tell p,h=>by
  have e:PyData.strOk "tell" = true:=by decide +kernel
  simp only[ax.d,j6,eJ,fT,kH,e,Part.dF (n:=n+1) hx (p:=p) h,Bool.and_true]
theorem End.dF{xs:List Str}{m many:Int}{n:Nat}(hx:∀x∈xs,lK x):∀{e:End},e.ok xs m many->VS.dF (n+2) e.d=true
 | .stop,_=>by
  have e:PyData.strOk "stop" = true:=by decide +kernel
  simp only[End.d,j6,eJ,fT,kH,e,Bool.and_true]
 | .go a,_=>by
  have e:PyData.strOk "go" = true:=by decide +kernel
  simp only[End.d,j6,eJ,fT,kH,uH,e,Bool.and_true]
 | .choose p a b,h=>by
  have e:PyData.strOk "choose" = true:=by decide +kernel
  simp only[End.d,j6,eJ,fT,kH,uH,e,Part.dF (n:=n) hx h.1,Bool.and_true]
theorem ig.dF{xs:List Str}{m:Int}{bs:List cj}(hx:∀x∈xs,lK x)(h:ig xs m bs):VS.dF 60 (aY false m bs)=true:=by
 have hb:eK 58 (bs.map (aN false))=true:=kI.mpr fun d hd=>by
  obtain⟨b,hb,rfl⟩:=List.mem_map.mp hd
  have h1:eK 56 (b.1.map ax.d)=true:=kI.mpr fun d hd=>by
   obtain⟨q,hq,rfl⟩:=List.mem_map.mp hd
   exact ax.dF (n:=53) hx ((h b hb).2.1 q hq)
  have h2:=End.dF (n:=55) hx (h b hb).2.2
  simp only[aN,j6,EN,eJ,fT,h1,h2,Bool.and_true]
 simp only[aY,j6,EN,eJ,fT,uH,hb,Bool.and_true]
def df:End->List Int | .stop=>[] | .go a=>[a] | .choose _ a b=>[a,b]
theorem uN{e:End}{v:Int}:v∈df e↔v∈lead e:=by
 cases e with
 |stop=>exact Iff.rfl
 |go a=>exact Iff.rfl
 |choose p a b=>
  simp only[df,lead]
  split
  ·rename_i h;subst h;simp
  ·exact Iff.rfl
theorem Cq{e:End}:(df e).length<=2:=by cases e<;>simp[df]
abbrev dJ:List Bool:=[false]
def gu:fQ:=fun ds P=>∃(m:Int) (bs:List cj),ds=[aY false m bs]/\bs.length<=1000/\P (.lst true (bs.map fun b=>dm true (df b.2))) [none]
def nX:US:=
 (aC (aX (cZ ao) (au 1))
 (aC (eR (dQ bt (aj bc (aa 0) (uC (.int 1)))) (gb 2 (bz (au 2) (bz (au 3) gc)))
 (dn (aR (aj (kQ false) (aj bc (aa 3) (uC (.int 0))) (uC (.str "choose"))))
 (cF 1 (ae (cZ (ae (aj bc (aa 3) (uC (.int 2))) (ae (aj bc (aa 3) (uC (.int 3))) ao))) ao))
 (cF 1 (ae (qk ly (ae (Bz (aa 3) (mQ (uC (.int 1))) ip) ao)) ao))))
 (bM (ff 1))))
theorem p9:∀ds P,ds.length=dJ.length->gu ds P->nX (bC dJ P) (az (4-dJ.length) ds):=by
 rintro ds P - ⟨m,bs,rfl,hl,k⟩
 simp only[az,dJ,List.map_cons,List.map_nil,List.length_cons,List.length_nil,Nat.reduceAdd,Nat.reduceSub,List.replicate,List.cons_append,List.nil_append]
 unfold nX
 have uS:=bG (xs:=bs) cy
 have zR:VS.bare (.lst false (bs.map (aN false)))=true:=by rw[jO,uS];rfl
 have RG:eA (bs.map (aN false))=bs.map (aN false):=aV (fw false)
 simp only[aY]
 repeat walk_at "u"
 rw[RG]
 refine bL (fun ws e=>∃(pre post:List cj) (o2 o3:Option D),bs=pre++post/\ws=post.map (aN false)/\e=[some (.tup [.int m,.lst false (bs.map (aN false))]),some (.lst true (pre.map fun b=>dm true (df b.2))),o2,o3]) ?_ ?_ _ _ ⟨[],bs,_,_,rfl,rfl,rfl⟩
 ·rintro e ⟨pre,post,o2,o3,h1,h2,rfl⟩
  have:post=[]:=by simpa using h2.symm
  subst this
  rw[List.append_nil] at h1
  subst h1
  repeat walk_at "u"
  exact k
 ·rintro x ws e ih ⟨pre,post,o2,o3,h1,h2,rfl⟩
  cases post with
  |nil=>simp at h2
  |cons b post=>
   simp only[List.map_cons,List.cons.injEq] at h2
   obtain⟨rfl,rfl⟩:=h2
   obtain⟨dl,en⟩:=b
   have hz:(pre.map fun b=>dm true (df b.2)).length<=1000000:=by rw[List.length_map];rw[h1] at hl;simp at hl;omega
   have oQ:=fun o2 o3=>ih [some (.tup [.int m,.lst false (bs.map (aN false))]),some (.lst true ((pre++[(dl,en)]).map fun b=>dm true (df b.2))),o2,o3] ⟨pre++[(dl,en)],post,o2,o3,by rw[h1];simp,rfl,rfl⟩
   rw[List.map_append,List.map_singleton] at oQ
   generalize (pre.map fun b=>dm true (df b.2))=AA at oQ hz ⊢
   simp only[aN]
   cases en with
   |stop=>
    have e1:tU (.str "stop") (.str "choose")=some false:=by decide +kernel
    have nw:¬(HT.e8 [D.str "stop"].length 0 (some 1)=0/\HT.e8 [D.str "stop"].length [D.str "stop"].length none=[D.str "stop"].length):=jl (by simp)
    simp only[End.d]
    repeat walk_at "u"
    exact oQ _ _
   |go a=>
    have e1:tU (.str "go") (.str "choose")=some false:=by decide +kernel
    have nw:¬(HT.e8 [D.str "go",D.int a].length 0 (some 1)=0/\HT.e8 [D.str "go",D.int a].length [D.str "go",D.int a].length none=[D.str "go",D.int a].length):=jl (by simp)
    have Nn:a9 (eQ [D.str "go",D.int a] (some 1) none)=true:=by rw[z0];rfl
    simp only[End.d]
    repeat walk_at "u"
    rw[z0]
    exact oQ _ _
   |choose p a b=>
    have hb:=p.bare
    simp only[End.d]
    repeat walk_at "u"
    exact oQ _ _
theorem rA{en:End}{x:Str}:∀{dl:List ax}{put:List Str},x∈gk en put dl->(∃d∈dl,x∈aG d.parts)\/x∈aG en.parts
 | [],put,h=>.inr (List.mem_filter.mp h).1
 |d::dl,put,h=>by
  rcases List.mem_append.mp h with h|h
  ·exact .inl ⟨d,.head _,(List.mem_filter.mp h).1⟩
  ·rcases rA h with⟨d',h1,h2⟩|h
   ·exact .inl ⟨d',.tail _ h1,h2⟩
   ·exact .inr h
abbrev Gh(x:Str):D:=.tup [.str "name",.str x]
theorem EV{x:Str}(h:PyData.strOk x=true):dF 60 (Gh x)=true:=by
 have e:PyData.strOk "name" = true:=by decide +kernel
 simp only[Gh,j6,eJ,fT,kH,h,e,Bool.and_true]
theorem OC{x:Str}(h:PyData.strOk x=true):eqT (Gh x) (Gh x)=true:=A_ (EV h) rfl
theorem aM.split{xs:List Str}{m:Int}(hn:∀x∈xs,lK x):∀{w:aM},w.ok xs m->∃s tl,w.d=.tup (.str s::tl)/\a9 tl=true/\eK 60 tl=true/\tl.length<=2/\∀x∈aG w.parts,Gh x=w.d\/Gh x∈tl
 | .one (.num n),_=>⟨"number",[.int n],rfl,rfl,by simp only[eJ,fT,uH,Bool.and_true],by simp,fun x hx=>by cases hx⟩
 | .one (.name y),h=>⟨"name",[.str y],rfl,rfl,by simp only[eJ,fT,kH,(hn y h).str,Bool.and_true],by simp,fun x hx=>by
  have:x=y:=by simpa[aG,aM.parts,Part.names] using hx
  subst this;exact .inl rfl⟩
 | .two o p q,h=>⟨o,[p.d,q.d],rfl,by simp only[bK,eu,Part.bare,Bool.and_self],by simp only[eJ,fT,Part.dF (n:=59) hn h.2.1,Part.dF (n:=59) hn h.2.2,Bool.and_true],by simp,fun x hx=>by
  simp only[aG,aM.parts,List.flatMap_cons,List.flatMap_nil,List.append_nil,List.mem_append] at hx
  rcases hx with hx|hx
  ·cases p with
   |num n=>cases hx
   |name y=>rw[List.mem_singleton.mp hx];exact .inr (.head _)
  ·cases q with
   |num n=>cases hx
   |name y=>rw[List.mem_singleton.mp hx];exact .inr (.tail _ (.head _))⟩
theorem JJ{d:D}{o:Bool}{ds:List D}{P:D->Prop}(h:dF 60 d=true/\eK 60 ds=true/\P (.bl (ds.any fun x=>eqT x d))):Mz d (.lst o ds) P:=h
abbrev cR:List Bool:=[false,false]
def fk:fQ:=fun ds P=>∃(b:cj) (xs:List Str) (m many:Int) (x:Str),ds=[aN false b,.str x]/\(∀d∈b.1,d.ok xs m)/\b.2.ok xs m many/\(∀x∈xs,lK x)/\x∈xs/\b.1.length<=1000/\x∈bV b/\P (.bl true) [none,none]
def kZ:US:=
 (aC (aX (a7 0) (gb 2 (bz (bx 2) (bz (bx 3) gc))))
 (aC (eR (dQ bt (aa 2)) (au 4)
 (dn (aR (aj Mz (gE (ae (uC (.str "name")) (ae (a7 1) ao))) (aj CJ (cZ (ae (aj bc (aa 4) (uC (.int 1))) (ae (aj bc (aa 4) (pX (fU fun i=>.int (-i)) (uC (.int 1)))) ao))) (qk ly (ae (Bz (aj bc (aa 4) (pX (fU fun i=>.int (-i)) (uC (.int 1)))) (mQ (uC (.int 1))) ip) ao)))))
 (bM (uC (.bl true)))
 cm))
 (bM (An (aj (kQ false) (aj bc (aa 3) (uC (.int 0))) (uC (.str "choose"))) (aj (FG false) (aj bc (aa 3) (uC (.int 1))) (gE (ae (uC (.str "name")) (ae (a7 1) ao))))))))
theorem mY:∀ds P,ds.length=cR.length->fk ds P->kZ (bC cR P) (az (5-cR.length) ds):=by
 rintro ds P - ⟨⟨dl,en⟩,xs,m,many,x,rfl,hd,he,hn,hx,hl,ha,k⟩
 simp only[az,cR,List.map_cons,List.map_nil,List.length_cons,List.length_nil,Nat.reduceAdd,Nat.reduceSub,List.replicate,List.cons_append,List.nil_append]
 unfold kZ
 have zQ:=cy (dl,en)
 have jo:=bG (xs:=dl) ax.bare
 have Ud:=en.bare
 have tS:=jq dl
 have Gj:=en.aU
 have IS:=(hn x hx).str
 have yF:=EV IS
 have nu:=OC IS
 simp only[aN] at zQ hl hd he ⊢
 repeat walk_at "u"
 rw[tS,Gj]
 repeat walk_at "u"
 rw[aV ax.aU]
 refine bL (fun ws e=>∃(pre post:List ax) (o4:Option D),dl=pre++post/\ws=post.map ax.d/\(∀d∈pre,x∉aG d.parts)/\e=[some (.tup [.lst false (dl.map ax.d),en.d]),some (.str x),some (.lst false (dl.map ax.d)),some en.d,o4]) ?_ ?_ _ _ ⟨[],dl,_,rfl,rfl,(fun d hd=>nomatch hd),rfl⟩
 ·rintro e ⟨pre,post,o4,h1,h2,h3,rfl⟩
  have:post=[]:=by simpa using h2.symm
  subst this
  rw[List.append_nil] at h1
  subst h1
  have Ru:x∈aG en.parts:=by
   rcases rA ha with⟨d,h4,h5⟩|h4
   ·exact absurd h5 (h3 d h4)
   ·exact h4
  cases en with
  |stop=>cases Ru
  |go a=>cases Ru
  |choose p a b=>
   cases p with
   |num n=>cases Ru
   |name y=>
    have:x=y:=by simpa[aG,End.parts,Part.names] using Ru
    subst this
    simp only[End.d,Part.d]
    repeat walk_at "u"
    rw[nu]
    exact k
 ·rintro y ws e ih ⟨pre,post,o4,h1,h2,h3,rfl⟩
  cases post with
  |nil=>simp at h2
  |cons d post=>
   simp only[List.map_cons,List.cons.injEq] at h2
   obtain⟨rfl,rfl⟩:=h2
   have Mg:=hd d (by rw[h1];simp)
   have oQ:=fun h o4=>ih [some (.tup [.lst false (dl.map ax.d),en.d]),some (.str x),some (.lst false (dl.map ax.d)),some en.d,o4] ⟨pre++[d],post,o4,by rw[h1];simp,rfl,h,rfl⟩
   have Ly:x∉aG d.parts->∀d'∈pre++[d],x∉aG d'.parts:=fun h d' qt=>by
    rcases List.mem_append.mp qt with z|z
    ·exact h3 d' z
    ·rw[List.mem_singleton.mp z];exact h
   have yes:∀(A B:List D),x∈aG d.parts->(Gh x∈A\/Gh x∈B)->((A++B).any fun z=>eqT z (Gh x))=true:=fun A B _ h=>List.any_eq_true.mpr ⟨Gh x,List.mem_append.mpr h,nu⟩
   cases d with
   |tell p=>
    obtain⟨s,tl,e1,e2,e3,e4,e5⟩:=aM.split hn (w:=.one p) Mg
    have ep:p.d=.tup (.str s::tl):=e1
    have IV:=p.bare
    have O8:=Part.dF (n:=59) hn (p:=p) Mg
    rw[ep] at IV O8
    have nw:¬(HT.e8 (D.str s::tl).length 0 (some 1)=0/\HT.e8 (D.str s::tl).length (D.str s::tl).length none=(D.str s::tl).length):=jl (by simp)
    have Nn:a9 (eQ (D.str s::tl) (some 1) none)=true:=by rw[z0];exact e2
    have L9:a9 (D.str s::tl)=true:=by rw[bK,e2];rfl
    have rV:[D.tup (D.str s::tl),D.tup (D.str s::tl)].length+tl.length<=1000000:=by simp;omega
    have Ph:a9 [D.tup (D.str s::tl),D.tup (D.str s::tl)]=true:=by rw[bK,bK,eu,IV];rfl
    have cg:eK 60 (D.tup (D.str s::tl)::D.tup (D.str s::tl)::tl)=true:=by rw[eJ,eJ,O8,e3];rfl
    simp only[ax.d,ep] at oQ ⊢
    repeat walk_at "u"
    rw[z0]
    repeat walk_at "u"
    refine JJ ⟨yF,cg,?_⟩
    repeat walk_at "u"
    with_reducible refine fD ?_ ?_
    ·intro _
     repeat walk_at "u"
     exact k
    ·intro hf
     repeat walk_at "u"
     refine oQ (Ly fun L3=>?_) _
     have:=yes [D.tup (D.str s::tl),D.tup (D.str s::tl)] tl L3 (by
      rcases e5 x L3 with z|z
      ·rw[<-e1,<-z];exact .inl (.head _)
      ·exact .inr z)
     rw[show D.tup (D.str s::tl)::D.tup (D.str s::tl)::tl=[D.tup (D.str s::tl),D.tup (D.str s::tl)]++tl from rfl,this] at hf
     cases hf
   |put y w=>
    obtain⟨s,tl,e1,e2,e3,e4,e5⟩:=aM.split hn Mg.2
    have IV:=w.bare
    have O8:=aM.dF (n:=58) hn Mg.2
    have hyo:dF 60 (.str y)=true:=by rw[kH];exact(hn y Mg.1).str
    rw[e1] at IV O8
    have nw:¬(HT.e8 (D.str s::tl).length 0 (some 1)=0/\HT.e8 (D.str s::tl).length (D.str s::tl).length none=(D.str s::tl).length):=jl (by simp)
    have Nn:a9 (eQ (D.str s::tl) (some 1) none)=true:=by rw[z0];exact e2
    have L9:a9 (D.str s::tl)=true:=by rw[bK,e2];rfl
    have rV:[D.str y,D.tup (D.str s::tl)].length+tl.length<=1000000:=by simp;omega
    have Ph:a9 [D.str y,D.tup (D.str s::tl)]=true:=by rw[bK,bK,eu,IV];rfl
    have cg:eK 60 (D.str y::D.tup (D.str s::tl)::tl)=true:=by rw[eJ,eJ,hyo,O8,e3];rfl
    simp only[ax.d,e1] at oQ ⊢
    repeat walk_at "u"
    rw[z0]
    repeat walk_at "u"
    refine JJ ⟨yF,cg,?_⟩
    repeat walk_at "u"
    with_reducible refine fD ?_ ?_
    ·intro _
     repeat walk_at "u"
     exact k
    ·intro hf
     repeat walk_at "u"
     refine oQ (Ly fun L3=>?_) _
     have:=yes [D.str y,D.tup (D.str s::tl)] tl L3 (by
      rcases e5 x L3 with z|z
      ·rw[<-e1,<-z];exact .inl (.tail _ (.head _))
      ·exact .inr z)
     rw[show D.str y::D.tup (D.str s::tl)::tl=[D.str y,D.tup (D.str s::tl)]++tl from rfl,this] at hf
     cases hf
theorem II{x y:Int}{P:D->ai->Prop}(k:∀(xs:List Str) z,0<xs.length->xs.length<=20->(∀x∈xs,lK x)->P (.lst true (xs.map .str)) [some (purse z y)]):gr [purse x y] P:=⟨x,y,rfl,k⟩
theorem IG{x y m:Int}{xs:List Str}{P:D->ai->Prop}(h1:0<xs.length)(h2:xs.length<=1000)(h3:2<=m)(h4:m<=2 ^ 62)(k:∀(p:aM) z,p.ok xs m->P p.d [some (purse z y),none,none]):eM [purse x y,.lst false (xs.map .str),.int m] P:=⟨x,y,xs,m,rfl,h1,h2,h3,h4,k⟩
theorem E_{x y m b many:Int}{xs:List Str}{P:D->ai->Prop}(h1:0<xs.length)(h2:xs.length<=1000)(h3:2<=m)(h4:m<=2 ^ 62)(h5:0<=b)(h6:0<many)(h7:many<=2 ^ 62)(k:∀(p:End) z,p.ok xs m many->P p.d [some (purse z y),none,none,none,none]):dO [purse x y,.lst false (xs.map .str),.int m,.int b,.int many] P:=⟨x,y,xs,m,b,many,rfl,h1,h2,h3,h4,h5,h6,h7,k⟩
abbrev cQ:List Bool:=[true,false]
def fj:fQ:=fun ds P=>∃x y most,ds=[purse x y,.int most]/\0<most/\most<=1000/\∀(xs:List Str) (m:Int) (bs:List cj) z,0<xs.length->xs.length<=20->(∀x∈xs,lK x)->2<=m->m<=1000000000->0<bs.length->(bs.length<=most\/bs.length<=24)->ig xs m bs->P (aY true m bs) [some (purse z y),none]
def kY:US:=
 (aC (aX (aA dI gr (ae (aa 0) ao)) (bx 2))
 (aC (aX (aj dB (cZ (ae (uC (.int 2)) (ae (uC (.int 3)) (ae (uC (.int 7)) (ae (aj (fI yB fun i j=>.int (i ^ j.toNat)) (uC (.int 10)) (uC (.int 9))) (ae (aj (lN fun i j=>.int (i+j)) (uC (.int 2)) (aA aq aw (ae (aa 0) (ae (uC (.int 1000)) ao)))) ao)))))) (aA aq aw (ae (aa 0) (ae (uC (.int 5)) ao)))) (au 3))
 (aC (aX (aj (lN fun i j=>.int (i+j)) (uC (.int 1)) (aA aq aw (ae (aa 0) (ae (aa 1) ao)))) (au 4))
 (aC (dn (qG (aR (aj (lN fun i j=>.bl (decide (j<i))) (aa 1) (uC (.int 5)))) (aR (aj (kQ false) (aA aq aw (ae (aa 0) (ae (uC (.int 16)) ao))) (uC (.int 0)))))
 (aC (aX (uC (.int 24)) (au 4))
 (aX (NV (aa 2) ip (mQ (uC (.int 4)))) (bx 2)))
 cm)
 (aC (aX (cZ ao) (au 5))
 (aC (eR (fH (ae (a7 4) ao)) (au 6)
 (aC (aX (cZ ao) (au 7))
 (aC (eR (fH (ae (aA aq aw (ae (aa 0) (ae (aj dB (cZ (ae (uC (.int 4)) (ae (uC (.int 4)) (ae (uC (.int 4)) (ae (uC (.int 9)) ao))))) (aA aq aw (ae (aa 0) (ae (uC (.int 4)) ao)))) ao))) ao)) (au 8)
 (dn (aR (aj (kQ false) (aA aq aw (ae (aa 0) (ae (uC (.int 3)) ao))) (uC (.int 0))))
 (cF 7 (ae (gE (ae (uC (.str "tell")) (ae (aA bP cW (ae (aa 0) (ae (aa 2) (ae (aa 3) ao)))) ao))) ao))
 (aC (aX (aj dB (aa 2) (aA aq aw (ae (aa 0) (ae (qk kj (ae (aa 2) ao)) ao)))) (au 9))
 (cF 7 (ae (gE (ae (uC (.str "put")) (ae (a7 9) (ae (aA cG eM (ae (aa 0) (ae (aa 2) (ae (aa 3) ao)))) ao)))) ao)))))
 (cF 5 (ae (gE (ae (ff 7) (ae (aA cf dO (ae (aa 0) (ae (aa 2) (ae (aa 3) (ae (aa 6) (ae (aa 4) ao)))))) ao))) ao)))))
 (bM (gE (ae (a7 3) (ae (ff 5) ao))))))))))
theorem mX:∀ds P,ds.length=cQ.length->fj ds P->kY (bC cQ P) (az (10-cQ.length) ds):=by
 rintro ds P - ⟨x,y,most,rfl,WR,hm1,k⟩
 simp only[az,cQ,List.map_cons,List.map_nil,List.length_cons,List.length_nil,Nat.reduceAdd,Nat.reduceSub,List.replicate,List.cons_append,List.nil_append]
 unfold kY
 repeat walk_at "u"
 refine II fun xs z x0 x1 x2=>?_
 have hnn:VS.eX (.lst true (xs.map D.str))=true:=by rw[p1,xT];rfl
 repeat walk_at "u"
 refine⟨⟨by decide,by decide,by decide⟩,?_⟩
 rw[bY,el]
 repeat walk_at "u"
 refine cv (by omega) (by omega) fun a z a0 a1=>?_
 repeat walk_at "u"
 refine cv (by omega) (by omega) fun b z b0 b1=>?_
 have hx:∃n:Int,il [D.int 2,D.int 3,D.int 7,D.int (10 ^ 9),D.int (2+a)] b=some (.int n)/\2<=n/\n<=1000000000:=by
  have:b=0\/b=1\/b=2\/b=3\/b=4:=by omega
  rcases this with rfl|rfl|rfl|rfl|rfl
  ·exact⟨2,rfl,by omega,by omega⟩
  ·exact⟨3,rfl,by omega,by omega⟩
  ·exact⟨7,rfl,by omega,by omega⟩
  ·exact⟨10 ^ 9,rfl,by decide,by decide⟩
  ·exact⟨2+a,rfl,by omega,by omega⟩
 obtain⟨m,em,m0,m1⟩:=hx
 repeat walk_at "u"
 refine cv (by omega) (by omega) fun c z c0 c1=>?_
 repeat walk_at "u"
 have rest:∀(xs:List Str) (many:Int) z,0<xs.length->xs.length<=20->(∀x∈xs,lK x)->0<many->many<=1000->(many<=most\/many<=24) ->
   (aC (aX (cZ ao) (au 5)) (aC (eR (fH (ae (a7 4) ao)) (au 6)
 (aC (aX (cZ ao) (au 7))
 (aC (eR (fH (ae (aA aq aw (ae (aa 0) (ae (aj dB (cZ (ae (uC (.int 4)) (ae (uC (.int 4)) (ae (uC (.int 4)) (ae (uC (.int 9)) ao))))) (aA aq aw (ae (aa 0) (ae (uC (.int 4)) ao)))) ao))) ao)) (au 8)
 (dn (aR (aj (kQ false) (aA aq aw (ae (aa 0) (ae (uC (.int 3)) ao))) (uC (.int 0))))
 (cF 7 (ae (gE (ae (uC (.str "tell")) (ae (aA bP cW (ae (aa 0) (ae (aa 2) (ae (aa 3) ao)))) ao))) ao))
 (aC (aX (aj dB (aa 2) (aA aq aw (ae (aa 0) (ae (qk kj (ae (aa 2) ao)) ao)))) (au 9))
 (cF 7 (ae (gE (ae (uC (.str "put")) (ae (a7 9) (ae (aA cG eM (ae (aa 0) (ae (aa 2) (ae (aa 3) ao)))) ao)))) ao)))))
 (cF 5 (ae (gE (ae (ff 7) (ae (aA cf dO (ae (aa 0) (ae (aa 2) (ae (aa 3) (ae (aa 6) (ae (aa 4) ao)))))) ao))) ao)))))
 (bM (gE (ae (a7 3) (ae (ff 5) ao)))))) (bC [true,false] P) [some (purse z y),some (.int most),some (.lst false (xs.map .str)),some (.int m),some (.int many),none,none,none,none,none]:=by
  intro xs many z x0 x1 x2 n0 n1 n2
  have eN:aU (.lst false (xs.map D.str))=.lst false (xs.map D.str):=by rw[bY,el]
  repeat walk_at "u"
  refine bL (fun is e=>(∀x∈is,∃i:Int,x=.int i/\0<=i/\i<many)/\∃(z:Int) (bs:List cj) (o6 o7 o8 o9:Option D),(bs.length+is.length:Int)=many/\(∀b∈bs,cj.ok xs m many b)/\e=[some (purse z y),some (.int most),some (.lst false (xs.map .str)),some (.int m),some (.int many),some (.lst true (bs.map (aN true))),o6,o7,o8,o9]) ?_ ?_ _ _ ⟨fun x h=>?_,z,[],_,_,_,_,?_,fun b h=>by simp at h,rfl⟩
  ·rintro e ⟨-,z,bs,o6,o7,o8,o9,hl,hb,rfl⟩
   simp only[List.length_nil] at hl
   repeat walk_at "u"
   exact k xs m bs z x0 x1 x2 m0 m1 (by omega) (by omega) fun b h=>by have:=hb b h;rwa [show many=(bs.length:Int) by omega] at this
  ·rintro x is e ih ⟨hx,z,bs,o6,o7,o8,o9,hl,hb,rfl⟩
   obtain⟨i,rfl,i0,i1⟩:=hx x (.head _)
   simp only[List.length_cons] at hl
   have W9:(bs.map (aN true)).length<=1000000:=by rw[List.length_map];omega
   repeat walk_at "u"
   refine cv (by omega) (by omega) fun g z g0 g1=>?_
   obtain⟨q,eq,q0,q1⟩:∃q:Int,il [D.int 4,D.int 4,D.int 4,D.int 9] g=some (.int q)/\0<q/\q<=9:=by
    have:g=0\/g=1\/g=2\/g=3:=by omega
    rcases this with rfl|rfl|rfl|rfl
    ·exact⟨4,rfl,by omega,by omega⟩
    ·exact⟨4,rfl,by omega,by omega⟩
    ·exact⟨4,rfl,by omega,by omega⟩
    ·exact⟨9,rfl,by omega,by omega⟩
   repeat walk_at "u"
   refine cv q0 (by omega) fun a z a0 a1=>?_
   repeat walk_at "u"
   refine bL (fun js e=>∃(z:Int) (ds:List ax) (o8 o9:Option D),(ds.length+js.length:Int)<=8/\(∀d∈ds,d.ok xs m)/\e=[some (purse z y),some (.int most),some (.lst false (xs.map .str)),some (.int m),some (.int many),some (.lst true (bs.map (aN true))),some (.int i),some (.lst true (ds.map ax.d)),o8,o9]) ?_ ?_ _ _ ⟨z,[],_,_,?_,fun d h=>by simp at h,rfl⟩
   ·rintro e ⟨z,ds,o8,o9,rV,hd,rfl⟩
    simp only[List.length_nil] at rV
    repeat walk_at "u"
    rw[eN]
    refine E_ x0 (by omega) m0 (by omega) i0 n0 (by omega) fun w z hw=>?_
    have WC:=w.eX
    repeat walk_at "u"
    refine ih _ ⟨fun x h=>hx x (.tail _ h),z,bs++[(ds,w)],_,_,_,_,by simp only[List.length_append,List.length_cons,List.length_nil];omega,fun b h=>?_,by rw[List.map_append];rfl⟩
    rcases List.mem_append.mp h with h|h
    ·exact hb b h
    ·rw[List.mem_singleton.mp h];exact⟨by simp only[];omega,hd,hw⟩
   ·rintro x js e wO ⟨z,ds,o8,o9,rV,hd,rfl⟩
    simp only[List.length_cons] at rV
    have A0:(ds.map ax.d).length<=1000000:=by rw[List.length_map];omega
    have nil:∀d:ax,Unit->d.ok xs m->∀x∈ds++[d],x.ok xs m:=fun d _ h x hx=>by
     rcases List.mem_append.mp hx with hx|hx
     ·exact hd x hx
     ·rw[List.mem_singleton.mp hx];exact h
    repeat walk_at "u"
    refine cv (by omega) (by omega) fun a z a0 a1=>?_
    repeat walk_at "u"
    with_reducible refine fD ?_ ?_
    ·intro h
     repeat walk_at "u"
     rw[eN]
     refine we x0 (by omega) m0 (by omega) fun p z hp=>?_
     have JO:=p.eX
     repeat walk_at "u"
     exact wO _ ⟨z,ds++[.tell p],_,_,by simp only[List.length_append,List.length_cons,List.length_nil];omega,nil (.tell p) () hp,by rw[List.map_append];rfl⟩
    ·intro h
     have hl:(0:Int)<((xs.map D.str).length:Int):=by rw[List.length_map];omega
     have T1:((xs.map D.str).length:Int)<=2 ^ 62:=by rw[List.length_map];omega
     repeat walk_at "u"
     refine cv hl T1 fun a z a0 a1=>?_
     obtain⟨s,hs,es⟩:=nM (f:=D.str) (xs:=xs) a0 (by simpa using a1)
     repeat walk_at "u"
     rw[eN]
     refine IG x0 (by omega) m0 (by omega) fun p z hp=>?_
     have JO:=p.eX
     repeat walk_at "u"
     exact wO _ ⟨z,ds++[.put s p],_,_,by simp only[List.length_append,List.length_cons,List.length_nil];omega,nil (.put s p) () ⟨hs,hp⟩,by rw[List.map_append];rfl⟩
   ·simp[fq];omega
  ·obtain⟨i,rfl,a,b⟩:=oZ h
   exact⟨i,rfl,a,by omega⟩
  ·simp[fq];omega
 generalize (aC (aX (cZ ao) (au 5)) (aC (eR (fH (ae (a7 4) ao)) (au 6)
 (aC (aX (cZ ao) (au 7))
 (aC (eR (fH (ae (aA aq aw (ae (aa 0) (ae (aj dB (cZ (ae (uC (.int 4)) (ae (uC (.int 4)) (ae (uC (.int 4)) (ae (uC (.int 9)) ao))))) (aA aq aw (ae (aa 0) (ae (uC (.int 4)) ao)))) ao))) ao)) (au 8)
 (dn (aR (aj (kQ false) (aA aq aw (ae (aa 0) (ae (uC (.int 3)) ao))) (uC (.int 0))))
 (cF 7 (ae (gE (ae (uC (.str "tell")) (ae (aA bP cW (ae (aa 0) (ae (aa 2) (ae (aa 3) ao)))) ao))) ao))
 (aC (aX (aj dB (aa 2) (aA aq aw (ae (aa 0) (ae (qk kj (ae (aa 2) ao)) ao)))) (au 9))
 (cF 7 (ae (gE (ae (uC (.str "put")) (ae (a7 9) (ae (aA cG eM (ae (aa 0) (ae (aa 2) (ae (aa 3) ao)))) ao)))) ao)))))
 (cF 5 (ae (gE (ae (ff 7) (ae (aA cf dO (ae (aa 0) (ae (aa 2) (ae (aa 3) (ae (aa 6) (ae (aa 4) ao)))))) ao))) ao)))))
 (bM (gE (ae (a7 3) (ae (ff 5) ao))))))=T at rest ⊢
 with_reducible refine fD ?_ ?_
 ·intro h
  repeat walk_at "u"
  refine cv (by omega) (by omega) fun a z a0 a1=>?_
  repeat walk_at "u"
  with_reducible refine fD ?_ ?_
  ·intro h
   have W7:=c7 (xs:=xs)
   repeat walk_at "u"
   rw[kW,bY,el]
   have hlen:0<(eQ xs none (some 4)).length:=by
    match xs,x0 with
    |a::as,_=>
     have:eQ (a::as) none (some 4)=(a::as).take (HT.e8 (as.length+1) (as.length+1) (some 4)):=by simp[eQ,HT.e8]
     rw[this];simp[HT.e8];omega
   exact rest _ 24 z hlen (by have:=sf (xs:=xs) (a:=none) (b:=some 4);omega) (fun x h=>x2 x (yp h)) (by omega) (by omega) (by omega)
  ·intro h
   repeat walk_at "u"
   exact rest xs (1+c) z x0 x1 x2 (by omega) (by omega) (by omega)
 ·intro h
  repeat walk_at "u"
  exact rest xs (1+c) z x0 x1 x2 (by omega) (by omega) (by omega)
theorem Cv{x y most:Int}{P:D->ai->Prop}(h1:0<most)(h2:most<=1000)(k:∀(xs:List Str) (m:Int) (bs:List cj) z,0<xs.length->xs.length<=20->(∀x∈xs,lK x)->2<=m->m<=1000000000->0<bs.length->(bs.length<=most\/bs.length<=24)->ig xs m bs->P (aY true m bs) [some (purse z y),none]):fj [purse x y,.int most] P:=⟨x,y,most,rfl,h1,h2,k⟩
theorem xI{en:End}{y:Str}{p:List Str}:∀{dl:List ax}{q:List Str},y∈gk en (p++q) dl↔y∉p/\y∈gk en q dl
 | [],q=>by simp only[gk,List.mem_filter,decide_eq_true_eq,List.mem_append,not_or];constructor<;>(intro h;simp_all)
 |d::dl,q=>by
  simp only[gk,List.mem_append,List.mem_filter,decide_eq_true_eq,List.append_assoc]
  rw[xI (dl:=dl) (q:=q++d.putN)]
  constructor
  ·rintro(⟨h1,h2⟩|⟨h1,h2⟩)
   ·exact⟨fun z=>h2 (.inl z),.inl ⟨h1,fun z=>h2 (.inr z)⟩⟩
   ·exact⟨h1,.inr h2⟩
  ·rintro⟨h1,⟨h2,h3⟩|h2⟩
   ·exact .inl ⟨h2,fun z=>z.elim h1 h3⟩
   ·exact .inr ⟨h1,h2⟩
section
variable {m:Int}{bs:List cj}{en:End}{Out:Str->Prop}
theorem r_:∀{dl:List ax}{W W':cS}{T:List Int},(∀y,(y∈gk en [] dl\/(y∉bZ dl/\Out y))->look W y=look W' y) ->
  (bu m dl (W,T)).2=(bu m dl (W',T)).2/\∀y,(y∈aG en.parts\/Out y)->look (bu m dl (W,T)).1 y=look (bu m dl (W',T)).1 y
 | [],W,W',T,h=>⟨rfl,fun y hy=>h y (hy.imp (fun z=>by simp[gk,z]) fun z=>⟨by simp[bZ],z⟩)⟩
 |d::dl,W,W',T,h=>by
  have hp:Agree (aG d.parts) W W':=fun y hy=>h y (.inl (by simp[gk,hy]))
  cases d with
  |put z w=>
   have hv:w.val m W=w.val m W':=aM.agree hp fun x hx=>hx
   have:=r_ (dl:=dl) (W:=dg W z (w.val m W)) (W':=dg W' z (w.val m W')) (T:=T) fun y hy=>by
    rw[oU,oU]
    by_cases e:y=z
    ·rw[if_pos e,if_pos e,hv]
    ·rw[if_neg e,if_neg e]
     refine h y (hy.imp (fun q=>?_) fun q=>⟨fun r=>?_,q.2⟩)
     ·simp only[gk,List.mem_append]
      exact .inr (by have:=(xI (p:=[z]) (q:=[]) (dl:=dl) (en:=en) (y:=y)).mpr ⟨by simpa using e,q⟩;simpa[ax.putN] using this)
     ·simp only[bZ,List.flatMap_cons,ax.putN,List.mem_append,List.mem_singleton] at r
      exact r.elim e q.1
   exact this
  |tell p=>
   have hv:p.val W=p.val W':=Part.agree hp fun x hx=>by simpa[aG,ax.parts] using hx
   have:=r_ (dl:=dl) (W:=W) (W':=W') (T:=T++[p.val W]) fun y hy=>h y (hy.imp (fun q=>by
    simp only[gk,List.mem_append]
    exact .inr (by simpa[ax.putN] using q)) fun q=>⟨fun r=>q.1 (by simpa[bZ,ax.putN] using r),q.2⟩)
   show(bu m dl (W,T++[p.val W])).2=(bu m dl (W',T++[p.val W'])).2/\∀y,(y∈aG en.parts\/Out y)->look (bu m dl (W,T++[p.val W])).1 y=look (bu m dl (W',T++[p.val W'])).1 y
   rw[<-hv]
   exact this
theorem AD(hB:Bs bs):∀(n:Nat) (b:Int) (W W':cS) (T:List Int),(∀x,iT bs x b.toNat->look W x=look W' x)->gK m bs n b W T=gK m bs n b W' T
 |0,b,W,W',T,_=>rfl
 |n+1,b,W,W',T,h=>by
  simp only[gK]
  cases hb:bs[b.toNat]? with
  |none=>rfl
  |some dE=>
   obtain⟨dl,e⟩:=dE
   have lL:=List.mem_of_getElem? hb
   have Fm:=hB.2.2 _ lL
   obtain⟨h1,h2⟩:=r_ (m:=m) (en:=e) (Out:=fun y=>∃j:Nat,(j:Int)∈lead e/\iT bs y j) (dl:=dl) (T:=T) (W:=W) (W':=W') fun y hy=>h y (by
    rcases hy with z|⟨z,j,q,r⟩
    ·exact .here hb z
    ·exact .on hb z q r)
   have go:∀v∈lead e,gK m bs n v (bu m dl (W,T)).1 (bu m dl (W,T)).2=gK m bs n v (bu m dl (W',T)).1 (bu m dl (W',T)).2:=fun v hv=>by
    rw[h1]
    exact AD hB n v _ _ _ fun x w=>h2 x (.inr ⟨v.toNat,by rw[Int.toNat_of_nonneg (Fm v hv).1];exact hv,w⟩)
   cases e with
   |stop=>simp only[];rw[h1]
   |go a=>exact go a (by simp[lead])
   |choose p a c=>
    have hv:p.val (bu m dl (W,T)).1=p.val (bu m dl (W',T)).1:=Part.agree (N:=aG [p]) (fun x hx=>h2 x (.inl hx)) fun x hx=>by simpa[aG] using hx
    simp only[End.next]
    rw[hv]
    split
    ·exact go c (by simp only[lead];split<;>simp_all)
    ·exact go a (by simp only[lead];split<;>simp_all)
end
theorem E8{m:Int}{bs:List cj}{xs:List Str}{P:D->ai->Prop}(h1:Bs bs)(h2:bs.length<=30)(h3:xs.length<=63)(h4:∀b∈bs,b.1.length<=100)(h5:∀b∈bs,∀d∈b.1,d.ij)(h6:∀b∈bs,∀x∈bV b,x∈xs)(k:∀W:List (List Str×List Str),W.length=bs.length->(∀(i:Nat) (b:cj) (p:List Str×List Str),bs[i]? = some b->W[i]? = some p->Vp bs i b p)->P (.lst true (W.map (fG true))) [none]):kM [aY false m bs] P:=⟨m,bs,xs,rfl,h1,h2,h3,h4,h5,h6,k⟩
theorem zK{m:Int}{bs:List cj}{xs:List Str}{b:Nat}{x:Str}{P:D->ai->Prop}(h1:Bs bs)(h2:bs.length<=30)(h3:xs.length<=63)(h4:∀b∈bs,b.1.length<=100)(h5:∀b∈bs,∀d∈b.1,d.ij)(h6:(aI bs).length<=4000)(h7:∀x∈aI bs,x∈xs)(h8:b<bs.length)(h9:x∈aI bs)(k1:¬iT bs x b->P .bH [none,none,none])(k2:iT bs x b->∀ws,P (dm true ws) [none,none,none]):iI [aY false m bs,.int b,.str x] P:=⟨m,bs,xs,b,x,rfl,h1,h2,h3,h4,h5,h6,h7,h8,h9,k1,k2⟩
theorem E9{m:Int}{bs:List cj}{P:D->ai->Prop}(h:bs.length<=1000)(k:P (.lst true (bs.map fun b=>dm true (df b.2))) [none]):gu [aY false m bs] P:=⟨m,bs,rfl,h,k⟩
theorem LX{b:cj}{xs:List Str}{m many:Int}{x:Str}{P:D->ai->Prop}(h1:∀d∈b.1,d.ok xs m)(h2:b.2.ok xs m many)(h3:∀x∈xs,lK x)(h4:x∈xs)(h5:b.1.length<=1000)(h6:x∈bV b)(k:P (.bl true) [none,none]):fk [aN false b,.str x] P:=⟨b,xs,m,many,x,rfl,h1,h2,h3,h4,h5,h6,k⟩
theorem Gy(p:List Str×List Str):VS.eX (fG true p)=true:=by rw[xx,e9,e9,g9,eU,eU];rfl
theorem Gz(o:Bool)(p:List Str×List Str):VS.aU (fG o p)=fG false p:=by simp only[fG,jN,e_,fK,bY,el]
theorem qy(p:List Str×List Str):VS.bare (fG false p)=true:=by simp only[fG,zk,jO,bK,eu,c7];rfl
theorem zw{b:cj}{x:Str}(h:x∈bV b):x∈b.names:=by
 rcases rA h with⟨d,h1,h2⟩|h1
 ·refine List.mem_append_left _ (List.mem_flatMap.mpr ⟨d,h1,?_⟩)
  cases d with
  |put y w=>exact .tail _ h2
  |tell p=>exact h2
 ·exact List.mem_append_right _ h1
theorem Bp{bs:List cj}{x:Str}{i:Nat}{b:cj}(hb:bs[i]? = some b)(w:iT bs x i)(hn:¬∃j:Nat,(j:Int)∈lead b.2/\iT bs x j):x∈bV b:=by
 cases w with
 |here h1 h2=>rw[hb] at h1;cases h1;exact h2
 |on h1 _ h3 h4=>rw[hb] at h1;cases h1;exact absurd ⟨_,h3,h4⟩ hn
abbrev jS:List Bool:=[false]
def uJ(L:Addr->List Int->Prop):fQ:=fun ds P=>∃(ns:List Int) (d:D),ds=[d]/\(d=.lst false (ns.map .int)\/∃a,d=.fn a/\L a ns)/\ns.length<=100000/\P (.bl true) [none]
def JZ(L:Addr->List Int->Prop):US:=
 (aC (aX (aA dH (gq L) (ae (aa 0) ao)) (au 1))
 (aC (aX (aA cQ fj (ae (aa 1) (ae (uC (.int 8)) ao))) (bx 2))
 (aC (aX (aA dM gw (ae (aa 1) (ae (aa 2) ao))) (bx 3))
 (aC (aX (aA gM kM (ae (aa 2) ao)) (bx 4))
 (aC (aX (aA dJ gu (ae (aa 2) ao)) (bx 5))
 (aC (aX (aA kK rF (ae (aa 2) (ae (aa 3) (ae (uC (.int 30)) ao)))) (bx 6))
 (aC (eR (dQ bt (aA eC gR (ae (aa 2) ao))) (au 7)
 (aC (dn (aR (aj (kQ true) (pX (FF true) (aA fg iI (ae (aa 2) (ae (uC (.int 0)) (ae (aa 7) ao))))) (aj (I_ false) (aa 7) (aj bc (aj dB (aa 4) (uC (.int 0))) (uC (.int 0))))))
 (bM (uC (.bl false)))
 cm)
 (dn (aR (aj (I_ true) (aa 7) (aj bc (aj dB (aa 4) (uC (.int 0))) (uC (.int 0)))))
 (aC (aX (pX wu (aa 3)) (au 8))
 (aC (jh 8 (aa 7) (aA aq aw (ae (aa 1) (ae (aj bc (aa 2) (uC (.int 0))) ao))))
 (dn (aR (aj (FG true) (aA kK rF (ae (aa 2) (ae (aa 8) (ae (uC (.int 30)) ao)))) (aa 6)))
 (bM (uC (.bl false)))
 cm)))
 cm)))
 (aC (eR (fH (ae (qk kj (ae (aa 5) ao)) ao)) (au 9)
 (aC (eR (dQ bt (aj bc (aj dB (aa 4) (aa 9)) (uC (.int 1)))) (au 7)
 (dn (aR (aj (kQ false) (qk kj (ae (gf 1 (dQ bt (aj dB (aa 5) (aa 9))) (au 0) (aR (aj (I_ false) (aa 8) (aj bc (aj dB (aa 5) (aa 0)) (uC (.int 0))))) (fM (a7 0))) ao)) (uC (.int 0))))
 (bM (uC (.bl false)))
 cm))
 (eR (dQ bt (aj bc (aj dB (aa 4) (aa 9)) (uC (.int 0)))) (au 7)
 (dn (qG (aR (aj (I_ true) (aa 7) (aj bc (aj dB (aa 4) (aa 9)) (uC (.int 1))))) (yO (l7 (aA cR fk (ae (aj dB (aj bc (aa 2) (uC (.int 1))) (aa 9)) (ae (aa 7) ao))))))
 (bM (uC (.bl false)))
 cm))))
 (bM (uC (.bl true)))))))))))
theorem Ek{L:Addr->List Int->Prop}:∀ds P,ds.length=jS.length->uJ L ds P->JZ L (bC jS P) (az (10-jS.length) ds):=by
 rintro ds P - ⟨ns,d,rfl,hd,hl,k⟩
 simp only[az,jS,List.map_cons,List.map_nil,List.length_cons,List.length_nil,Nat.reduceAdd,Nat.reduceSub,List.replicate,List.cons_append,List.nil_append]
 unfold JZ
 have tS:aU d=d:=by
  rcases hd with rfl|⟨a,rfl,_⟩
  ·rw[bY,fL]
  ·simp only[aU]
 repeat walk_at "u"
 rw[tS]
 refine IH hd hl fun px py=>?_
 repeat walk_at "u"
 refine Cv (by omega) (by omega) fun xs m bs px x0 x1 x2 m0 m1 b0 b1 ok=>?_
 have abg:bs.length<=24:=by omega
 have JO:=Ex m bs
 have TX:=ok.nb
 have Cz:∀b∈bs,∀d∈b.1,d.ij:=fun b hb d hd=>ax.nb.op (m:=m) ((TX b hb).1 d hd)
 have A0:=ok.PU
 have hK:∀b∈bs,b.1.length<=8:=fun b hb=>(ok b hb).1
 have Xe:∀b∈bs,b.1.length<=100:=fun b hb=>by have:=hK b hb;omega
 have Pf:m<=2 ^ 61:=by omega
 have WO:=ok.S6
 have Nj:=ok.names
 have hB:Bs bs:=⟨b0,by omega,fun b hb v hv=>by
  have:=(TX b hb).2
  cases he:b.2 with
  |stop=>rw[he] at hv;cases hv
  |go a=>rw[he] at hv this;rw[List.mem_singleton.mp hv];exact this
  |choose p a c=>
   rw[he] at hv this
   simp only[lead] at hv
   split at hv
   ·rw[List.mem_singleton.mp hv];exact⟨this.2.1,this.2.2.1⟩
   ·rcases List.mem_cons.mp hv with rfl|hv
    ·exact⟨this.2.1,this.2.2.1⟩
    ·rw[List.mem_singleton.mp hv];exact this.2.2.2⟩
 have WB:∀b∈bs,∀x∈bV b,x∈xs:=fun b hb x hx=>Nj x (List.mem_flatMap.mpr ⟨b,hb,zw hx⟩)
 repeat walk_at "u"
 rw[dZ]
 repeat walk_at "u"
 rw[dZ]
 refine IL m0 Pf Cz (by omega) fun W px hW hWl=>?_
 have hWn:=Ba W
 repeat walk_at "u"
 rw[gA]
 repeat walk_at "u"
 rw[dZ]
 refine E8 hB (by omega) (by omega) Xe Cz WB fun F hFl hF=>?_
 have hFn:VS.eX (.lst true (F.map (fG true)))=true:=by rw[p1,eW Gy];rfl
 have hFf:VS.aU (.lst true (F.map (fG true)))=.lst false (F.map (fG false)):=by rw[bY,aV (Gz true)]
 repeat walk_at "u"
 rw[hFf]
 repeat walk_at "u"
 rw[dZ]
 refine E9 (by omega) ?_
 have hLn:VS.eX (.lst true (bs.map fun b=>dm true (df b.2)))=true:=by rw[p1,eW (fun b=>iW _)];rfl
 have hLf:VS.aU (.lst true (bs.map fun b=>dm true (df b.2)))=.lst false (bs.map fun b=>dm false (df b.2)):=by rw[bY,aV (fun b=>lu true _)]
 repeat walk_at "u"
 rw[hLf]
 have OZ:∀(V:cS) (n:Nat) (Q:D->ai->Prop),hJ m V->V.length<=400->n<=300->Q (jM true (gK m bs n 0 V [])) [none,none,none]->rF [aY false m bs,dR false V,.int n] Q:=fun V n Q h1 h2 h3 q=>OL m0 Pf b0 TX h1 hK (by omega) (by omega) q
 have hrn:=fun V n=>HF (gK m bs n 0 V [])
 have aaE:=hrn W 30
 repeat walk_at "u"
 rw[dZ,gA]
 refine OZ W 30 _ hW.ok (by omega) (by omega) ?_
 repeat walk_at "u"
 rw[vP]
 repeat walk_at "u"
 rw[dZ]
 refine rR Cz (by omega) Nj (by omega) fun ys y1 y2=>?_
 have WA:=eU ys
 repeat walk_at "u"
 rw[el]
 have h0:∃bb,bs[0]? = some bb:=⟨bs[0],List.getElem?_eq_getElem (by omega)⟩
 obtain⟨bb0,JR⟩:=h0
 obtain⟨p0,WM⟩:∃p0,F[0]? = some p0:=⟨_,List.getElem?_eq_getElem (by omega)⟩
 have RK:=hF 0 bb0 p0 JR WM
 have abm:il (F.map (fG false)) 0=some (fG false p0):=fA (i:=0) WM
 have aap:=qy p0
 have aaK:VS.bare (.lst false (p0.1.map D.str))=true:=by rw[jO,c7];rfl
 have aa6:(p0.1.map D.str).all flat=true:=by simp[flat]
 have hWb:=uV W
 refine bL (fun ws e=>∃(post:List Str) (px:Int) (o7 o8:Option D),ws=post.map .str/\(∀y∈post,y∈aI bs)/\e=[some d,some (purse px py),some (aY false m bs),some (dR false W),some (.lst false (F.map (fG false))),some (.lst false (bs.map fun b=>dm false (df b.2))),some (jM false (gK m bs 30 0 W [])),o7,o8,none]) ?_ ?_ _ _ ⟨ys,px,_,_,rfl,fun y hy=>(y2 y).mp hy,rfl⟩
 rotate_left
 ·rintro z ws e ih ⟨post,px,o7,o8,h1,h2,rfl⟩
  cases post with
  |nil=>simp at h1
  |cons x post=>
   simp only[List.map_cons,List.cons.injEq] at h1
   obtain⟨rfl,rfl⟩:=h1
   have hx:=h2 x (.head _)
   have oQ:=fun px o8=>ih [some d,some (purse px py),some (aY false m bs),some (dR false W),some (.lst false (F.map (fG false))),some (.lst false (bs.map fun b=>dm false (df b.2))),some (jM false (gK m bs 30 0 W [])),some (.str x),o8,none] ⟨post,px,_,o8,rfl,fun y hy=>h2 y (.tail _ hy),rfl⟩
   repeat walk_at "u"
   rw[dZ,show VS.aU (D.int 0)=D.int ((0:Nat):Int) from ie,show VS.aU (D.str x)=D.str x from i9]
   refine zK (xs:=xs) hB (by omega) (by omega) Xe Cz (by omega) Nj b0 hx (fun hw=>?_) (fun hw ws=>?_)
   ·repeat walk_at "u"
    rw[ix,show decide (x∈p0.1)=false by simp[RK.bg,hw]]
    repeat walk_at "u"
    rw[ix,show decide (x∈p0.1)=false by simp[RK.bg,hw]]
    rw[show dR false W=.cB false false (W.map fun p=>DK.s (.inr p.1)) (W.map fun p=>D.int p.2) from rfl]
    have hz:(W.map fun p=>D.int p.2).length<=1000000:=by rw[List.length_map];omega
    simp only[aY]
    repeat walk_at "u"
    refine cv (by omega) (by omega) fun r px r0 r1=>?_
    repeat walk_at "u"
    rw[kS (f:=D.int),<-zX]
    have Pu:=hW.put (x:=x) r0 r1
    have abt:=iC x r W
    have hkn:=zg true (gK m bs 30 0 W [])
    have hkf:=zg false (gK m bs 30 0 W [])
    repeat walk_at "u"
    rw[show VS.aU (.tup [.int m,.lst false (bs.map (aN false))])=aY false m bs from dZ false m bs,gA]
    refine OZ (dg W x r) 30 _ Pu.ok (by omega) (by omega) ?_
    have hni:gK m bs 30 0 (dg W x r) []=gK m bs 30 0 W []:=AD hB 30 0 _ _ _ fun y wy=>by
     rw[oU,if_neg fun e=>hw (by rw[<-e];exact wy)]
    rw[hni]
    repeat walk_at "u"
    rw[KU]
    repeat walk_at "u"
    exact oQ _ _
   ·have WC:=iW ws
    repeat walk_at "u"
    rw[ix,show decide (x∈p0.1)=true by simp[RK.bg,hw]]
    repeat walk_at "u"
    rw[ix,show decide (x∈p0.1)=true by simp[RK.bg,hw]]
    repeat walk_at "u"
    exact oQ _ _
 ·rintro e ⟨post,px,o7,o8,h1,h2,rfl⟩
  repeat walk_at "u"
  rw[show((bs.map fun b=>dm false (df b.2)).length:Int)=bs.length by rw[List.length_map],show((bs.length:Int)).toNat=bs.length from rfl]
  refine⟨by omega,?_⟩
  refine bL (fun ws e=>∃(i c:Nat) (o7 o8 o9:Option D),ws=fq i c/\i+c=bs.length/\e=[some d,some (purse px py),some (aY false m bs),some (dR false W),some (.lst false (F.map (fG false))),some (.lst false (bs.map fun b=>dm false (df b.2))),some (jM false (gK m bs 30 0 W [])),o7,o8,o9]) ?_ ?_ _ _ ⟨0,bs.length,_,_,_,rfl,by omega,rfl⟩
  ·rintro e ⟨i,c,o7,o8,o9,h1,h2,rfl⟩
   repeat walk_at "u"
   exact k
  ·rintro z ws e ih ⟨i,c,o7,o8,o9,h1,h2,rfl⟩
   cases c with
   |zero=>simp[fq] at h1
   |succ c=>
    rw[zH] at h1
    simp only[List.cons.injEq] at h1
    obtain⟨rfl,rfl⟩:=h1
    have hi:i<bs.length:=by omega
    have oQ:=fun o7 o8 o9=>ih [some d,some (purse px py),some (aY false m bs),some (dR false W),some (.lst false (F.map (fG false))),some (.lst false (bs.map fun b=>dm false (df b.2))),some (jM false (gK m bs 30 0 W [])),o7,o8,o9] ⟨i+1,c,o7,o8,o9,by simp,by omega,rfl⟩
    obtain⟨b,hb⟩:∃b,bs[i]? = some b:=⟨_,List.getElem?_eq_getElem hi⟩
    obtain⟨p,hp⟩:∃p,F[i]? = some p:=⟨_,List.getElem?_eq_getElem (by omega)⟩
    have Uq:=hF i b p hb hp
    have abk:il (F.map (fG false)) (i:Int)=some (fG false p):=fA hp
    have aao:=qy p
    have hp1:VS.bare (.lst false (p.1.map D.str))=true:=by rw[jO,c7];rfl
    have Fh:VS.bare (.lst false (p.2.map D.str))=true:=by rw[jO,c7];rfl
    have aa5:(p.2.map D.str).all flat=true:=by simp[flat]
    have abi:il (bs.map fun b=>dm false (df b.2)) (i:Int)=some (dm false (df b.2)):=fA (f:=fun b:cj=>dm false (df b.2)) hb
    have IX:=kO (df b.2)
    have IW:=Cq (e:=b.2)
    have A2:=List.mem_of_getElem? hb
    have Fm:=hB.2.2 _ A2
    repeat walk_at "u"
    rw[el]
    refine bL (fun ws e=>∃(post:List Str) (o7 o8:Option D),ws=post.map .str/\(∀y∈post,y∈p.2)/\e=[some d,some (purse px py),some (aY false m bs),some (dR false W),some (.lst false (F.map (fG false))),some (.lst false (bs.map fun b=>dm false (df b.2))),some (jM false (gK m bs 30 0 W [])),o7,o8,some (.int i)]) ?_ ?_ _ _ ⟨p.2,_,_,rfl,fun y hy=>hy,rfl⟩
    ·rintro e ⟨post,o7,o8,h1,h3,rfl⟩
     repeat walk_at "u"
     rw[el]
     refine bL (fun ws e=>∃(post:List Str) (o7 o8:Option D),ws=post.map .str/\(∀y∈post,y∈p.1)/\e=[some d,some (purse px py),some (aY false m bs),some (dR false W),some (.lst false (F.map (fG false))),some (.lst false (bs.map fun b=>dm false (df b.2))),some (jM false (gK m bs 30 0 W [])),o7,o8,some (.int i)]) ?_ ?_ _ _ ⟨p.1,_,_,rfl,fun y hy=>hy,rfl⟩
     ·rintro e ⟨post,o7,o8,h1,h3,rfl⟩
      exact oQ _ _ _
     ·rintro z ws e ih ⟨post,o7,o8,h1,h3,rfl⟩
      cases post with
      |nil=>simp at h1
      |cons x post=>
       simp only[List.map_cons,List.cons.injEq] at h1
       obtain⟨rfl,rfl⟩:=h1
       have hx:=h3 x (.head _)
       have Ly:=fun o8=>ih [some d,some (purse px py),some (aY false m bs),some (dR false W),some (.lst false (F.map (fG false))),some (.lst false (bs.map fun b=>dm false (df b.2))),some (jM false (gK m bs 30 0 W [])),some (.str x),o8,some (.int i)] ⟨post,_,o8,rfl,fun y hy=>h3 y (.tail _ hy),rfl⟩
       have uS:=bG (xs:=bs) cy
       have zR:VS.bare (.lst false (bs.map (aN false)))=true:=by rw[jO,uS];rfl
       have abl:il (bs.map (aN false)) (i:Int)=some (aN false b):=fA hb
       have abc:=cy b
       repeat walk_at "u"
       rw[ix]
       by_cases Tn:x∈p.2
       ·rw[show decide (x∈p.2)=true by simp[Tn]]
        repeat walk_at "u"
        exact Ly _
       ·rw[show decide (x∈p.2)=false by simp[Tn]]
        have hu:=Bp hb ((Uq.bg x).mp hx) fun z=>Tn ((Uq.en x).mpr z)
        simp only[aY]
        repeat walk_at "u"
        rw[fw,show VS.aU (D.str x)=D.str x from i9]
        refine LX (fun d hd=>(ok b A2).2.1 d hd) (ok b A2).2.2 x2 (WB b A2 x hu) (by have:=hK b A2;omega) hu ?_
        repeat walk_at "u"
        exact Ly _
    ·rintro z ws e ih ⟨post,o7,o8,h1,h3,rfl⟩
     cases post with
     |nil=>simp at h1
     |cons x post=>
      simp only[List.map_cons,List.cons.injEq] at h1
      obtain⟨rfl,rfl⟩:=h1
      have hx:=h3 x (.head _)
      have Ly:=fun o8=>ih [some d,some (purse px py),some (aY false m bs),some (dR false W),some (.lst false (F.map (fG false))),some (.lst false (bs.map fun b=>dm false (df b.2))),some (jM false (gK m bs 30 0 W [])),some (.str x),o8,some (.int i)] ⟨post,_,o8,rfl,fun y hy=>h3 y (.tail _ hy),rfl⟩
      repeat walk_at "u"
      rw[fL]
      refine eZ (fun ws acc e=>∃(ps qs fl:List Int) (o0:Option D),df b.2=ps++qs/\ws=qs.map .int/\acc=fl.map .int/\fl.length<=ps.length/\(∀v∈ps,iT bs x v.toNat->fl≠[])/\e=[o0,some d,some (purse px py),some (aY false m bs),some (dR false W),some (.lst false (F.map (fG false))),some (.lst false (bs.map fun b=>dm false (df b.2))),some (jM false (gK m bs 30 0 W [])),some (.str x),o8,some (.int i)]) ?_ ?_ _ _ _ ⟨[],df b.2,[],_,rfl,rfl,rfl,by simp,(fun v hv=>nomatch hv),rfl⟩
      ·rintro acc e ⟨ps,qs,fl,o0,g1,g2,rfl,g3,g4,rfl⟩
       have:qs=[]:=by simpa using g2.symm
       subst this
       rw[List.append_nil] at g1
       obtain⟨j,hj,wj⟩:=(Uq.en x).mp hx
       have Po:=g4 (j:Int) (by rw[<-g1];exact uN.mpr hj) (by simpa using wj)
       have CD:decide (((fl.map D.int).length:Int)=0)=false:=by
        cases fl with
        |nil=>exact absurd rfl Po
        |cons a l=>simp;omega
       repeat walk_at "u"
       rw[CD]
       repeat walk_at "u"
       exact Ly _
      ·rintro z ws acc e wO ⟨ps,qs,fl,o0,g1,g2,rfl,g3,g4,rfl⟩
       cases qs with
       |nil=>simp at g2
       |cons v qs=>
        simp only[List.map_cons,List.cons.injEq] at g2
        obtain⟨rfl,rfl⟩:=g2
        obtain⟨v0,v1⟩:=Fm v (uN.mp (by rw[g1];simp))
        obtain⟨j,rfl⟩:=Int.eq_ofNat_of_zero_le v0
        obtain⟨bj,Ft⟩:∃bj,bs[j]? = some bj:=⟨_,List.getElem?_eq_getElem (by omega)⟩
        obtain⟨pj,Rt⟩:∃pj,F[j]? = some pj:=⟨_,List.getElem?_eq_getElem (by omega)⟩
        have hFj:=hF j bj pj Ft Rt
        have abj:il (F.map (fG false)) (j:Int)=some (fG false pj):=fA Rt
        have aan:=qy pj
        have aaJ:VS.bare (.lst false (pj.1.map D.str))=true:=by rw[jO,c7];rfl
        have aa4:(pj.1.map D.str).all flat=true:=by simp[flat]
        have CD:(fl.map D.int).length<=1000000:=by
         have:(df b.2).length=ps.length+(qs.length+1):=by rw[g1];simp
         rw[List.length_map];omega
        repeat walk_at "u"
        rw[ix]
        by_cases Ti:x∈pj.1
        ·rw[show decide (x∈pj.1)=true by simp[Ti]]
         repeat walk_at "u"
         refine wO _ _ ⟨ps++[(j:Int)],qs,fl++[(j:Int)],_,by rw[g1];simp,rfl,by simp,by simp;omega,fun v _ _=>by simp,rfl⟩
        ·rw[show decide (x∈pj.1)=false by simp[Ti]]
         repeat walk_at "u"
         refine wO _ _ ⟨ps++[(j:Int)],qs,fl,_,by rw[g1];simp,rfl,rfl,by simp;omega,fun v hv w=>?_,rfl⟩
         rcases List.mem_append.mp hv with q|q
         ·exact g4 v q w
         ·rw[List.mem_singleton.mp q] at w
          exact absurd ((hFj.bg x).mpr (by simpa using w)) Ti
end ON
end
section
set_option maxHeartbeats 4000000
namespace ON
open PySem L2 VS
structure Txt(mg:Str->Option Value):Prop where
 range:mg "range" = none
 len:mg "len" = none
 enumerate:mg "enumerate" = none
 list:mg "list" = none
 dict:mg "dict" = none
 isinstance:mg "isinstance" = none
 sorted:mg "sorted" = none
 set:mg "set" = none
 str:mg "str" = none
 tuple:mg "tuple" = none
 J4:∃t,mg "BEGIN" = some (.int (-1) t)
def sig(K:PySem.W.Frag):List Ent:=[⟨"plus",1,iq,v8⟩,⟨"less",1,lr,v9⟩,⟨"times",1,jm,qp⟩,⟨"below",1,jn,qr⟩,⟨"same",1,lq,v7⟩,⟨"part_now",1,cq,dN⟩,⟨"worth_now",2,dr,fW⟩,⟨"led_on",2,gO,kN⟩,⟨"do_deeds",3,fh,iJ⟩,⟨"run",4,kK,rF⟩,⟨"parts_of_ending",1,bB,cM⟩,⟨"parts_of_worth",1,b_,d_⟩,⟨"parts_of_deed",2,bS,di⟩,⟨"names_used",1,bW,du⟩,⟨"names_of_deed",3,cC,eY⟩,⟨"names_of",4,eC,gR⟩,⟨"blocks_of_ending",1,bp,cD⟩,⟨"leads_of",2,cV,fi⟩,⟨"sources_of",1,dG,ir⟩,⟨"into",3,jT,rG⟩,⟨"came_from",1,cb,dw⟩,⟨"way_back",1,eB,gQ⟩,⟨"names_put",1,dt,fX⟩,⟨"names_at_once",3,bT,dk⟩,⟨"wanted_at_begins",4,bJ,c_⟩,⟨"wanted",5,gM,kM⟩,⟨"want_way",5,fg,iI⟩,⟨"_law_mixed",1,cH,eO⟩,⟨"_law_purse",2,dH,(gq (KL K))⟩,⟨"_law_draw",1,aq,aw⟩,⟨"_law_names",2,dI,gr⟩,⟨"_law_part",2,bP,cW⟩,⟨"_law_worth",3,cG,eM⟩,⟨"_law_ending",3,cf,dO⟩,⟨"_law_program",4,cQ,fj⟩,⟨"_law_given",2,dM,gw⟩,⟨"_law_leads",1,dJ,gu⟩,⟨"_law_is_used",1,cR,fk⟩,⟨"law",6,jS,(uJ (KL K))⟩]
def top(i:Nat):Stmt:=PySem.Challenge.pw_oncenames_k18_whole_unwanted_is_unneeded.main.body.getD i (.Pass ⟨0,0,0,0⟩)
abbrev zb:Stmt:=top 5
theorem HB:aL ["first", "second", "measure"] ["first", "second", "measure"] (ay zb):=⟨rfl,rfl,rfl,by decide +kernel,rfl,by decide +kernel,by decide +kernel⟩
abbrev zd:Stmt:=top 6
theorem HC:aL ["first", "second", "measure"] ["first", "second", "measure"] (ay zd):=⟨rfl,rfl,rfl,by decide +kernel,rfl,by decide +kernel,by decide +kernel⟩
abbrev vL:Stmt:=top 7
theorem D7:aL ["first", "second", "measure"] ["first", "second", "measure"] (ay vL):=⟨rfl,rfl,rfl,by decide +kernel,rfl,by decide +kernel,by decide +kernel⟩
abbrev vM:Stmt:=top 8
theorem D9:aL ["first", "second", "measure"] ["first", "second", "measure"] (ay vM):=⟨rfl,rfl,rfl,by decide +kernel,rfl,by decide +kernel,by decide +kernel⟩
abbrev s_same:Stmt:=top 9
theorem HA:aL ["first", "second", "measure"] ["first", "second", "measure"] (ay s_same):=⟨rfl,rfl,rfl,by decide +kernel,rfl,by decide +kernel,by decide +kernel⟩
abbrev md:Stmt:=top 15
theorem xr:aL ["part", "worths"] ["part", "worths"] (ay md):=⟨rfl,rfl,rfl,by decide +kernel,rfl,by decide +kernel,by decide +kernel⟩
abbrev kA:Stmt:=top 14
theorem vG:aL ["worth", "worths", "measure", "op"] ["worth", "worths", "measure"] (ay kA):=⟨rfl,rfl,rfl,by decide +kernel,rfl,by decide +kernel,by decide +kernel⟩
abbrev qT:Stmt:=top 13
theorem B8:aL ["ending", "worths"] ["ending", "worths"] (ay qT):=⟨rfl,rfl,rfl,by decide +kernel,rfl,by decide +kernel,by decide +kernel⟩
abbrev mh:Stmt:=top 12
theorem xv:aL ["deeds", "worths", "told", "measure", "deed"] ["deeds", "worths", "told", "measure"] (ay mh):=⟨rfl,rfl,rfl,by decide +kernel,rfl,by decide +kernel,by decide +kernel⟩
abbrev D':Stmt:=top 11
theorem KG:aL ["program", "given", "many", "measure", "blocks", "worths", "told", "block", "entered", "deeds", "ending"] ["program", "given", "many"] (ay D'):=⟨rfl,rfl,rfl,by decide +kernel,rfl,by decide +kernel,by decide +kernel⟩
abbrev gg:Stmt:=top 21
theorem l9:aL ["ending"] ["ending"] (ay gg):=⟨rfl,rfl,rfl,by decide +kernel,rfl,by decide +kernel,by decide +kernel⟩
abbrev gJ:Stmt:=top 20
theorem mW:aL ["worth"] ["worth"] (ay gJ):=⟨rfl,rfl,rfl,by decide +kernel,rfl,by decide +kernel,by decide +kernel⟩
abbrev ia:Stmt:=top 19
theorem oB:aL ["deed"] ["deed"] (ay ia):=⟨rfl,rfl,rfl,by decide +kernel,rfl,by decide +kernel,by decide +kernel⟩
abbrev jF:Stmt:=top 18
theorem sX:aL ["parts"] ["parts"] (ay jF):=⟨rfl,rfl,rfl,by decide +kernel,rfl,by decide +kernel,by decide +kernel⟩
abbrev ib:Stmt:=top 17
theorem oC:aL ["deed", "used"] ["deed"] (ay ib):=⟨rfl,rfl,rfl,by decide +kernel,rfl,by decide +kernel,by decide +kernel⟩
abbrev me:Stmt:=top 16
theorem xt:aL ["program", "names", "deeds", "ending", "deed"] ["program"] (ay me):=⟨rfl,rfl,rfl,by decide +kernel,rfl,by decide +kernel,by decide +kernel⟩
abbrev fS:Stmt:=top 26
theorem lG:aL ["ending"] ["ending"] (ay fS):=⟨rfl,rfl,rfl,by decide +kernel,rfl,by decide +kernel,by decide +kernel⟩
abbrev mf:Stmt:=top 25
theorem xu:aL ["program", "leads", "block", "deeds", "ending"] ["program"] (ay mf):=⟨rfl,rfl,rfl,by decide +kernel,rfl,by decide +kernel,by decide +kernel⟩
abbrev jE:Stmt:=top 27
theorem sW:aL ["leads", "sources", "source", "block"] ["leads"] (ay jE):=⟨rfl,rfl,rfl,by decide +kernel,rfl,by decide +kernel,by decide +kernel⟩
abbrev ze:Stmt:=top 24
theorem HD:aL ["program", "sources"] ["program"] (ay ze):=⟨rfl,rfl,rfl,by decide +kernel,rfl,by decide +kernel,by decide +kernel⟩
abbrev kC:Stmt:=top 28
theorem vI:aL ["leads", "start", "left_out", "came", "line", "at", "source", "block"] ["leads", "start", "left_out"] (ay kC):=⟨rfl,rfl,rfl,by decide +kernel,rfl,by decide +kernel,by decide +kernel⟩
abbrev l_:Stmt:=top 29
theorem xp:aL ["came", "block", "way"] ["came", "block"] (ay l_):=⟨rfl,rfl,rfl,by decide +kernel,rfl,by decide +kernel,by decide +kernel⟩
abbrev kB:Stmt:=top 34
theorem vH:aL ["deeds"] ["deeds"] (ay kB):=⟨rfl,rfl,rfl,by decide +kernel,rfl,by decide +kernel,by decide +kernel⟩
abbrev ic:Stmt:=top 35
theorem oD:aL ["block", "deeds", "ending", "put", "used", "deed"] ["block"] (ay ic):=⟨rfl,rfl,rfl,by decide +kernel,rfl,by decide +kernel,by decide +kernel⟩
abbrev fR:Stmt:=top 33
theorem lF:aL ["program", "blocks", "sources", "puts", "begins", "line", "at", "name", "source"] ["program"] (ay fR):=⟨rfl,rfl,rfl,by decide +kernel,rfl,by decide +kernel,by decide +kernel⟩
abbrev qS:Stmt:=top 31
theorem B7:aL ["program", "begins", "told", "at", "deeds", "ending", "behind"] ["program"] (ay qS):=⟨rfl,rfl,rfl,by decide +kernel,rfl,by decide +kernel,by decide +kernel⟩
abbrev ma:Stmt:=top 32
theorem xq:aL ["program", "block", "name", "blocks", "leads", "source", "deeds", "ending", "came", "last"] ["program", "block", "name"] (ay ma):=⟨rfl,rfl,rfl,by decide +kernel,rfl,by decide +kernel,by decide +kernel⟩
abbrev jJ:Stmt:=top 37
theorem s_:aL ["_law_cell", "_law_k", "_law_number"] ["_law_cell", "_law_k"] (ay jJ):=⟨rfl,rfl,rfl,by decide +kernel,rfl,by decide +kernel,by decide +kernel⟩
abbrev jH:Stmt:=top 38
theorem sZ:aL ["_law_script", "_law_cells", "_law_number", "_law_k"] ["_law_script"] (ay jH):=⟨rfl,rfl,rfl,by decide +kernel,rfl,by decide +kernel,by decide +kernel⟩
abbrev kE:Stmt:=top 39
theorem vK:aL ["_law_purse_here", "_law_out_of", "_law_drawn"] ["_law_purse_here", "_law_out_of"] (ay kE):=⟨rfl,rfl,rfl,by decide +kernel,rfl,by decide +kernel,by decide +kernel⟩
abbrev jI:Stmt:=top 40
theorem s9:aL ["_law_purse_here", "_law_letters", "_law_stem", "_law_base", "_law_some"] ["_law_purse_here"] (ay jI):=⟨rfl,rfl,rfl,by decide +kernel,rfl,by decide +kernel,by decide +kernel⟩
abbrev kD:Stmt:=top 41
theorem vJ:aL ["_law_purse_here", "_law_names_here", "_law_measure"] ["_law_purse_here", "_law_names_here", "_law_measure"] (ay kD):=⟨rfl,rfl,rfl,by decide +kernel,rfl,by decide +kernel,by decide +kernel⟩
abbrev jG:Stmt:=top 42
theorem sY:aL ["_law_purse_here", "_law_names_here", "_law_measure", "_law_way", "_law_one"] ["_law_purse_here", "_law_names_here", "_law_measure"] (ay jG):=⟨rfl,rfl,rfl,by decide +kernel,rfl,by decide +kernel,by decide +kernel⟩
abbrev i8:Stmt:=top 43
theorem qR:aL ["_law_purse_here", "_law_names_here", "_law_measure", "_law_block", "_law_many", "_law_way", "_law_one", "_law_other"] ["_law_purse_here", "_law_names_here", "_law_measure", "_law_block", "_law_many"] (ay i8):=⟨rfl,rfl,rfl,by decide +kernel,rfl,by decide +kernel,by decide +kernel⟩
abbrev iD:Stmt:=top 44
theorem pY:aL ["_law_purse_here", "_law_most", "_law_names_here", "_law_measure", "_law_many", "_law_blocks", "_law_block", "_law_deeds", "_law_k", "_law_name"] ["_law_purse_here", "_law_most"] (ay iD):=⟨rfl,rfl,rfl,by decide +kernel,rfl,by decide +kernel,by decide +kernel⟩
abbrev jL:Stmt:=top 46
theorem tm:aL ["_law_purse_here", "_law_program_here", "_law_given_here", "_law_deeds", "_law_ending_here", "_law_deed", "_law_part_here"] ["_law_purse_here", "_law_program_here"] (ay jL):=⟨rfl,rfl,rfl,by decide +kernel,rfl,by decide +kernel,by decide +kernel⟩
abbrev jK:Stmt:=top 47
theorem tf:aL ["_law_program_here", "_law_found", "_law_deeds", "_law_ending_here"] ["_law_program_here"] (ay jK):=⟨rfl,rfl,rfl,by decide +kernel,rfl,by decide +kernel,by decide +kernel⟩
abbrev iF:Stmt:=top 48
theorem pZ:aL ["_law_block", "_law_name", "_law_deeds", "_law_ending_here", "_law_deed"] ["_law_block", "_law_name"] (ay iF):=⟨rfl,rfl,rfl,by decide +kernel,rfl,by decide +kernel,by decide +kernel⟩
abbrev uw:Stmt:=top 49
theorem KI:aL ["_law_script", "_law_purse_here", "_law_program_here", "_law_given_here", "_law_found", "_law_leads_here", "_law_due", "_law_name", "_law_other", "_law_block"] ["_law_script"] (ay uw):=⟨rfl,rfl,rfl,by decide +kernel,rfl,by decide +kernel,by decide +kernel⟩
section
variable {P:Program}{w:World}{K:PySem.W.Frag}{mg:Str->Option Value}{base:Heap}{f:Addr}{fd:FuncData}
theorem AQ(F:iQ K "plus" "plus" zb f fd)(T:Txt mg)(G:Gs P w K mg base (sig K) 0):cA P w K mg base iy 1 f fd ["first", "second", "measure"] (fZ iq v8):=
 jQ F HB rfl (by decide) B' fun eE A outer s H E hr hu ee=>
  (ak (aJ (aQ gL cw (aQ gj dA pP pP) pP)))
theorem AR(F:iQ K "less" "less" zd f fd)(T:Txt mg)(G:Gs P w K mg base (sig K) 1):cA P w K mg base iy 1 f fd ["first", "second", "measure"] (fZ lr v9):=
 jQ F HC rfl (by decide) Ca fun eE A outer s H E hr hu ee=>
  (ak (aJ (aQ gL cw (aQ zt dA pP pP) pP)))
theorem xM(F:iQ K "times" "times" vL f fd)(T:Txt mg)(G:Gs P w K mg base (sig K) 2):cA P w K mg base iy 1 f fd ["first", "second", "measure"] (fZ jm qp):=
 jQ F D7 rfl (by decide) zl fun eE A outer s H E hr hu ee=>
  (ak (aJ (aQ gL cw (aQ i_ cw pP pP) pP)))
theorem xR(F:iQ K "below" "below" vM f fd)(T:Txt mg)(G:Gs P w K mg base (sig K) 3):cA P w K mg base iy 1 f fd ["first", "second", "measure"] (fZ jn qr):=
 jQ F D9 rfl (by decide) zm fun eE A outer s H E hr hu ee=>
  (ak (aJ (mN (aT xG mC pP pP (bo _)) af af)))
theorem AO(F:iQ K "same" "same" s_same f fd)(T:Txt mg)(G:Gs P w K mg base (sig K) 4):cA P w K mg base iy 1 f fd ["first", "second", "measure"] (fZ lq v7):=
 jQ F HA rfl (by decide) B_ fun eE A outer s H E hr hu ee=>
  (ak (aJ (mN (aT eV e7 pP pP (bo _)) af af)))
theorem xN(F:iQ K "part_now" "part_now" md f fd)(T:Txt mg)(G:Gs P w K mg base (sig K) 5):cA P w K mg base iy 1 f fd ["part", "worths"] (fZ cq dN):=
 jQ F xr rfl (by decide) tw fun eE A outer s H E hr hu ee=>
  (ak (aJ (mN (aT eV e7 (eT pP af) bI (bo _)) (eT pP af) (g2 pP (eT pP af) af))))
theorem vV(F:iQ K "worth_now" "worth_now" kA f fd)(T:Txt mg)(G:Gs P w K mg base (sig K) 6){yw gW gX fB fC gU:Addr}(rH:mg "OPS" = some (.ref yw))(sN:n6 P w base yw (ni [("plus",gW),("less",gX),("times",fB),("below",fC),("same",gU)]))(Ge:∀a m,Rg gW gX fB fC gU a m->sM P w K mg base a 1 (fZ iq m)):cA P w K mg base iy 2 f fd ["worth", "worths", "measure"] (fZ dr fW):=
 jQ F vG rfl (by decide) (qX gW gX fB fC gU) fun eE A outer s H E hr hu ee=>
  (ag (cU (jx (oO rH sN (eT pP af)))
   (ak (aJ (cl (G.at 5) (ab pP (ab pP ah)))))
   bq)
   (ag (sO (oG rH sN (eT pP af)))
   (ak (aJ (cL Ge (ab (cl (G.at 5) (ab (eT pP af) (ab pP ah))) (ab (cl (G.at 5) (ab (eT pP af) (ab pP ah))) (ab pP ah))))))))
theorem Cj(F:iQ K "led_on" "led_on" qT f fd)(T:Txt mg)(G:Gs P w K mg base (sig K) 7):cA P w K mg base iy 2 f fd ["ending", "worths"] (fZ gO kN):=
 jQ F B8 rfl (by decide) xB fun eE A outer s H E hr hu ee=>
  (ag (cU (aT eV e7 (eT pP af) bI (bo _))
   (ak (aJ (eT pP af)))
   bq)
   (ak (aJ (mN (aT AM A8 (cl (G.at 5) (ab (eT pP af) (ab pP ah))) af (bo _)) (eT pP af) (eT pP af)))))
theorem xQ(F:iQ K "do_deeds" "do_deeds" mh f fd)(T:Txt mg)(G:Gs P w K mg base (sig K) 8):cA P w K mg base iy 3 f fd ["deeds", "worths", "told", "measure"] (fZ fh iJ):=
 jQ F xv rfl (by decide) tG fun eE A outer s H E hr hu ee=>
  (ak (c8 PassesOwn.never rfl (bX pP) gN
   (ak (cU (aT eV e7 (eT pP af) bI (bo _))
   (ak (dP (eT pP af) (cl (G.at 6) (ab (eT pP af) (ab pP (ab pP ah))))))
   (ak (mA (ab (cl (G.at 5) (ab (eT pP af) (ab pP ah))) ah)))))))
theorem Lw(F:iQ K "run" "run" D' f fd)(T:Txt mg)(G:Gs P w K mg base (sig K) 9):cA P w K mg base iy 4 f fd ["program", "given", "many"] (fZ kK rF):=
 jQ F KG rfl (by decide) pure_run fun eE A outer s H E hr hu ee=>
  (ag (qB pC (fE rfl (aW gN (aW gF dU))))
   (ag (sO (nD T.dict (ab pP ah)))
   (ag (sO (bF ah))
   (ag (sO af)
   (ag (c8 PassesOwn.never rfl (iR T.range (ab pC ah)) gN
   (ag (qB (eL pP pP) (fE rfl (aW gF (aW gF dU))))
   (ag (GH (cl (G.at 8) (ab pP (ab pP (ab pP (ab pP ah))))))
   (ag (cU (aT eV e7 (eT pP af) bI (bo _))
   (ak (aJ (fc (ab pM (ab lS ah)))))
   bq)
   (ak (sO (cl (G.at 7) (ab pP (ab pP ah)))))))))
   (ak (aJ (fc (ab pM (ab lS ah))))))))))
theorem mr(F:iQ K "parts_of_ending" "parts_of_ending" gg f fd)(T:Txt mg)(G:Gs P w K mg base (sig K) 10):cA P w K mg base iy 1 f fd ["ending"] (fZ bB cM):=
 jQ F l9 rfl (by decide) kF fun eE A outer s H E hr hu ee=>
  (ak (aJ (mN (aT eV e7 (eT pP af) bI (bo _)) (bF (ab (eT pP af) ah)) (bF ah))))
theorem nj(F:iQ K "parts_of_worth" "parts_of_worth" gJ f fd)(T:Txt mg)(G:Gs P w K mg base (sig K) 11){yw gW gX fB fC gU:Addr}(rH:mg "OPS" = some (.ref yw))(sN:n6 P w base yw (ni [("plus",gW),("less",gX),("times",fB),("below",fC),("same",gU)])):cA P w K mg base iy 1 f fd ["worth"] (fZ b_ d_):=
 jQ F mW rfl (by decide) lH fun eE A outer s H E hr hu ee=>
  (ak (aJ (mN (jx (oI rH sN (eT pP af))) (bF (ab (eT pP af) (ab (eT pP af) ah))) (bF (ab pC ah)))))
theorem oM(F:iQ K "parts_of_deed" "parts_of_deed" ia f fd)(T:Txt mg)(G:Gs P w K mg base (sig K) 12):cA P w K mg base iy 2 f fd ["deed"] (fZ bS di):=
 jQ F oB rfl (by decide) mi fun eE A outer s H E hr hu ee=>
  (ak (aJ (mN (aT eV e7 (eT pP af) bI (bo _)) (cl (G.at 11) (ab (eT pP af) ah)) (bF (ab (eT pP af) ah)))))
theorem tI(F:iQ K "names_used" "names_used" jF f fd)(T:Txt mg)(G:Gs P w K mg base (sig K) 13):cA P w K mg base iy 1 f fd ["parts"] (fZ bW du):=
 jQ F sX rfl (by decide) p4 fun eE A outer s H E hr hu ee=>
  (ak (aJ (jy (pq (ks:=["part"]) (N2:=["#0"]) (by decide +kernel)) rfl (bX pP) (fun _ _ _ _ _=>gN) (fun _ _ _ _ _=>(mL (aT eV e7 (eT pP af) bI (bo _)))) (fun _ _ _ _ _=>(eT pP af)))))
theorem oN(F:iQ K "names_of_deed" "names_of_deed" ib f fd)(T:Txt mg)(G:Gs P w K mg base (sig K) 14):cA P w K mg base iy 3 f fd ["deed"] (fZ cC eY):=
 jQ F oC rfl (by decide) mj fun eE A outer s H E hr hu ee=>
  (ag (sO (cl (G.at 13) (ab (cl (G.at 12) (ab pP ah)) ah)))
   (ak (aJ (mN (aT eV e7 (eT pP af) bI (bo _)) (aQ qo wm (bF (ab (eT pP af) ah)) pP) pM))))
theorem xO(F:iQ K "names_of" "names_of" me f fd)(T:Txt mg)(G:Gs P w K mg base (sig K) 15):cA P w K mg base iy 4 f fd ["program"] (fZ eC gR):=
 jQ F xt rfl (by decide) tE fun eE A outer s H E hr hu ee=>
  (ag (sO (bF ah))
   (ag (c8 PassesOwn.never rfl (bX (eT pP af)) (fE rfl (aW gN (aW gN dU)))
   (ag (c8 PassesOwn.never rfl (bX pP) gN
   (ak (mE (ab (cl (G.at 14) (ab pP ah)) ah))))
   (ak (mE (ab (cl (G.at 13) (ab (cl (G.at 10) (ab pP ah)) ah)) ah)))))
   (ak (aJ (Wb T.sorted T.set pP)))))
theorem lJ(F:iQ K "blocks_of_ending" "blocks_of_ending" fS f fd)(T:Txt mg)(G:Gs P w K mg base (sig K) 16):cA P w K mg base iy 1 f fd ["ending"] (fZ bp cD):=
 jQ F lG rfl (by decide) ki fun eE A outer s H E hr hu ee=>
  (ag (cU (aT eV e7 (eT pP af) bI (bo _))
   (ak (aJ (bF (ab (eT pP af) ah))))
   bq)
   (ag (cU (aT eV e7 (eT pP af) bI (bo _))
   (ak (aJ (mN (aT eV e7 (eT pP af) (eT pP af) (bo _)) (bF (ab (eT pP af) ah)) (bF (ab (eT pP af) (ab (eT pP af) ah))))))
   bq)
   (ak (aJ (bF ah)))))
theorem xP(F:iQ K "leads_of" "leads_of" mf f fd)(T:Txt mg)(G:Gs P w K mg base (sig K) 17):cA P w K mg base iy 2 f fd ["program"] (fZ cV fi):=
 jQ F xu rfl (by decide) tF fun eE A outer s H E hr hu ee=>
  (ag (sO (qC (pG T.J4) (bF (ab af ah))))
   (ag (c8 PassesOwn.never rfl (iE T.enumerate (eT pP af)) (fE rfl (aW gN (aW (fE rfl (aW gN (aW gN dU))) dU)))
   (ak (dP pP (cl (G.at 16) (ab pP ah)))))
   (ak (aJ pM))))
theorem tH(F:iQ K "sources_of" "sources_of" jE f fd)(T:Txt mg)(G:Gs P w K mg base (sig K) 18):cA P w K mg base iy 1 f fd ["leads"] (fZ dG ir):=
 jQ F sW rfl (by decide) p3 fun eE A outer s H E hr hu ee=>
  (ag (vj false hu gN (pq (ks:=["block"]) (N2:=["#0", "#1", "#2", "#3"]) (by decide +kernel)) rfl pP (fun _ _ _ _ _=>gN) (fun _ _ _ _ _=>gZ) (fun _ _ _ _ _=>pC) (fun _ _ _ _ _=>(bF ah)) rfl)
   (ag (Af PassesOwn.never rfl pP gN
   (ak (c8 PassesOwn.never rfl (bX (eG pP pP)) gN
   (ak (w5 (tD Qr) Qr)))))
   (ak (aJ pM))))
theorem Ip(F:iQ K "into" "into" ze f fd)(T:Txt mg)(G:Gs P w K mg base (sig K) 19):cA P w K mg base iy 3 f fd ["program"] (fZ jT rG):=
 jQ F HD rfl (by decide) Cb fun eE A outer s H E hr hu ee=>
  (ag (sF (cl (G.at 18) (ab (cl (G.at 17) (ab pP ah)) ah)))
   (ak (aJ (jy (pq (ks:=["block"]) (N2:=["#0", "sources"]) (by decide +kernel)) rfl (iR T.range (ab (nL T.len (ab (eT pP af) ah)) ah)) (fun _ _ _ _ _=>gN) (fun _ _ _ _ _=>gZ) (fun _ _ _ _ _=>(eG pP pP))))))
theorem vX(F:iQ K "came_from" "came_from" kC f fd)(T:Txt mg)(G:Gs P w K mg base (sig K) 20):cA P w K mg base iy 1 f fd ["leads", "start", "left_out"] (fZ cb dw):=
 jQ F vI rfl (by decide) qZ fun eE A outer s H E hr hu ee=>
  (ag (sO (qC pC yM))
   (ag (sO (bF (ab pC ah)))
   (ag (sO af)
   (ag (qz PassesOwn.never (aT xG mC pP (nL T.len (ab pP ah)) (bo _))
   (ag (sO (eL pP pP))
   (ag (c8 PassesOwn.never rfl (bX (eG pP pP)) gN
   (ak (cU (l5 (aT AM A8 pP pP (bo _)) (k0 (jx (cO pP pP)))).vt
   (ag (dP pP pC)
   (ak (mA (ab pC ah))))
   bq)))
   (ak (uA af)))))
   (ak (aJ pM))))))
theorem xJ(F:iQ K "way_back" "way_back" l_ f fd)(T:Txt mg)(G:Gs P w K mg base (sig K) 21):cA P w K mg base iy 1 f fd ["came", "block"] (fZ eB gQ):=
 jQ F xp rfl (by decide) tp fun eE A outer s H E hr hu ee=>
  (ag (sO (bF ah))
   (ag (qz PassesOwn.never (jx (Ah pP))
   (ag (mA (ab pC ah))
   (ak (sO (eG pP pP)))))
   (ag mR
   (ak (aJ pM)))))
theorem vW(F:iQ K "names_put" "names_put" kB f fd)(T:Txt mg)(G:Gs P w K mg base (sig K) 22):cA P w K mg base iy 1 f fd ["deeds"] (fZ dt fX):=
 jQ F vH rfl (by decide) qY fun eE A outer s H E hr hu ee=>
  (ak (aJ (Dg false hu (pq (ks:=["deed"]) (N2:=["#0"]) (by decide +kernel)) rfl (bX pP) (fun _ _ _ _ _=>gN) (fun _ _ _ _ _=>(mL (aT eV e7 (eT pP af) bI (bo _)))) (fun _ _ _ _ _=>(eT pP af)) (fun _ _ _ _ _=>lS))))
theorem oP(F:iQ K "names_at_once" "names_at_once" ic f fd)(T:Txt mg)(G:Gs P w K mg base (sig K) 23):cA P w K mg base iy 3 f fd ["block"] (fZ bT dk):=
 jQ F oD rfl (by decide) ml fun eE A outer s H E hr hu ee=>
  (ag (qB pC (fE rfl (aW gF (aW gF dU))))
   (ag (sO Ag)
   (ag (sO (bF ah))
   (ag (c8 PassesOwn.never rfl (bX pP) gN
   (ag (mE (ab (jy (pq (ks:=["name"]) (N2:=["#0", "#1", "#2", "put", "#4", "#5"]) (by decide +kernel)) rfl (bX (cl (G.at 13) (ab (cl (G.at 12) (ab pP ah)) ah))) (fun _ _ _ _ _=>gN) (fun _ _ _ _ _=>(mL (jx (cO pP pP)))) (fun _ _ _ _ _=>pC)) ah))
   (ak (cU (aT eV e7 (eT pP af) bI (bo _))
   (ak (dP (eT pP af) lS))
   bq))))
   (ag (mE (ab (jy (pq (ks:=["name"]) (N2:=["#0", "#1", "#2", "put", "#4", "#5"]) (by decide +kernel)) rfl (bX (cl (G.at 13) (ab (cl (G.at 10) (ab pP ah)) ah))) (fun _ _ _ _ _=>gN) (fun _ _ _ _ _=>(mL (jx (cO pP pP)))) (fun _ _ _ _ _=>pC)) ah))
   (ak (aJ pM)))))))
theorem lI(F:iQ K "wanted_at_begins" "wanted_at_begins" fR f fd)(T:Txt mg)(G:Gs P w K mg base (sig K) 24):cA P w K mg base iy 4 f fd ["program"] (fZ bJ c_):=
 jQ F lF rfl (by decide) kh fun eE A outer s H E hr hu ee=>
  (ag (sF (eT pP af))
   (ag (sF (cz (G.at 19) (ab pP ah)))
   (ag (qA gF (pq (ks:=["deeds", "ending"]) (N2:=["#0", "#1", "#2", "#3", "#4", "#5", "#6", "#7", "#8"]) (by decide +kernel)) rfl (bX pP) (fun _ _ _ _ _=>(fE rfl (aW gN (aW gN dU)))) (fun _ _ _ _ _=>gZ) (fun _ _ _ _ _=>(cl (G.at 22) (ab pP ah))) rfl)
   (ag (qA gN (pq (ks:=["block"]) (N2:=["#0", "#1", "#2", "#3", "#4", "#5", "#6", "#7", "#8"]) (by decide +kernel)) rfl (bX pP) (fun _ _ _ _ _=>gN) (fun _ _ _ _ _=>gZ) (fun _ _ _ _ _=>Ag) rfl)
   (ag (wY gN (pq (ks:=["at", "block", "name"]) (N2:=["#0", "#1", "#2", "#3", "#4", "#5", "#6", "#7", "#8"]) (by decide +kernel)) rfl (iE T.enumerate pP) (fun _ _ _ _ _=>(fE rfl (aW gN (aW gN dU)))) (fun _ _ _ _ _=>gZ) (fun _ _ _ _ _=>(bX (cl (G.at 23) (ab pP ah)))) (fun _ _ _ _ _=>gN) (fun _ _ _ _ _=>gZ) (fun _ _ _ _ _=>(fc (ab pC (ab pC ah)))) hr.hd rfl)
   (ag (qz PassesOwn.never (mM pP (fun _=>rfl))
   (ag (qB mP (fE rfl (aW gN (aW gN dU))))
   (ag (cU (GD (jx (cI pP (eL pP pP))))
   (ak w4)
   bq)
   (ag (aP (tL Qr) Qr NT)
   (ak (c8 PassesOwn.never rfl (bX (eL pP pP)) gN
   (ak (cU (l5 (aT AM A8 pP (pG T.J4) (bo _)) (k0 (jx (cO pP (eL pP pP))))).vt
   (ak (mA (ab (fc (ab pC (ab pC ah))) ah)))
   bq))))))))
   (ak (aJ pM))))))))
theorem Ci(F:iQ K "wanted" "wanted" qS f fd)(T:Txt mg)(G:Gs P w K mg base (sig K) 25):cA P w K mg base iy 5 f fd ["program"] (fZ gM kM):=
 jQ F B7 rfl (by decide) xA fun eE A outer s H E hr hu ee=>
  (ag (sF (cl (G.at 24) (ab pP ah)))
   (ag (sO (bF ah))
   (ag (c8 PassesOwn.never rfl (iE T.enumerate (eT pP af)) (fE rfl (aW gN (aW (fE rfl (aW gN (aW gN dU))) dU)))
   (ag (vk gF (pq (ks:=["block", "name"]) (N2:=["#0", "begins", "#2", "#3", "#4", "#5", "#6"]) (by decide +kernel)) rfl (bX (cl (G.at 16) (ab pP ah))) (fun _ _ _ _ _=>gN) (fun _ _ _ _ _=>gZ) (fun _ _ _ _ _=>(eL pP pP)) (fun _ _ _ _ _=>gN) (fun _ _ _ _ _=>gZ) (fun _ _ _ _ _=>pC) hr.hd rfl)
   (ak (mA (ab (fc (ab (YW T.sorted (eL pP pP)) (ab (Wb T.sorted T.set pP) ah))) ah)))))
   (ak (aJ pM)))))
theorem xK(F:iQ K "want_way" "want_way" ma f fd)(T:Txt mg)(G:Gs P w K mg base (sig K) 26):cA P w K mg base iy 5 f fd ["program", "block", "name"] (fZ fg iI):=
 jQ F xq rfl (by decide) tq fun eE A outer s H E hr hu ee=>
  (ag (sF (eT pP af))
   (ag (cU (C8 (C9 Ot xG af pC (nL T.len (ab pP ah))))
   (ak wZ)
   bq)
   (ag (cU (aT jP uT pP (cl (G.at 15) (ab pP ah)) (by with_unfolding_all rfl))
   (ak wZ)
   bq)
   (ag (sO (cl (G.at 17) (ab pP ah)))
   (ag (c8 PassesOwn.never rfl (iE T.enumerate pP) (fE rfl (aW gN (aW (fE rfl (aW gN (aW gN dU))) dU)))
   (ak (cU (jx (cI pP (cl (G.at 22) (ab pP ah))))
   (ak (dP pP (bF ah)))
   bq)))
   (ag (sF (cl (G.at 20) (ab pP (ab pP (ab yM ah)))))
   (ag (Af PassesOwn.never rfl pP gN
   (ak (cU (aT oK uT pP (cl (G.at 23) (ab (eL pP pP) ah)) (by with_unfolding_all rfl))
   (ak (aJ (cl (G.at 21) (ab pP (ab pP ah)))))
   bq)))
   (ak (aJ yM)))))))))
theorem tN(F:iQ K "_law_mixed" "_law_mixed" jJ f fd)(T:Txt mg)(G:Gs P w K mg base (sig K) 27):cA P w K mg base iy 1 f fd ["_law_cell", "_law_k"] (fZ cH eO):=
 jQ F s_ rfl (by decide) p8 fun eE A outer s H E hr hu ee=>
  (ag (sO (aQ gL cw pP af))
   (ag (sO (aQ gL cw (aQ i_ cw (aQ gj dA (aQ gj dA (aQ gj dA (aQ i_ cw pP pP) (aQ i_ cw af pP)) (aQ i_ cw af pP)) af) af) af))
   (ag (sO (aQ gL cw (aQ gj dA (aQ i_ cw pP pP) af) af))
   (ak (aJ (aQ gL cw (aQ i_ cw pP (aQ gj dA pP af)) af))))))
theorem tK(F:iQ K "_law_purse" "_law_purse" jH f fd)(T:Txt mg)(G:Gs P w K mg base (sig K) 28):cA P w K mg base iy 2 f fd ["_law_script"] (fZ dH (gq (KL K))):=
 jQ F sZ rfl (by decide) p6 fun eE A outer s H E hr hu ee=>
  (ag (sF (aQ qo wm (Bw pP la (k_ af)) (bF (ab af ah))))
   (ag (sO af)
   (ag (c8 PassesOwn.never rfl (iR T.range (ab af ah)) gN
   (ak (sO (aQ gj dA (aQ i_ cw pP af) (cl (G.at 27) (ab (eL pP (aQ gL cw pP (nL T.len (ab pP ah)))) (ab pP ah)))))))
   (ag (cU (aT Ou mC (eL pP af) (aQ zu cw af af) (bo _))
   (ak (aJ (bF (ab (aQ xH cw (eL pP af) (aQ zu cw af af)) (ab pC ah)))))
   bq)
   (ak (aJ (bF (ab pC (ab pC ah)))))))))
theorem vZ(F:iQ K "_law_draw" "_law_draw" kE f fd)(T:Txt mg)(G:Gs P w K mg base (sig K) 29):cA P w K mg base iy 1 f fd ["_law_purse_here", "_law_out_of"] (fZ aq aw):=
 jQ F vK rfl (by decide) q_ fun eE A outer s H E hr hu ee=>
  (ag (cU (aT eV e7 (eL pP af) af (bo _))
   (ak (lP af (eL pP af)))
   bq)
   (ag (sO (aQ gL cw (eL pP af) pP))
   (ag (lP af (aQ xH cw (eL pP af) pP))
   (ak (aJ pC)))))
theorem tM(F:iQ K "_law_names" "_law_names" jI f fd)(T:Txt mg)(G:Gs P w K mg base (sig K) 30):cA P w K mg base iy 2 f fd ["_law_purse_here"] (fZ dI gr):=
 jQ F s9 rfl (by decide) p7 fun eE A outer s H E hr hu ee=>
  (ag (sO bI)
   (ag (sO (aQ Im IY (eS pP (cl (G.at 29) (ab pP (ab af ah)))) (cl (G.at 29) (ab pP (ab af ah)))))
   (ag (sO (cl (G.at 29) (ab pP (ab af ah))))
   (ag (sO (aQ qo wm (jy (pq (ks:=["_law_k"]) (N2:=["#0", "_law_letters", "_law_stem", "_law_base", "#4"]) (by decide +kernel)) rfl (iR T.range (ab af ah)) (fun _ _ _ _ _=>gN) (fun _ _ _ _ _=>gZ) (fun _ _ _ _ _=>(aQ mq wo pP (eS pP (aQ gL cw (aQ gj dA pP (aQ i_ cw af pP)) af))))) (bF (ab (aQ mq wo pP bI) ah))))
   (ag (cU (aT eV e7 (cl (G.at 29) (ab pP (ab af ah))) af (bo _))
   (ak (aJ (jy (pq (ks:=["_law_k"]) (N2:=["#0", "_law_letters", "_law_stem", "_law_base", "#4"]) (by decide +kernel)) rfl (iR T.range (ab af ah)) (fun _ _ _ _ _=>gN) (fun _ _ _ _ _=>gZ) (fun _ _ _ _ _=>(aQ mq wo pP (eS pP (aQ gL cw (aQ gj dA pP (aQ i_ cw af pP)) af)))))))
   bq)
   (ak (aJ (w8 pP la (k_ (aQ gj dA af (cl (G.at 29) (ab pP (ab af ah)))))))))))))
theorem vY(F:iQ K "_law_part" "_law_part" kD f fd)(T:Txt mg)(G:Gs P w K mg base (sig K) 31):cA P w K mg base iy 2 f fd ["_law_purse_here", "_law_names_here", "_law_measure"] (fZ bP cW):=
 jQ F vJ rfl (by decide) q9 fun eE A outer s H E hr hu ee=>
  (ag (cU (aT eV e7 (cl (G.at 29) (ab pP (ab af ah))) af (bo _))
   (ak (aJ (fc (ab bI (ab (eL (bF (ab af (ab af (ab (aQ zt dA pP af) (ab (cl (G.at 29) (ab pP (ab pP ah))) ah))))) (cl (G.at 29) (ab pP (ab af ah)))) ah)))))
   bq)
   (ak (aJ (fc (ab bI (ab (eL pP (cl (G.at 29) (ab pP (ab (nL T.len (ab pP ah)) ah)))) ah))))))
theorem tJ(F:iQ K "_law_worth" "_law_worth" jG f fd)(T:Txt mg)(G:Gs P w K mg base (sig K) 32):cA P w K mg base iy 3 f fd ["_law_purse_here", "_law_names_here", "_law_measure"] (fZ cG eM):=
 jQ F sY rfl (by decide) p5 fun eE A outer s H E hr hu ee=>
  (ag (sO (cl (G.at 29) (ab pP (ab af ah))))
   (ag (sF (cl (G.at 31) (ab pP (ab pP (ab pP ah)))))
   (ag (cU (aT xG mC pP af (bo _))
   (ak (aJ pC))
   bq)
   (ak (aJ (fc (ab (eL (bF (ab bI (ab bI (ab bI (ab bI (ab bI (ab bI ah))))))) (aQ zt dA pP af)) (ab pC (ab (cl (G.at 31) (ab pP (ab pP (ab pP ah)))) ah)))))))))
theorem rB(F:iQ K "_law_ending" "_law_ending" i8 f fd)(T:Txt mg)(G:Gs P w K mg base (sig K) 33):cA P w K mg base iy 3 f fd ["_law_purse_here", "_law_names_here", "_law_measure", "_law_block", "_law_many"] (fZ cf dO):=
 jQ F qR rfl (by decide) oE fun eE A outer s H E hr hu ee=>
  (ag (sO (cl (G.at 29) (ab pP (ab af ah))))
   (ag (sO (eL (bF (ab (aQ gL cw (aQ gj dA pP af) pP) (ab (cl (G.at 29) (ab pP (ab pP ah))) ah))) (cl (G.at 29) (ab pP (ab af ah)))))
   (ag (sO (eL (bF (ab (aQ gL cw (aQ gj dA pP af) pP) (ab (cl (G.at 29) (ab pP (ab pP ah))) ah))) (cl (G.at 29) (ab pP (ab af ah)))))
   (ag (cU (aT eV e7 pP af (bo _))
   (ak (aJ (fc (ab bI ah))))
   bq)
   (ag (cU (aT xG mC pP af (bo _))
   (ak (aJ (fc (ab bI (ab pC ah)))))
   bq)
   (ak (aJ (fc (ab bI (ab (cl (G.at 31) (ab pP (ab pP (ab pP ah)))) (ab pC (ab pC ah))))))))))))
theorem qa(F:iQ K "_law_program" "_law_program" iD f fd)(T:Txt mg)(G:Gs P w K mg base (sig K) 34):cA P w K mg base iy 4 f fd ["_law_purse_here", "_law_most"] (fZ cQ fj):=
 jQ F pY rfl (by decide) mX fun eE A outer s H E hr hu ee=>
  (ag (sF (cl (G.at 30) (ab pP ah)))
   (ag (sO (eL (bF (ab af (ab af (ab af (ab (aQ zu cw af af) (ab (aQ gj dA af (cl (G.at 29) (ab pP (ab af ah)))) ah)))))) (cl (G.at 29) (ab pP (ab af ah)))))
   (ag (sO (aQ gj dA af (cl (G.at 29) (ab pP (ab pP ah)))))
   (ag (cU (l5 (aT JF mC pP af (bo _)) (k0 (aT eV e7 (cl (G.at 29) (ab pP (ab af ah))) af (bo _)))).vt
   (ag (sO af)
   (ak (sF (w8 pP la (k_ af)))))
   bq)
   (ag (sO (bF ah))
   (ag (c8 PassesOwn.never rfl (iR T.range (ab pC ah)) gN
   (ag (sO (bF ah))
   (ag (c8 PassesOwn.never rfl (iR T.range (ab (cl (G.at 29) (ab pP (ab (eL (bF (ab af (ab af (ab af (ab af ah))))) (cl (G.at 29) (ab pP (ab af ah)))) ah))) ah)) gN
   (ak (cU (aT eV e7 (cl (G.at 29) (ab pP (ab af ah))) af (bo _))
   (ak (mA (ab (fc (ab bI (ab (cl (G.at 31) (ab pP (ab pP (ab pP ah)))) ah))) ah)))
   (ag (sO (eL pP (cl (G.at 29) (ab pP (ab (nL T.len (ab pP ah)) ah)))))
   (ak (mA (ab (fc (ab bI (ab pC (ab (cl (G.at 32) (ab pP (ab pP (ab pP ah)))) ah)))) ah)))))))
   (ak (mA (ab (fc (ab pM (ab (cl (G.at 33) (ab pP (ab pP (ab pP (ab pP (ab pP ah)))))) ah))) ah))))))
   (ak (aJ (fc (ab pC (ab pM ah)))))))))))
theorem tP(F:iQ K "_law_given" "_law_given" jL f fd)(T:Txt mg)(G:Gs P w K mg base (sig K) 35):cA P w K mg base iy 2 f fd ["_law_purse_here", "_law_program_here"] (fZ dM gw):=
 jQ F tm rfl (by decide) p_ fun eE A outer s H E hr hu ee=>
  (ag (sO (qC bI af))
   (ag (c8 PassesOwn.never rfl (bX (eT pP af)) (fE rfl (aW gN (aW gN dU)))
   (ak (c8 PassesOwn.never rfl (bX pP) gN
   (ak (c8 PassesOwn.never rfl (Kd (oe pP (k_ af) la)) gN
   (ag (cU (l5 (mM (wc T.isinstance T.str pP) (fun _=>rfl)) (k0 (aT eV e7 (cl (G.at 29) (ab pP (ab af ah))) af (bo _)))).vt
   (ak (dP pP (cl (G.at 29) (ab pP (ab (eT pP af) ah)))))
   bq)
   (ak (cU (l5 (mM (is_tup T.isinstance T.tuple pP) (fun _=>rfl)) (l5 (aT eV e7 (eT pP af) bI (bo _)) (k0 (aT JF mC (cl (G.at 29) (ab pP (ab af ah))) af (bo _))))).vt
   (ak (dP (eT pP af) (cl (G.at 29) (ab pP (ab (eT pP af) ah)))))
   bq))))))))
   (ak (aJ pM))))
theorem tO(F:iQ K "_law_leads" "_law_leads" jK f fd)(T:Txt mg)(G:Gs P w K mg base (sig K) 36):cA P w K mg base iy 1 f fd ["_law_program_here"] (fZ dJ gu):=
 jQ F tf rfl (by decide) p9 fun eE A outer s H E hr hu ee=>
  (ag (sO (bF ah))
   (ag (c8 PassesOwn.never rfl (bX (eT pP af)) (fE rfl (aW gN (aW gN dU)))
   (ak (cU (aT eV e7 (eT pP af) bI (bo _))
   (ak (mA (ab (bF (ab (eT pP af) (ab (eT pP af) ah))) ah)))
   (ak (mA (ab (nT T.list (ab (oe pP (k_ af) la) ah)) ah))))))
   (ak (aJ pM))))
theorem qb(F:iQ K "_law_is_used" "_law_is_used" iF f fd)(T:Txt mg)(G:Gs P w K mg base (sig K) 37):cA P w K mg base iy 1 f fd ["_law_block", "_law_name"] (fZ cR fk):=
 jQ F pZ rfl (by decide) mY fun eE A outer s H E hr hu ee=>
  (ag (qB pC (fE rfl (aW gF (aW gF dU))))
   (ag (c8 PassesOwn.never rfl (bX pP) gN
   (ak (cU (aT (Lq ee) Mw (fc (ab bI (ab pC ah))) (aQ qo wm (bF (ab (eT pP af) (ab (eT pP (Dc af)) ah))) (nT T.list (ab (oe (eT pP (Dc af)) (k_ af) la) ah))) (by with_unfolding_all rfl))
   (ak (aJ lS))
   bq)))
   (ak (aJ (Kh (vm eV e7 (eT pP af) bI (bo _)) (Kf (vm (Lr ee) Mx (eT pP af) (fc (ab bI (ab pC ah))) (bo _))))))))
theorem Lx(F:iQ K "law" "law" uw f fd)(T:Txt mg)(G:Gs P w K mg base (sig K) 38):cA P w K mg base iy 6 f fd ["_law_script"] (fZ jS (uJ (KL K))):=
 jQ F KI rfl (by decide) Ek fun eE A outer s H E hr hu ee=>
  (ag (sO (cl (G.at 28) (ab pP ah)))
   (ag (sF (cl (G.at 34) (ab pP (ab af ah))))
   (ag (sF (cl (G.at 35) (ab pP (ab pP ah))))
   (ag (sF (cl (G.at 25) (ab pP ah)))
   (ag (sF (cl (G.at 36) (ab pP ah)))
   (ag (sF (cl (G.at 9) (ab pP (ab pP (ab af ah)))))
   (ag (c8 PassesOwn.never rfl (bX (cl (G.at 15) (ab pP ah))) gN
   (ag (cU (aT AM A8 (Kg (Ah (cl (G.at 26) (ab pP (ab af (ab pP ah)))))) (vm oK uT pP (eT (eL pP af) af) (by with_unfolding_all rfl)) (bo _))
   (ak (aJ lS))
   bq)
   (ak (cU (aT jP uT pP (eT (eL pP af) af) (by with_unfolding_all rfl))
   (ag (sO (Df pP))
   (ag (dP pP (cl (G.at 29) (ab pP (ab (eT pP af) ah))))
   (ak (cU (aT (Lp ee) Mr (cl (G.at 9) (ab pP (ab pP (ab af ah)))) pP (bo _))
   (ak (aJ lS))
   bq))))
   bq))))
   (ag (c8 PassesOwn.never rfl (iR T.range (ab (nL T.len (ab pP ah)) ah)) gN
   (ag (c8 PassesOwn.never rfl (bX (eT (eL pP pP) af)) gN
   (ak (cU (aT eV e7 (nL T.len (ab (jy (pq (ks:=["_law_one"]) (N2:=["#0", "#1", "#2", "#3", "_law_found", "#5", "#6", "_law_name", "#8", "#9"]) (by decide +kernel)) rfl (bX (eL pP pP)) (fun _ _ _ _ _=>gN) (fun _ _ _ _ _=>(mL (aT oK uT pP (eT (eL pP pP) af) (by with_unfolding_all rfl)))) (fun _ _ _ _ _=>pC)) ah)) af (bo _))
   (ak (aJ lS))
   bq)))
   (ak (c8 PassesOwn.never rfl (bX (eT (eL pP pP) af)) gN
   (ak (cU (l5 (aT jP uT pP (eT (eL pP pP) af) (by with_unfolding_all rfl)) (k0 (C8 (mM (cl (G.at 37) (ab (eL (eT pP af) pP) (ab pP ah))) (fun _=>rfl))))).vt
   (ak (aJ lS))
   bq))))))
   (ak (aJ lS))))))))))
end
end ON
end
set_option maxHeartbeats 4000000
namespace ON
open PySem L2 VS
theorem all_mk{l:PySem.W.OpenLaw}{w:World}{K:PySem.W.Frag}{h:Heap}{mg:Str->Option Value}{fa f1 f2 f3 f4 f5 f6 f7 f8 f9 f10 f11 f12 f13 f14 f15 f16 f17 f18 f19 f20 f21 f22 f23 f24 f25 f26 f27 f28 f29 f30 f31 f32 f33 f34 f35 f36 f37 f38 f39:Addr}(X:K.In h)(N:h.Ns mainGlobals mg)(Ub:mg "law" = some (.ref fa))
  {Dq:Tok}
  {aO:Addr}{V1 V0 Q7 VZ VY:Tok}{nO:Nat}
  (d1:FD K "plus" zb f1) (d2:FD K "less" zd f2) (d3:FD K "times" vL f3) (d4:FD K "below" vM f4) (d5:FD K "same" s_same f5) (d6:FD K "part_now" md f6) (d7:FD K "worth_now" kA f7) (d8:FD K "led_on" qT f8) (d9:FD K "do_deeds" mh f9) (Vl:FD K "run" D' f10) (Vk:FD K "parts_of_ending" gg f11) (Vj:FD K "parts_of_worth" gJ f12) (Vi:FD K "parts_of_deed" ia f13) (Vh:FD K "names_used" jF f14) (Vg:FD K "names_of_deed" ib f15) (Vf:FD K "names_of" me f16) (Ve:FD K "blocks_of_ending" fS f17) (Vd:FD K "leads_of" mf f18) (Vc:FD K "sources_of" jE f19) (Vb:FD K "into" ze f20) (Va:FD K "came_from" kC f21) (U':FD K "way_back" l_ f22) (U_:FD K "names_put" kB f23) (U9:FD K "names_at_once" ic f24) (U8:FD K "wanted_at_begins" fR f25) (U7:FD K "wanted" qS f26) (U6:FD K "want_way" ma f27) (U5:FD K "_law_mixed" jJ f28) (U4:FD K "_law_purse" jH f29) (U1:FD K "_law_draw" kE f30) (U0:FD K "_law_names" jI f31) (UZ:FD K "_law_part" kD f32) (UY:FD K "_law_worth" jG f33) (UW:FD K "_law_ending" i8 f34) (UU:FD K "_law_program" iD f35) (UR:FD K "_law_given" jL f36) (UQ:FD K "_law_leads" jK f37) (UP:FD K "_law_is_used" iF f38) (UN:FD K "law" uw f39)
  (su:PySem.W.nsIn K mainGlobals "BEGIN" = some (some (.int (-1) Dq)))
  (aD:PySem.W.nsIn K mainGlobals "OPS" = some (some (.ref aO))) (Y8:(aO==sysModules)=false) (lD:K.lookup aO=some {cls:=.type "dict",data:=.dict #[{hash:=PyData.keyHash w.params "plus",key:=.str "plus" V1,val:=.ref f1},{hash:=PyData.keyHash w.params "less",key:=.str "less" V0,val:=.ref f2},{hash:=PyData.keyHash w.params "times",key:=.str "times" Q7,val:=.ref f3},{hash:=PyData.keyHash w.params "below",key:=.str "below" VZ,val:=.ref f4},{hash:=PyData.keyHash w.params "same",key:=.str "same" VY,val:=.ref f5}] nO})
  (z1:PySem.W.nsIn K mainGlobals "range" = some none) (z2:PySem.W.nsIn K mainGlobals "len" = some none) (z3:PySem.W.nsIn K mainGlobals "enumerate" = some none) (z4:PySem.W.nsIn K mainGlobals "list" = some none) (z5:PySem.W.nsIn K mainGlobals "dict" = some none) (z6:PySem.W.nsIn K mainGlobals "isinstance" = some none) (z7:PySem.W.nsIn K mainGlobals "sorted" = some none) (z8:PySem.W.nsIn K mainGlobals "set" = some none) (z9:PySem.W.nsIn K mainGlobals "str" = some none) (RQ:PySem.W.nsIn K mainGlobals "tuple" = some none) :
  ∃fd:FuncData,(∀(s:Shared) (v:Value),BindsTo s fd ⟨[v],[]⟩ [("_law_script",v)])/\∀base:Heap,K.In base->base.Ns mainGlobals mg->cA l.prog w K mg base iy 6 fa fd ["_law_script"] (fZ jS (uJ (KL K))):=by
 have T:Txt mg:=⟨PySem.W.mg_none_of X N z1,PySem.W.mg_none_of X N z2,PySem.W.mg_none_of X N z3,PySem.W.mg_none_of X N z4,PySem.W.mg_none_of X N z5,PySem.W.mg_none_of X N z6,PySem.W.mg_none_of X N z7,PySem.W.mg_none_of X N z8,PySem.W.mg_none_of X N z9,PySem.W.mg_none_of X N RQ,⟨_,PySem.W.mg_of X N su⟩⟩
 have rH:=PySem.W.mg_of X N aD
 obtain⟨_,⟨_,_,_,_,_,_,rfl⟩,F1,m1,k1⟩:=d1.fun X N
 have b1:=F1.binds (ps:=["first", "second", "measure"]) fun _ _ _ _ _ _ us hl=>match us,hl with | [_,_,_],_=>rfl
 obtain⟨_,⟨_,_,_,_,_,_,rfl⟩,F2,m2,k2⟩:=d2.fun X N
 have b2:=F2.binds (ps:=["first", "second", "measure"]) fun _ _ _ _ _ _ us hl=>match us,hl with | [_,_,_],_=>rfl
 obtain⟨_,⟨_,_,_,_,_,_,rfl⟩,F3,m3,k3⟩:=d3.fun X N
 have b3:=F3.binds (ps:=["first", "second", "measure"]) fun _ _ _ _ _ _ us hl=>match us,hl with | [_,_,_],_=>rfl
 obtain⟨_,⟨_,_,_,_,_,_,rfl⟩,F4,m4,k4⟩:=d4.fun X N
 have b4:=F4.binds (ps:=["first", "second", "measure"]) fun _ _ _ _ _ _ us hl=>match us,hl with | [_,_,_],_=>rfl
 obtain⟨_,⟨_,_,_,_,_,_,rfl⟩,F5,m5,k5⟩:=d5.fun X N
 have b5:=F5.binds (ps:=["first", "second", "measure"]) fun _ _ _ _ _ _ us hl=>match us,hl with | [_,_,_],_=>rfl
 obtain⟨_,⟨_,_,_,_,_,_,rfl⟩,F6,m6,k6⟩:=d6.fun X N
 have b6:=F6.binds (ps:=["part", "worths"]) fun _ _ _ _ _ _ us hl=>match us,hl with | [_,_],_=>rfl
 obtain⟨_,⟨_,_,_,_,_,_,rfl⟩,F7,m7,k7⟩:=d7.fun X N
 have b7:=F7.binds (ps:=["worth", "worths", "measure"]) fun _ _ _ _ _ _ us hl=>match us,hl with | [_,_,_],_=>rfl
 obtain⟨_,⟨_,_,_,_,_,_,rfl⟩,F8,m8,k8⟩:=d8.fun X N
 have b8:=F8.binds (ps:=["ending", "worths"]) fun _ _ _ _ _ _ us hl=>match us,hl with | [_,_],_=>rfl
 obtain⟨_,⟨_,_,_,_,_,_,rfl⟩,F9,m9,k9⟩:=d9.fun X N
 have b9:=F9.binds (ps:=["deeds", "worths", "told", "measure"]) fun _ _ _ _ _ _ us hl=>match us,hl with | [_,_,_,_],_=>rfl
 obtain⟨_,⟨_,_,_,_,_,_,rfl⟩,Yp,ZC,k10⟩:=Vl.fun X N
 have b10:=Yp.binds (ps:=["program", "given", "many"]) fun _ _ _ _ _ _ us hl=>match us,hl with | [_,_,_],_=>rfl
 obtain⟨_,⟨_,_,_,_,_,_,rfl⟩,Yo,ZA,k11⟩:=Vk.fun X N
 have b11:=Yo.binds (ps:=["ending"]) fun _ _ _ _ _ _ us hl=>match us,hl with | [_],_=>rfl
 obtain⟨_,⟨_,_,_,_,_,_,rfl⟩,Yn,Zz,Ta⟩:=Vj.fun X N
 have b12:=Yn.binds (ps:=["worth"]) fun _ _ _ _ _ _ us hl=>match us,hl with | [_],_=>rfl
 obtain⟨_,⟨_,_,_,_,_,_,rfl⟩,Ym,Zy,k13⟩:=Vi.fun X N
 have b13:=Ym.binds (ps:=["deed"]) fun _ _ _ _ _ _ us hl=>match us,hl with | [_],_=>rfl
 obtain⟨_,⟨_,_,_,_,_,_,rfl⟩,Yl,Zx,k14⟩:=Vh.fun X N
 have b14:=Yl.binds (ps:=["parts"]) fun _ _ _ _ _ _ us hl=>match us,hl with | [_],_=>rfl
 obtain⟨_,⟨_,_,_,_,_,_,rfl⟩,Yk,Zw,Z_⟩:=Vg.fun X N
 have b15:=Yk.binds (ps:=["deed"]) fun _ _ _ _ _ _ us hl=>match us,hl with | [_],_=>rfl
 obtain⟨_,⟨_,_,_,_,_,_,rfl⟩,Yj,Zv,Z9⟩:=Vf.fun X N
 have b16:=Yj.binds (ps:=["program"]) fun _ _ _ _ _ _ us hl=>match us,hl with | [_],_=>rfl
 obtain⟨_,⟨_,_,_,_,_,_,rfl⟩,Yi,Zu,Z8⟩:=Ve.fun X N
 have b17:=Yi.binds (ps:=["ending"]) fun _ _ _ _ _ _ us hl=>match us,hl with | [_],_=>rfl
 obtain⟨_,⟨_,_,_,_,_,_,rfl⟩,Yh,Zt,Z7⟩:=Vd.fun X N
 have b18:=Yh.binds (ps:=["program"]) fun _ _ _ _ _ _ us hl=>match us,hl with | [_],_=>rfl
 obtain⟨_,⟨_,_,_,_,_,_,rfl⟩,Yg,Zs,ZZ⟩:=Vc.fun X N
 have b19:=Yg.binds (ps:=["leads"]) fun _ _ _ _ _ _ us hl=>match us,hl with | [_],_=>rfl
 obtain⟨_,⟨_,_,_,_,_,_,rfl⟩,Yf,Zr,ZY⟩:=Vb.fun X N
 have b20:=Yf.binds (ps:=["program"]) fun _ _ _ _ _ _ us hl=>match us,hl with | [_],_=>rfl
 obtain⟨_,⟨_,_,_,_,_,_,rfl⟩,Ye,Zq,ZX⟩:=Va.fun X N
 have b21:=Ye.binds (ps:=["leads", "start", "left_out"]) fun _ _ _ _ _ _ us hl=>match us,hl with | [_,_,_],_=>rfl
 obtain⟨_,⟨_,_,_,_,_,_,rfl⟩,Yd,Zp,ZW⟩:=U'.fun X N
 have b22:=Yd.binds (ps:=["came", "block"]) fun _ _ _ _ _ _ us hl=>match us,hl with | [_,_],_=>rfl
 obtain⟨_,⟨_,_,_,_,_,_,rfl⟩,Yc,Zo,ZV⟩:=U_.fun X N
 have b23:=Yc.binds (ps:=["deeds"]) fun _ _ _ _ _ _ us hl=>match us,hl with | [_],_=>rfl
 obtain⟨_,⟨_,_,_,_,_,_,rfl⟩,Yb,Zn,ZU⟩:=U9.fun X N
 have b24:=Yb.binds (ps:=["block"]) fun _ _ _ _ _ _ us hl=>match us,hl with | [_],_=>rfl
 obtain⟨_,⟨_,_,_,_,_,_,rfl⟩,Ya,Zm,ZT⟩:=U8.fun X N
 have b25:=Ya.binds (ps:=["program"]) fun _ _ _ _ _ _ us hl=>match us,hl with | [_],_=>rfl
 obtain⟨_,⟨_,_,_,_,_,_,rfl⟩,X',Zl,ZS⟩:=U7.fun X N
 have b26:=X'.binds (ps:=["program"]) fun _ _ _ _ _ _ us hl=>match us,hl with | [_],_=>rfl
 obtain⟨_,⟨_,_,_,_,_,_,rfl⟩,X_,Zk,ZR⟩:=U6.fun X N
 have b27:=X_.binds (ps:=["program", "block", "name"]) fun _ _ _ _ _ _ us hl=>match us,hl with | [_,_,_],_=>rfl
 obtain⟨_,⟨_,_,_,_,_,_,rfl⟩,X9,Zj,ZQ⟩:=U5.fun X N
 have b28:=X9.binds (ps:=["_law_cell", "_law_k"]) fun _ _ _ _ _ _ us hl=>match us,hl with | [_,_],_=>rfl
 obtain⟨_,⟨_,_,_,_,_,_,rfl⟩,X8,Zi,ZP⟩:=U4.fun X N
 have b29:=X8.binds (ps:=["_law_script"]) fun _ _ _ _ _ _ us hl=>match us,hl with | [_],_=>rfl
 obtain⟨_,⟨_,_,_,_,_,_,rfl⟩,X7,Zh,ZO⟩:=U1.fun X N
 have b30:=X7.binds (ps:=["_law_purse_here", "_law_out_of"]) fun _ _ _ _ _ _ us hl=>match us,hl with | [_,_],_=>rfl
 obtain⟨_,⟨_,_,_,_,_,_,rfl⟩,X6,Zg,ZN⟩:=U0.fun X N
 have b31:=X6.binds (ps:=["_law_purse_here"]) fun _ _ _ _ _ _ us hl=>match us,hl with | [_],_=>rfl
 obtain⟨_,⟨_,_,_,_,_,_,rfl⟩,X5,Zf,ZM⟩:=UZ.fun X N
 have b32:=X5.binds (ps:=["_law_purse_here", "_law_names_here", "_law_measure"]) fun _ _ _ _ _ _ us hl=>match us,hl with | [_,_,_],_=>rfl
 obtain⟨_,⟨_,_,_,_,_,_,rfl⟩,X4,Ze,ZL⟩:=UY.fun X N
 have b33:=X4.binds (ps:=["_law_purse_here", "_law_names_here", "_law_measure"]) fun _ _ _ _ _ _ us hl=>match us,hl with | [_,_,_],_=>rfl
 obtain⟨_,⟨_,_,_,_,_,_,rfl⟩,X3,Zd,ZK⟩:=UW.fun X N
 have b34:=X3.binds (ps:=["_law_purse_here", "_law_names_here", "_law_measure", "_law_block", "_law_many"]) fun _ _ _ _ _ _ us hl=>match us,hl with | [_,_,_,_,_],_=>rfl
 obtain⟨_,⟨_,_,_,_,_,_,rfl⟩,X2,Zb,ZJ⟩:=UU.fun X N
 have b35:=X2.binds (ps:=["_law_purse_here", "_law_most"]) fun _ _ _ _ _ _ us hl=>match us,hl with | [_,_],_=>rfl
 obtain⟨_,⟨_,_,_,_,_,_,rfl⟩,X1,Za,ZI⟩:=UR.fun X N
 have b36:=X1.binds (ps:=["_law_purse_here", "_law_program_here"]) fun _ _ _ _ _ _ us hl=>match us,hl with | [_,_],_=>rfl
 obtain⟨_,⟨_,_,_,_,_,_,rfl⟩,X0,Y',ZH⟩:=UQ.fun X N
 have b37:=X0.binds (ps:=["_law_program_here"]) fun _ _ _ _ _ _ us hl=>match us,hl with | [_],_=>rfl
 obtain⟨_,⟨_,_,_,_,_,_,rfl⟩,XZ,Y_,ZG⟩:=UP.fun X N
 have b38:=XZ.binds (ps:=["_law_block", "_law_name"]) fun _ _ _ _ _ _ us hl=>match us,hl with | [_,_],_=>rfl
 obtain⟨_,⟨kV,dc,pm,an,cd,ct,rfl⟩,F39,Y9,k39⟩:=UN.fun X N
 cases Ub.symm.trans Y9
 refine⟨PySem.W.fnOf "law" "law" (i4 uw) (g6 uw) (ay uw) .none kV dc pm an cd ct,fun s v=>.of_eq rfl,fun base KB GB=>?_⟩
 have sN:n6 l.prog w base aO (ni [("plus",f1),("less",f2),("times",f3),("below",f4),("same",f5)]):=Iw [("plus",V1,f1),("less",V0,f2),("times",Q7,f3),("below",VZ,f4),("same",VY,f5)] (KB _ _ lD) (show([Sum.inr "plus",Sum.inr "less",Sum.inr "times",Sum.inr "below",Sum.inr "same"]:List Key).Nodup by decide +kernel) Y8
 have G0:Gs l.prog w K mg base (sig K) 0:=Gs.zero
 have G1:=G0.snoc rfl (bf m1 (AQ F1 T G0) k1 b1)
 have G2:=G1.snoc rfl (bf m2 (AR F2 T G1) k2 b2)
 have G3:=G2.snoc rfl (bf m3 (xM F3 T G2) k3 b3)
 have G4:=G3.snoc rfl (bf m4 (xR F4 T G3) k4 b4)
 have G5:=G4.snoc rfl (bf m5 (AO F5 T G4) k5 b5)
 have Ge:∀a m,Rg f1 f2 f3 f4 f5 a m->sM l.prog w K mg base a 1 (fZ iq m):=by
  rintro a m (⟨rfl,rfl⟩|⟨rfl,rfl⟩|⟨rfl,rfl⟩|⟨rfl,rfl⟩|⟨rfl,rfl⟩)
  ·exact⟨_,_,AQ F1 T G0,k1,b1⟩
  ·exact⟨_,_,AR F2 T G1,k2,b2⟩
  ·exact⟨_,_,xM F3 T G2,k3,b3⟩
  ·exact⟨_,_,xR F4 T G3,k4,b4⟩
  ·exact⟨_,_,AO F5 T G4,k5,b5⟩
 have G6:=G5.snoc rfl (bf m6 (xN F6 T G5) k6 b6)
 have G7:=G6.snoc rfl (bf m7 (vV F7 T G6 rH sN Ge) k7 b7)
 have G8:=G7.snoc rfl (bf m8 (Cj F8 T G7) k8 b8)
 have G9:=G8.snoc rfl (bf m9 (xQ F9 T G8) k9 b9)
 have XY:=G9.snoc rfl (bf ZC (Lw Yp T G9) k10 b10)
 have XW:=XY.snoc rfl (bf ZA (mr Yo T XY) k11 b11)
 have XU:=XW.snoc rfl (bf Zz (nj Yn T XW rH sN) Ta b12)
 have XT:=XU.snoc rfl (bf Zy (oM Ym T XU) k13 b13)
 have XS:=XT.snoc rfl (bf Zx (tI Yl T XT) k14 b14)
 have XR:=XS.snoc rfl (bf Zw (oN Yk T XS) Z_ b15)
 have XQ:=XR.snoc rfl (bf Zv (xO Yj T XR) Z9 b16)
 have XO:=XQ.snoc rfl (bf Zu (lJ Yi T XQ) Z8 b17)
 have XN:=XO.snoc rfl (bf Zt (xP Yh T XO) Z7 b18)
 have XM:=XN.snoc rfl (bf Zs (tH Yg T XN) ZZ b19)
 have XJ:=XM.snoc rfl (bf Zr (Ip Yf T XM) ZY b20)
 have XI:=XJ.snoc rfl (bf Zq (vX Ye T XJ) ZX b21)
 have XH:=XI.snoc rfl (bf Zp (xJ Yd T XI) ZW b22)
 have XG:=XH.snoc rfl (bf Zo (vW Yc T XH) ZV b23)
 have XF:=XG.snoc rfl (bf Zn (oP Yb T XG) ZU b24)
 have XE:=XF.snoc rfl (bf Zm (lI Ya T XF) ZT b25)
 have XD:=XE.snoc rfl (bf Zl (Ci X' T XE) ZS b26)
 have XC:=XD.snoc rfl (bf Zk (xK X_ T XD) ZR b27)
 have XB:=XC.snoc rfl (bf Zj (tN X9 T XC) ZQ b28)
 have XA:=XB.snoc rfl (bf Zi (tK X8 T XB) ZP b29)
 have Xz:=XA.snoc rfl (bf Zh (vZ X7 T XA) ZO b30)
 have Xy:=Xz.snoc rfl (bf Zg (tM X6 T Xz) ZN b31)
 have Xx:=Xy.snoc rfl (bf Zf (vY X5 T Xy) ZM b32)
 have Xw:=Xx.snoc rfl (bf Ze (tJ X4 T Xx) ZL b33)
 have Xv:=Xw.snoc rfl (bf Zd (rB X3 T Xw) ZK b34)
 have Xu:=Xv.snoc rfl (bf Zb (qa X2 T Xv) ZJ b35)
 have Xt:=Xu.snoc rfl (bf Za (tP X1 T Xu) ZI b36)
 have Xs:=Xt.snoc rfl (bf Y' (tO X0 T Xt) ZH b37)
 have G38:=Xs.snoc rfl (bf Y_ (qb XZ T Xs) ZG b38)
 exact Lx F39 T G38
theorem walk{l:PySem.W.OpenLaw}{q:Program}{loose:List Str}{XP:(Str->Option Value)->Heap->Prop}{YP:World->Heap->Prop}{d:DefRec}{K:Params->PySem.W.Frag}(hn:l.most=some 63)(tS:d.params.defaults=[])
  (hY:∀(w:World) (h:Heap),YP w h->(K w.params).In h)
  (F:∀(w:World) (mg:Str->Option Value) (fa:Addr) (h:Heap),(K w.params).In h->h.Ns mainGlobals mg->mg d.name=some (.ref fa) ->
   ∃fd:FuncData,(∀(s:Shared) (u:Value),BindsTo s fd ⟨[u],[]⟩ [("_law_script",u)])/\∀base:Heap,(K w.params).In base->base.Ns mainGlobals mg->cA l.prog w (K w.params) mg base iy 6 fa fd ["_law_script"] (fZ jS (uJ (KL (K w.params))))) :
  PySem.W.WalkO q loose XP YP l.row.toRowW d [] (fun f vs=>PySem.call f vs):=
 L2.GA (n:=63) (k:=6) (x := "_law_script") (CX:=fun _=>iy) (sp:=fun w=>fZ jS (uJ (KL (K w.params)))) hn (by decide) tS ⟨rfl,by decide,by decide⟩ hY F (fun _ _ a ns hl _ hS=>BM hS fun d hd=>⟨ns,d,rfl,hd.imp id fun z=>⟨a,z.1,z.2⟩,by omega,rfl⟩) fun _ _ _ _ _ z=>z
end ON
open PySem PySem.W PyProof.Rows
local macro_rules | `(tactic| walk_at "fd") => `(tactic| (refine' VS.PF ?na ?nl ?nc ?nk; (case na => k_is); (case nl => k_is); (case nc => k_is); (case nk => k_is)))
namespace PySem.W.Fast
theorem tw13681565800154549277:True:=trivial
theorem tw4786708300816448456:True:=trivial
theorem tw10328929175268225119:True:=trivial
theorem tw8208908907229561440:True:=trivial
theorem tw10775756096623995661:True:=trivial
theorem tw1712264053539235150:True:=trivial
theorem tw11820042473178359841:True:=trivial
theorem tw1158373139185819088:True:=trivial
theorem tw10397451790794496284:True:=trivial
theorem tw11859683928141805694:True:=trivial
theorem tw14031134487956413366:True:=trivial
theorem tw13104068524424322283:True:=trivial
theorem tw17728043680694843048:True:=trivial
theorem tw1659830523604818390:True:=trivial
theorem tw6316204581496599842:True:=trivial
theorem tw17639090403332409783:True:=trivial
theorem tw11292047264954139712:True:=trivial
theorem tw12552997239017298115:True:=trivial
theorem tw9761339300545200113:True:=trivial
theorem tw16163667816606549102:True:=trivial
theorem tw10022037323451917021:True:=trivial
theorem tw17590804831066775686:True:=trivial
theorem tw1091624114889801426:True:=trivial
theorem tw4326546730438775645:True:=trivial
theorem tw9316929763550777585:True:=trivial
theorem tw13099070012858966955:True:=trivial
theorem tw13484186076220258310:True:=trivial
theorem tw3060996855438027270:True:=trivial
theorem tw452445144701037988:True:=trivial
theorem tw1482011872208621946:True:=trivial
theorem tw17395231474974504662:True:=trivial
theorem tw14746093049712159485:True:=trivial
theorem tw6271927773878556296:True:=trivial
theorem tw16027813419454100925:True:=trivial
theorem tw7176442771064372004:True:=trivial
theorem tw17274480498356379988:True:=trivial
theorem tw18304206623561896055:True:=trivial
theorem tw13473454137685883755:True:=trivial
theorem tw10791169721917721324:True:=trivial
theorem tw8372366797018442148:True:=trivial
theorem tw7500830200007697497:True:=trivial
theorem tw11956322768177158019:True:=trivial
theorem tw5103853874839126769:True:=trivial
theorem tw10771927765955829757:True:=trivial
theorem tw282030154756194395:True:=trivial
end PySem.W.Fast
set_option maxRecDepth 100000 in
set_option maxHeartbeats 0 in
theorem PySem.Challenge.cw_oncenames_k18_whole_unwanted_is_unneeded_holds : PySem.Challenge.rw_oncenames_k18_whole_unwanted_is_unneeded.Holds := by
 w_on;o_law;k_head;(case hw=>w_witness2)
 k_fill
 refine ON.walk (l:=PySem.Challenge.rw_oncenames_k18_whole_unwanted_is_unneeded) rfl rfl (fun w h Y=>PySem.W.kIn_of Y) ?F
 case F=>
  intro w mg fa h KX G Pe
  refine' ON.all_mk KX G Pe ?d1 ?d2 ?d3 ?d4 ?d5 ?d6 ?d7 ?d8 ?d9 ?Vl ?Vk ?Vj ?Vi ?Vh ?Vg ?Vf ?Ve ?Vd ?Vc ?Vb ?Va ?U' ?U_ ?U9 ?U8 ?U7 ?U6 ?U5 ?U4 ?U1 ?U0 ?UZ ?UY ?UW ?UU ?UR ?UQ ?UP ?UN ?su ?aD ?nO ?lD ?z1 ?z2 ?z3 ?z4 ?z5 ?z6 ?z7 ?z8 ?z9 ?RQ
  (case d1=>walk_at "fd")
  (case d2=>walk_at "fd")
  (case d3=>walk_at "fd")
  (case d4=>walk_at "fd")
  (case d5=>walk_at "fd")
  (case d6=>walk_at "fd")
  (case d7=>walk_at "fd")
  (case d8=>walk_at "fd")
  (case d9=>walk_at "fd")
  (case Vl=>walk_at "fd")
  (case Vk=>walk_at "fd")
  (case Vj=>walk_at "fd")
  (case Vi=>walk_at "fd")
  (case Vh=>walk_at "fd")
  (case Vg=>walk_at "fd")
  (case Vf=>walk_at "fd")
  (case Ve=>walk_at "fd")
  (case Vd=>walk_at "fd")
  (case Vc=>walk_at "fd")
  (case Vb=>walk_at "fd")
  (case Va=>walk_at "fd")
  (case U'=>walk_at "fd")
  (case U_=>walk_at "fd")
  (case U9=>walk_at "fd")
  (case U8=>walk_at "fd")
  (case U7=>walk_at "fd")
  (case U6=>walk_at "fd")
  (case U5=>walk_at "fd")
  (case U4=>walk_at "fd")
  (case U1=>walk_at "fd")
  (case U0=>walk_at "fd")
  (case UZ=>walk_at "fd")
  (case UY=>walk_at "fd")
  (case UW=>walk_at "fd")
  (case UU=>walk_at "fd")
  (case UR=>walk_at "fd")
  (case UQ=>walk_at "fd")
  (case UP=>walk_at "fd")
  (case UN=>walk_at "fd")
  (case su=>k_is)
  (case aD=>k_is)
  (case nO=>decide)
  (case lD=>k_is)
  (case z1=>k_is)
  (case z2=>k_is)
  (case z3=>k_is)
  (case z4=>k_is)
  (case z5=>k_is)
  (case z6=>k_is)
  (case z7=>k_is)
  (case z8=>k_is)
  (case z9=>k_is)
  (case RQ=>k_is)
